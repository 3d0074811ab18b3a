import Derived.Test.YtfmmllpjgkgeaaaGreatDoorPartM05
import Derived.Test.YtfmmllpjgkgeaaaGreatDoorPartM09
set_option linter.unusedVariables false
set_option linter.unusedSimpArgs false
set_option maxHeartbeats 16000000
set_option maxRecDepth 100000
namespace Go.Proofs.YtfmmllpjgkgeaaaGreatDoor
open Go.Proofs.Tryz Go.RowKit
variable{fs:List oZ}{fv:Value}{w w':World}
structure OL where
 kv:Value
 made:Int
 al:Value
 lost:Int
 had:Bool
 most:Nat
def jW(f:oZ)(x:OL):List Value:=[.int .i64 f.src,.int .i64 f.dst,.int .i64 f.ack,x.kv,.int .i64 x.made,x.al,.int .i64 x.lost,.bool x.had,.int .i64 x.most]
def dB:List oZ->List OL->List Value
 | f::fs,x::xs=>jW f x++dB fs xs
 | _,_=>[]
theorem lq:∀(fs:List oZ)(xs:List OL)(i:Nat)(h:i<fs.length)(h':i<xs.length)(j:Nat),j<9->(dB fs xs)[i*9+j]?=(jW fs[i] xs[i])[j]?
 | [],_,i,h,_,_,_=>by simp at h
 | _::_,[],i,_,h',_,_=>by simp at h'
 | f::fs,x::xs,0,_,_,j,hj=>by rw[dB,List.getElem?_append_left (by simp[jW];omega)];simp
 | f::fs,x::xs,i+1,h,h',j,hj=>by have:=lq fs xs i (by simpa using h) (by simpa using h') j hj;have hl:(jW f x).length=9:=rfl;rw[dB,List.getElem?_append_right (by rw[hl];omega),hl,show(i+1)*9+j-9=i*9+j by omega,this];rfl
theorem uq:∀(fs:List oZ)(xs:List OL)(f:oZ)(x:OL),xs.length=fs.length->dB (fs++[f]) (xs++[x])=dB fs xs++jW f x
 | [],[],f,x,_=>by simp[dB]
 | [],_::_,_,_,h=>by simp at h
 | _::_,[],_,_,h=>by simp at h
 | a::fs,b::xs,f,x,h=>by rw[List.cons_append,List.cons_append,dB,uq fs xs f x (by simpa using h),dB,List.append_assoc]
theorem wC:∀(fs:List oZ)(xs:List OL)(i:Nat)(h:i<fs.length)(h':i<xs.length),xs.length=fs.length->(dB fs xs).set (i*9+7) (.bool true)=dB fs (xs.set i ⟨xs[i].kv,xs[i].made,xs[i].al,xs[i].lost,true,xs[i].most⟩)
 | [],_,i,h,_,_=>by simp at h
 | _::_,[],i,_,h',_=>by simp at h'
 | f::fs,x::xs,0,_,_,_=>by rw[dB,List.set_append_left _ _ (by simp[jW])];rfl
 | f::fs,x::xs,i+1,h,h',he=>by have:=wC fs xs i (by simpa using h) (by simpa using h') (by simpa using he);have hl:(jW f x).length=9:=rfl;rw[dB,List.set_append_right _ _ (by rw[hl];omega),hl,show(i+1)*9+7-9=i*9+7 by omega,this];rfl
structure xg(w:World)(f:oZ)(x:OL):Prop where
 kn:aF 4 w x.kv (bools f.known)
 kl:f.known.length<=500
 al:∃l:List Int,aF 3 w x.al (ints l)/\l.length<=500
 m1:1<=x.most
 m2:x.most<=100000
def gB(w:World)(fv:Value)(fs:List oZ):Prop:=∃xs:List OL,xs.length=fs.length/\w.ownsRow 0 233 9 fv fs.length (dB fs xs)/\∀j(h:j<fs.length)(h':j<xs.length),xg w fs[j] xs[j]
theorem xg.aJ{M:Nat->Prop}{f:oZ}{x:OL}(h:xg w f x)(hc:ay M w w')(h4:∀b,Tagged w b 4->¬M b)(h5:aH w w'):xg w' f x:=by obtain⟨l,h1,h2⟩:=h.al;obtain⟨l',h3,h6⟩:=h1.numbers h5;exact⟨h.kn.aJ hc h4,h.kl,⟨l',h6,by omega⟩,h.m1,h.m2⟩
theorem gB.aJ{M:Nat->Prop}(h:gB w fv fs)(hc:ay M w w')(h3:∀g,fv.ownBlock=some g->¬M g)(h4:∀b,Tagged w b 4->¬M b)(h5:aH w w'):gB w' fv fs:=by obtain⟨xs,h1,h2,h6⟩:=h;exact⟨xs,h1,aZ h2 hc h3,λj a b=>(h6 j a b).aJ hc h4 h5⟩
theorem gB.below(h:gB w fv fs)(hb:Below w.heap.size w w'):gB w' fv fs:=h.aJ (M:=λ_=>False) (ay.of_below hb) (λ_ _ h=>h) (λ_ _ h=>h) (aH.of_below hb)
theorem gB.tag(h:gB w fv fs):∀g,fv.ownBlock=some g->Tagged w g 233:=by obtain⟨xs,_,h2,_⟩:=h;exact nI h2
theorem gB.shape(h:gB w fv fs):∃ao cap,fv=.slice ao fs.length cap/\fs.length<=cap:=by
 obtain⟨xs,_,⟨_,⟨h1,h2⟩|⟨g,cap,cur,h1,_,_,h3,_⟩⟩,_⟩:=h
 ·exact⟨none,0,by rw[h1,h2],by omega⟩
 ·exact⟨_,cap,h1,h3⟩
theorem gB.nil(w:World):gB w (.slice none 0 0) []:=⟨[],rfl,World.ownsRow_nil _ _ _ _,λj h=>absurd h (by simp)⟩
def Zd(f:Int)(len n:Nat):Prop:=n=0↔¬(1<=f/\f<=len)
theorem MP(w:World)(c:Nat)(fv:Value)(fs:List oZ)(h4:w.cell? ⟨c,4,none⟩=some fv)(h:gB w fv fs)(h5:fs.length<=500)(f:Int):Calls prog 112 #[.pointer (some ⟨c,0,none⟩),.int .i64 f] w λe w'=>∃n:Nat,e=.returned (.int .i64 n)/\n<=1000000/\Zd f fs.length n/\w'=w:=by
 obtain⟨ao,cap,hfv,hcap⟩:=h.shape;rw[hfv]at h4;by_cases h1:f<1
 ·clear h hfv;go_enter func112,ntmps112;go_wp2;go_ret;exact⟨0,rfl,by omega,⟨λ_ h9=>by omega,λ_=>rfl⟩,rfl⟩
 ·by_cases h2:(fs.length:Int)<f
  ·clear h hfv;go_enter func112,ntmps112;go_wp2;go_ret;exact⟨0,rfl,by omega,⟨λ_ h9=>by omega,λ_=>rfl⟩,rfl⟩
  ·obtain⟨k,rfl⟩:∃k:Nat,f=(k:Int)+1:=⟨(f-1).toNat,by omega⟩;have hk:k<fs.length:=by omega
   obtain⟨xs,e1,e2,e3⟩:=h;have hk':k<xs.length:=by omega
   have hok:=e3 k hk hk';obtain⟨g,c',rfl⟩:=dL e2 (by omega);have hc8:w.cell? ⟨g,k*9+8,none⟩=some (.int .i64 (xs[k].most)):=by rw[e2.cellAt (k*9+8) (by omega),lq fs xs k hk hk' 8 (by omega)];(first|done|rfl)
   have m1:=hok.m1;have m2:=hok.m2;simp only[Value.slice.injEq]at hfv;obtain⟨rfl,_,rfl⟩:=hfv;clear e2 e3 hok;generalize xs[k].most=mo at *;go_enter func112,ntmps112;go_wp2;go_ret;exact⟨mo,rfl,by omega,⟨λh9=>absurd h9 (by omega),λh9=>absurd (show 1<=(k:Int)+1/\(k:Int)+1<=(fs.length:Int) from⟨by omega,by omega⟩) h9⟩,rfl⟩
def eP(a b:List Bool)(k:Nat):List Bool:=(bY a b).take k++List.replicate (max a.length b.length-k) false
theorem Jl(a b:List Bool)(k:Nat)(h:k<=max a.length b.length):(eP a b k).length=max a.length b.length:=by unfold eP;rw[List.length_append,List.length_take,jJ,List.length_replicate];omega
theorem Jm(a b:List Bool)(k:Nat)(h:k<max a.length b.length):(bools (eP a b k)).set k (.bool (a.getD k false||b.getD k false))=bools (eP a b (k+1)):=by
 have hl:k<(bY a b).length:=by rw[jJ];exact h
 have e1:(bY a b)[k]=(a.getD k false||b.getD k false):=by rw[<- dZ,List.getD_eq_getElem?_getD,List.getElem?_eq_getElem hl];(first|done|rfl)
 unfold bools eP;rw[<- e1,<- List.map_set];congr 1;rw[List.set_append_right _ _ (by rw[List.length_take];omega),List.length_take,Nat.min_eq_left (by omega),Nat.sub_self,show max a.length b.length-k=(max a.length b.length-(k+1))+1 by omega,List.replicate_succ,List.set_cons_zero,List.take_succ_eq_append_getElem hl,List.append_assoc];rfl
theorem FD(a b:List Bool):eP a b 0=List.replicate (max a.length b.length) false:=by unfold eP;simp
theorem Jo(a b:List Bool):eP a b (max a.length b.length)=bY a b:=by unfold eP;rw[<- jJ,List.take_length,Nat.sub_self];simp
theorem heap_put{g k:Nat}{xs:List Value}{e:TypeId}(h:w.heap[g]?=some (.cells xs.toArray e (0,0)))(u:Value):(w.setCell ⟨g,k,none⟩ u).heap[g]?=some (.cells (xs.set k u).toArray e (0,0)):=by simp[World.setCell,Array.getElem?_modify,h]
theorem both_any(w:World)(v1 v2:Value)(a b:List Bool)(h1:aF 4 w v1 (bools a))(h2:aF 4 w v2 (bools b))(ha:a.length<=500)(hb:b.length<=500):Calls prog 176 #[v1,v2] w λe w'=>∃v,e=.returned v/\aF 4 w' v (bools (bY a b))/\Below w.heap.size w w':=by
 obtain⟨i4,hi4,VT,TM,VU⟩:=info_parts Tryz.info4;obtain⟨ao,ac,hv1,_⟩:=h1.shape;obtain⟨bo,bc,hv2,_⟩:=h2.shape;have hla:(bools a).length=a.length:=by simp[bools]
 have hlb:(bools b).length=b.length:=by simp[bools]
 rw[hla]at hv1;rw[hlb]at hv2;have HI1:Hid (∀wx(k:Nat),k<=1000->Below w.heap.size w wx->Calls prog 231 #[v1,.int .i64 k] wx λe w'=>e=.returned (.bool (a.getD k false))/\w'=wx):=λwx k hk hx=>uQ w.heap.size v1 a k wx (by omega) (by omega) (h1.CY.below hx);have HI2:Hid (∀wx(k:Nat),k<=1000->Below w.heap.size w wx->Calls prog 231 #[v2,.int .i64 k] wx λe w'=>e=.returned (.bool (b.getD k false))/\w'=wx):=λwx k hk hx=>uQ w.heap.size v2 b k wx (by omega) (by omega) (h2.CY.below hx);subst hv1 hv2;obtain⟨n,hn⟩:∃n,n=max a.length b.length:=⟨_,rfl⟩;have KI:n<=500:=by omega
 have hmk:∀wx:World,(Instr.makeSlice 163 (.int .i64 n) (.int .i64 n)).run prog wx=.ok (.slice (some ⟨wx.heap.size,0,none⟩) n n) (wx.alloc (.cells (madeCells #[.bool false] n) 4)):=λwx=>run_make_row' 163 4 (.bool false) 1 underlying163 Tryz.info4 rfl .i64 .i64 n (by omega) (by omega) wx;have hm:madeCells #[.bool false] n=(bools (eP a b 0)).toArray:=by rw[FD,<- hn];have:=Bj n;apply Array.ext';rw[show(Value.bool false).cells=#[.bool false]from rfl]at this;rw[this];simp[bools]
 have HA:Hid ((w.alloc (.cells (madeCells #[.bool false] n) 4)).heap[w.heap.size]?=some (.cells (bools (eP a b 0)).toArray 4 (0,0))/\Below w.heap.size w (w.alloc (.cells (madeCells #[.bool false] n) 4))):=⟨by rw[<- hm];exact aA.new w _ _,(Below.refl _ w).alloc (Nat.le_refl _) _⟩;have Ze:Hid (∀k,k<n->(bools (eP a b k)).set k (.bool (a.getD k false||b.getD k false))=bools (eP a b (k+1))):=λk hk=>Jm a b k (by omega);have Hlen:Hid (∀k,k<=n->(bools (eP a b k)).length=n):=λk hk=>by unfold bools;rw[List.length_map,Jl _ _ _ (by omega),hn]
 have Zf:Hid (∀wx,wx.heap[w.heap.size]?=some (.cells (bools (eP a b n)).toArray 4 (0,0))->aF 4 wx (.slice (some ⟨w.heap.size,0,none⟩) n n) (bools (bY a b))):=λwx hx=>by
  have e:eP a b n=bY a b:=by rw[hn];exact Jo a b
  have hl:(bools (bY a b)).length=n:=by unfold bools;rw[List.length_map,jJ,hn]
  rw[e]at hx;exact Or.inr ⟨w.heap.size,0,n,by rw[hl],by omega,⟨_,hx⟩,λj hj=>by rw[Nat.zero_add,cell_of_heap hx,List.getElem?_eq_getElem hj]⟩
 have Hn:Hid (n=max a.length b.length):=hn;clear h1 h2 hla hlb hm hn;by_cases hlt:a.length<b.length
 ·have hnb:n=b.length:=by have:=Hn.out;omega
  subst hnb;go_enter func176,ntmps176;go_wp2;go_loopw [7,8,9] (λv7 _ _ wx=>∃k:Nat,k<=b.length/\v7=.int .i64 k/\wx.heap[w.heap.size]?=some (.cells (bools (eP a b k)).toArray 4 (0,0))/\Below w.heap.size w wx) (λv7 _ _ _=>b.length-(intOf v7).toNat);case atStart=>exact⟨0,by omega,rfl,HA.out.1,HA.out.2⟩
  case round =>
   obtain⟨k,hk,rfl,hh,hbl⟩:=hrel;by_cases hkn:k<b.length
   ·have hcell:wr.cell? ⟨w.heap.size,k,none⟩=some ((bools (eP a b k))[k]'(by rw[Hlen.out k hk];exact hkn)):=by rw[cell_of_heap hh,List.getElem?_eq_getElem]
    have hfz:∀j,wr.frozen? ⟨w.heap.size,j,none⟩=false:=Tagged.frozen ⟨_,hh⟩;have HH:Hid ((wr.setCell ⟨w.heap.size,k,none⟩ (.bool (a.getD k false||b.getD k false))).heap[w.heap.size]?=some (.cells (bools (eP a b (k+1))).toArray 4 (0,0))/\Below w.heap.size w (wr.setCell ⟨w.heap.size,k,none⟩ (.bool (a.getD k false||b.getD k false)))):=⟨by rw[<- Ze.out k hkn];exact heap_put hh _,hbl.setCell (p:=⟨w.heap.size,k,none⟩) (Nat.le_refl _) _⟩;have HB:Hid (_):=hbl;have H1k:Hid (∀wx,Below w.heap.size w wx->_):=λwx hx=>HI1.out wx k (by omega) hx;have H2k:Hid (∀wx,Below w.heap.size w wx->_):=λwx hx=>HI2.out wx k (by omega) hx;generalize a.getD k false=x1 at *;generalize b.getD k false=x2 at *;clear hh hbl;generalize (bools (eP a b k))[k]'(by rw[Hlen.out k hk];exact hkn)=u at *;go_wp2_with fail;refine Calls.mono (H1k.out _ HB.out) ?_;rintro e w2⟨rfl,rfl⟩;go_wp2_with fail;refine Calls.mono (H2k.out _ HB.out) ?_;rintro e w3⟨rfl,rfl⟩;cases x1<;>cases x2
    all_goals
     go_wp2;go_roundw;case rel=>exact⟨k+1,by omega,by go_num,HH.out.1,HH.out.2⟩
     case measure=>simp[intOf];omega
   ·have hkk:k=b.length:=by omega
    subst hkk;have HF:Hid (_):=Zf.out _ hh;go_wp2;go_ret;exact⟨_,rfl,HF.out,hbl⟩
 ·have hna:n=a.length:=by have:=Hn.out;omega
  subst hna;go_enter func176,ntmps176;go_wp2;go_loopw [7,8,9] (λv7 _ _ wx=>∃k:Nat,k<=a.length/\v7=.int .i64 k/\wx.heap[w.heap.size]?=some (.cells (bools (eP a b k)).toArray 4 (0,0))/\Below w.heap.size w wx) (λv7 _ _ _=>a.length-(intOf v7).toNat);case atStart=>exact⟨0,by omega,rfl,HA.out.1,HA.out.2⟩
  case round =>
   obtain⟨k,hk,rfl,hh,hbl⟩:=hrel;by_cases hkn:k<a.length
   ·have hcell:wr.cell? ⟨w.heap.size,k,none⟩=some ((bools (eP a b k))[k]'(by rw[Hlen.out k hk];exact hkn)):=by rw[cell_of_heap hh,List.getElem?_eq_getElem]
    have hfz:∀j,wr.frozen? ⟨w.heap.size,j,none⟩=false:=Tagged.frozen ⟨_,hh⟩;have HH:Hid ((wr.setCell ⟨w.heap.size,k,none⟩ (.bool (a.getD k false||b.getD k false))).heap[w.heap.size]?=some (.cells (bools (eP a b (k+1))).toArray 4 (0,0))/\Below w.heap.size w (wr.setCell ⟨w.heap.size,k,none⟩ (.bool (a.getD k false||b.getD k false)))):=⟨by rw[<- Ze.out k hkn];exact heap_put hh _,hbl.setCell (p:=⟨w.heap.size,k,none⟩) (Nat.le_refl _) _⟩;have HB:Hid (_):=hbl;have H1k:Hid (∀wx,Below w.heap.size w wx->_):=λwx hx=>HI1.out wx k (by omega) hx;have H2k:Hid (∀wx,Below w.heap.size w wx->_):=λwx hx=>HI2.out wx k (by omega) hx;generalize a.getD k false=x1 at *;generalize b.getD k false=x2 at *;clear hh hbl;generalize (bools (eP a b k))[k]'(by rw[Hlen.out k hk];exact hkn)=u at *;go_wp2_with fail;refine Calls.mono (H1k.out _ HB.out) ?_;rintro e w2⟨rfl,rfl⟩;go_wp2_with fail;refine Calls.mono (H2k.out _ HB.out) ?_;rintro e w3⟨rfl,rfl⟩;cases x1<;>cases x2
    all_goals
     go_wp2;go_roundw;case rel=>exact⟨k+1,by omega,by go_num,HH.out.1,HH.out.2⟩
     case measure=>simp[intOf];omega
   ·have hkk:k=a.length:=by omega
    subst hkk;have HF:Hid (_):=Zf.out _ hh;go_wp2;go_ret;exact⟨_,rfl,HF.out,hbl⟩
theorem aF.P6{v:Value}{l:List Int}(h:aF 3 w v (ints l)){a:Nat}(ha:a<l.length):∃b off cap,v=.slice (some ⟨b,off,none⟩) l.length cap/\l.length<=cap/\w.cell? ⟨b,off+a,none⟩=some (.int .i64 l[a]):=by
 have hl:(ints l).length=l.length:=by simp[ints]
 rcases h with⟨_,h2⟩|⟨b,off,cap,h1,h2,h3,h4⟩
 ·have:l=[]:=by simpa[ints]using h2
  subst this;simp at ha
 ·refine⟨b,off,cap,by rw[h1,hl],by omega, ?_⟩;rw[h4 a (by omega)];simp[ints]
theorem MQ(w:World)(c:Nat)(fv:Value)(fs:List oZ)(h4:w.cell? ⟨c,4,none⟩=some fv)(h:gB w fv fs)(h5:fs.length<=500)(g:oZ)(x:OL)(hg:aF 4 w x.kv (bools g.known))(hgl:g.known.length<=500)(al:List Int)(hal:aF 3 w x.al (ints al))(hall:al.length<=500)(hcnt:∀f∈fs,f.ack=0->f.src=g.src->cnt f.known<=cnt g.known):Calls prog 175 #[.pointer (some ⟨c,0,none⟩),.agg (jW g x).toArray] w λe w'=>∃n:Nat,e=.returned (.int .i64 n)/\1<=n/\n<=100000/\Below w.heap.size w w':=by
 have hcl:c<w.heap.size:=World.block_lt_of_cell? w ⟨c,4,none⟩ h4;obtain⟨XY,xma,xal,xlo,xha,xmo⟩:=x;simp only at *;have Zg:(ints al).length=al.length:=by simp[ints]
 obtain⟨ao,ac,hav,hac⟩:=hal.shape;rw[Zg]at hav hac;subst hav;obtain⟨fo,fc,hfv,hfc⟩:=h.shape;obtain⟨W0,hW0⟩:∃W0,W0=w.alloc (.cells (jW g ⟨XY,xma,.slice ao al.length ac,xlo,xha,xmo⟩).toArray 233):=⟨_,rfl⟩;have hb0:Below w.heap.size w W0:=by rw[hW0];exact(Below.refl _ w).alloc (Nat.le_refl _) _
 have kg:aA W0 w.heap.size (jW g ⟨XY,xma,.slice ao al.length ac,xlo,xha,xmo⟩).toArray 233:=by rw[hW0];exact aA.new w _ _
 have hsz0:W0.heap.size=w.heap.size+1:=by rw[hW0];simp
 have h0:=h.below hb0;have Zh:=hal.below hb0;have hg0:=hg.below hb0;have HC:Hid (∀wx,Below W0.heap.size W0 wx->wx.cell? ⟨c,4,none⟩=some (.slice fo fs.length fc)):=λwx hx=>by rw[<- hfv,hx.cell (p:=⟨c,4,none⟩) (show c<W0.heap.size by omega),hb0.cell (p:=⟨c,4,none⟩) hcl];exact h4
 have HG:Hid (∀wx,Below W0.heap.size W0 wx->wx.cell? ⟨w.heap.size,0,none⟩=some (.int .i64 g.src)/\wx.cell? ⟨w.heap.size,1,none⟩=some (.int .i64 g.dst)/\wx.cell? ⟨w.heap.size,3,none⟩=some XY/\wx.cell? ⟨w.heap.size,5,none⟩=some (.slice ao al.length ac)/\wx.cell? ⟨w.heap.size,6,none⟩=some (.int .i64 xlo)):=λwx hx=>by have k:=kg.below hx;exact⟨(k.cell 0).trans rfl,(k.cell 1).trans rfl,(k.cell 3).trans rfl,(k.cell 5).trans rfl,(k.cell 6).trans rfl⟩
 have HA:Hid (∀wx,Below W0.heap.size W0 wx->∀a,a<al.length->∃b off m,ao=some ⟨b,off,none⟩/\wx.cell? ⟨b,off+a,none⟩=some (.int .i64 m)):=λwx hx a ha=>by obtain⟨b,off,cap,e1,_,e3⟩:=(Zh.below hx).P6 ha;simp only[Value.slice.injEq]at e1;exact⟨b,off,_,e1.1,e3⟩
 have HK:Hid (∀wx,Below W0.heap.size W0 wx->aF 4 wx XY (bools g.known)):=λwx hx=>hg0.below hx;have HF:Hid (∀wx,Below W0.heap.size W0 wx->∀k(hk:k<fs.length),∃b kv made hv lost had most,∃hl:List Int,∃ho hc2 ko kc,fo=some ⟨b,0,none⟩/\hv=.slice ho hl.length hc2/\kv=.slice ko fs[k].known.length kc/\hl.length<=hc2/\wx.cell? ⟨b,k*9,none⟩=some (.int .i64 (fs[k].src))/\wx.cell? ⟨b,k*9+1,none⟩=some (.int .i64 (fs[k].dst))/\wx.cell? ⟨b,k*9+2,none⟩=some (.int .i64 (fs[k].ack))/\wx.cell? ⟨b,k*9+3,none⟩=some kv/\wx.cell? ⟨b,k*9+4,none⟩=some (.int .i64 made)/\wx.cell? ⟨b,k*9+5,none⟩=some hv/\wx.cell? ⟨b,k*9+6,none⟩=some (.int .i64 lost)/\wx.cell? ⟨b,k*9+7,none⟩=some (.bool had)/\wx.cell? ⟨b,k*9+8,none⟩=some (.int .i64 most)/\aF 4 wx kv (bools fs[k].known)/\aF 3 wx hv (ints hl)/\hl.length<=500/\fs[k].known.length<=500):=λwx hx k hk=>by
  obtain⟨xs,e1,e2,e3⟩:=h0.below hx;have hk':k<xs.length:=by omega
  have hok:=e3 k hk hk';obtain⟨l,a1,a2⟩:=hok.al;obtain⟨ho,hc2,a3,a4⟩:=a1.shape;have hll:(ints l).length=l.length:=by simp[ints]
  rw[hll]at a3 a4;obtain⟨ko,kc,a5,_⟩:=hok.kn.shape;have hkl:(bools fs[k].known).length=fs[k].known.length:=by simp[bools]
  rw[hkl]at a5;rw[hfv]at e2;obtain⟨b,c',eb⟩:=dL e2 (by omega);simp only[Value.slice.injEq]at eb;obtain⟨eb,_,rfl⟩:=eb;have hce:∀j,j<9->wx.cell? ⟨b,k*9+j,none⟩=(jW fs[k] xs[k])[j]?:=λj hj=>by rw[eb]at e2;rw[e2.cellAt (k*9+j) (by omega),lq fs xs k hk hk' j hj]
  exact⟨b,xs[k].kv,xs[k].made,xs[k].al,xs[k].lost,xs[k].had,xs[k].most,l,ho,hc2,ko,kc,eb,a3,a5,a4,hce 0 (by omega),hce 1 (by omega),hce 2 (by omega),hce 3 (by omega),hce 4 (by omega),hce 5 (by omega),hce 6 (by omega),hce 7 (by omega),hce 8 (by omega),hok.kn,a1,a2,hok.kl⟩
 have P7:Hid (_):=hcnt;have hcg:cnt g.known<=500:=Nat.le_trans (cnt_le _) hgl;have HW0:Hid (w.alloc (.cells (jW g ⟨XY,xma,.slice ao al.length ac,xlo,xha,xmo⟩).toArray 233)=W0):=hW0.symm;have HB0:Hid (_):=hb0;obtain⟨g0,g1,g3,g5,g6⟩:=HG.out W0 (Below.refl _ _);unfold jW;unfold jW at HW0;clear h h0 hal Zh hg hg0 hcnt hW0 kg hfv h4 hb0 Zg;go_enter func175,ntmps175;go_wp2_with fail;rw[HW0.out];go_wp2_with fail;clear g0 g1 g3 g5 g6;go_loopw [5,6,7,8,9,10,11,12] (λv5 v6 _ _ _ _ _ _ wx=>∃k best:Nat,k<=fs.length/\v6=.int .i64 k/\v5=.int .i64 best/\1<=best/\best<=100000/\Below W0.heap.size W0 wx) (λ_ v6 _ _ _ _ _ _ _=>fs.length-(intOf v6).toNat);case atStart=>exact⟨0,200+80*al.length,by omega,rfl,by go_num,by omega,by omega,Below.refl _ _⟩
 case round =>
  obtain⟨k,best,hk,rfl,rfl,hb1,hb2,hbl⟩:=hrel;have c4:=HC.out _ hbl;by_cases hkn:k<fs.length
  ·obtain⟨fb,kv,made,hv,lost,had,most,hl,ho,hc2,ko,kc,rfl,rfl,rfl,hcc,f0,f1,f2,f3,f4,f5,f6,f7,f8,fk,fa,fl,fkl⟩:=HF.out _ hbl k hkn;obtain⟨g0,g1,g3,g5,g6⟩:=HG.out _ hbl;have gA0:∀o,(wr.alloc o).cell? ⟨w.heap.size,0,none⟩=some (.int .i64 g.src):=λo=>(HG.out (wr.alloc o) (hbl.alloc hbl.size o)).1;have gA1:∀o,(wr.alloc o).cell? ⟨w.heap.size,1,none⟩=some (.int .i64 g.dst):=λo=>(HG.out (wr.alloc o) (hbl.alloc hbl.size o)).2.1;have gA6:∀o,(wr.alloc o).cell? ⟨w.heap.size,6,none⟩=some (.int .i64 xlo):=λo=>(HG.out (wr.alloc o) (hbl.alloc hbl.size o)).2.2.2.2;have Zi:Hid (Below W0.heap.size W0 wr):=hbl;have al3:fs.length<=fc:=hfc;have Hfk:Hid (aF 4 wr (.slice ko fs[k].known.length kc) (bools fs[k].known)):=fk;have Hfa:Hid (aF 3 wr (.slice ho hl.length hc2) (ints hl)):=fa;have Hck:Hid (fs[k].ack=0->fs[k].src=g.src->cnt fs[k].known<=cnt g.known):=P7.out fs[k] (List.getElem_mem hkn);have hch:cnt fs[k].known<=500:=Nat.le_trans (cnt_le _) fkl;clear fk fa hbl
   -- behind the copy
   obtain⟨W3,hW3⟩:∃W3,W3=wr.alloc (.cells #[.int .i64 (fs[k].src),.int .i64 (fs[k].dst),.int .i64 (fs[k].ack),.slice ko fs[k].known.length kc,.int .i64 made,.slice ho hl.length hc2,.int .i64 lost,.bool had,.int .i64 most] 233):=⟨_,rfl⟩;have hb3:Below wr.heap.size wr W3:=by rw[hW3];exact(Below.refl _ wr).alloc (Nat.le_refl _) _
   have HB3:Hid (Below W0.heap.size W0 W3):=Zi.out.trans (hb3.mono Zi.out.size);have kh:aA W3 wr.heap.size #[.int .i64 (fs[k].src),.int .i64 (fs[k].dst),.int .i64 (fs[k].ack),.slice ko fs[k].known.length kc,.int .i64 made,.slice ho hl.length hc2,.int .i64 lost,.bool had,.int .i64 most] 233:=by rw[hW3];exact aA.new wr _ _
   have hsz3:W0.heap.size<=wr.heap.size:=Zi.out.size;have hk0:=(kh.cell 0).trans rfl;have hk1:=(kh.cell 1).trans rfl;have hk2:=(kh.cell 2).trans rfl;have hk6:=(kh.cell 6).trans rfl;have hk7:=(kh.cell 7).trans rfl;obtain⟨q0,q1,q3,q5,q6⟩:=HG.out W3 HB3.out;have HH:Hid (∀wx,Below W3.heap.size W3 wx->wx.cell? ⟨wr.heap.size,3,none⟩=some (.slice ko fs[k].known.length kc)/\wx.cell? ⟨wr.heap.size,5,none⟩=some (.slice ho hl.length hc2)/\aF 4 wx (.slice ko fs[k].known.length kc) (bools fs[k].known)/\aF 3 wx (.slice ho hl.length hc2) (ints hl)/\Below W0.heap.size W0 wx):=λwx hx=>by have k':=kh.below hx;exact⟨(k'.cell 3).trans rfl,(k'.cell 5).trans rfl,(Hfk.out.below hb3).below hx,(Hfa.out.below hb3).below hx,HB3.out.trans (hx.mono HB3.out.size)⟩
   have HW3:Hid (wr.alloc (.cells #[.int .i64 (fs[k].src),.int .i64 (fs[k].dst),.int .i64 (fs[k].ack),.slice ko fs[k].known.length kc,.int .i64 made,.slice ho hl.length hc2,.int .i64 lost,.bool had,.int .i64 most] 233)=W3):=hW3.symm;clear hW3 hb3 kh Hfk Hfa;generalize fs[k].src=hsrc at *;generalize fs[k].dst=hdst at *;generalize fs[k].ack=hack at *;by_cases t1:0<hack
   ·have t1':(0:Int)<(hack:Int):=by omega
    go_wp2_with fail;rw[HW3.out];try go_wp2
    go_roundw;case rel=>exact⟨k+1,best,by omega,by go_num,rfl,hb1,hb2,HB3.out⟩
    case measure=>simp[intOf];omega
   ·have t1':¬(0:Int)<(hack:Int):=by omega
    by_cases t2:hsrc=g.src
    ·subst t2;have s2:((g.src:Int) !=(g.src:Int))=false:=bne_self_eq_false _;by_cases t3:hdst=g.dst
     ·subst t3;have s3:((g.dst:Int) !=(g.dst:Int))=false:=bne_self_eq_false _;cases had
      ·go_wp2_with fail;rw[HW3.out];try go_wp2
       go_roundw;case rel=>exact⟨k+1,best,by omega,by go_num,rfl,hb1,hb2,HB3.out⟩
       case measure=>simp[intOf];omega
      ·by_cases t5:lost=xlo
       ·subst t5;have s5:(lost !=lost)=false:=bne_self_eq_false _;have hle:cnt fs[k].known<=cnt g.known:=Hck.out (by omega) rfl;go_wp2_with fail;rw[HW3.out];try go_wp2
        clear f0 f1 f2 f3 f4 f5 f6 f7 f8 g0 g1 g3 g5 g6 gA0 gA1 gA6 hk0 hk1 hk2 hk6 hk7 q0 q1 q3 q5 q6 c4 HW3;go_loopw [8,9,10,11] (λv8 v9 _ _ wx=>∃a gone:Nat,a<=hl.length/\v9=.int .i64 a/\v8=.int .i64 gone/\gone<=a/\Below W3.heap.size W3 wx) (λ_ v9 _ _ _=>hl.length-(intOf v9).toNat);case atStart=>exact⟨0,0,by omega,rfl,rfl,by omega,Below.refl _ _⟩
        case round =>
         obtain⟨a,gone,ha,rfl,rfl,hga,hbl⟩:=hrel;obtain⟨p3,p5,pk,pa,Ua⟩:=HH.out _ hbl;obtain⟨g0,g1,g3,g5,g6⟩:=HG.out _ Ua;by_cases han:a<hl.length
         ·clear pk pa g0 g1 g3 g6 p3;have Wy:Hid (_):=hbl;clear hbl;go_wp2;clear p5 g5 Ua;go_loopw [10,11] (λv10 v11 wx=>∃(b:Nat)(st:Bool),b<=al.length/\v11=.int .i64 b/\v10=.bool st/\Below W3.heap.size W3 wx) (λ_ v11 _=>al.length-(intOf v11).toNat);case atStart=>exact⟨0,false,by omega,rfl,rfl,Wy.out⟩
          case round =>
           obtain⟨b,st,hbn,rfl,rfl,hbl⟩:=hrel;obtain⟨p3,p5,pk,pa,Ua⟩:=HH.out _ hbl;obtain⟨g0,g1,g3,g5,g6⟩:=HG.out _ Ua;by_cases hb':b<al.length
           ·obtain⟨ab,ac7,m1,rfl,ca⟩:=HA.out _ Ua b hb';obtain⟨Vb,hoff,aj6,Zj,al4,ch9⟩:=pa.P6 han;simp only[Value.slice.injEq]at Zj;obtain⟨rfl,_,_⟩:=Zj;generalize hl[a]=m2 at *;have P8:Hid (_):=hbl;clear pk pa hbl Ua g0 g1 g3 g6 p3;cases st
            ·go_wp2_with fail
             go_quiet (fail)
             go_wp2;go_roundw;case rel=>exact⟨b+1,_,by omega,by go_num,rfl,below_drewN P8.out _⟩
             case measure=>simp[intOf];omega
            ·go_wp2_with fail
             go_quiet (fail)
             go_wp2;go_roundw;case rel=>exact⟨b+1,_,by omega,by go_num,rfl,below_drewN P8.out _⟩
             case measure=>simp[intOf];omega
           ·have P8:Hid (_):=hbl;clear pk pa hbl Ua g0 g1 g3 g6 p3;cases st
            ·go_wp2;go_roundw;case rel=>exact⟨a+1,gone+1,by omega,by go_num,by go_num,by omega,P8.out⟩
             case measure=>simp[intOf];omega
            ·go_wp2;go_roundw;case rel=>exact⟨a+1,gone,by omega,by go_num,rfl,by omega,P8.out⟩
             case measure=>simp[intOf];omega
         ·have Wy:Hid (_):=hbl;have HN:Hid (∀(v:Value)(l:List Bool),(aF 4 wr v (bools l)/\l.length<=500)->∀q,Calls prog 111 #[v] (wr.drewN q) λe w'=>e=.returned (.int .i64 (cnt l))/\w'=wr.drewN q):=λv l hv q=>uT wr.heap.size v l _ (by omega) (aF.below hv.1 (below_drewN (Below.refl _ _) q)).CY;have Pk:Hid (aF 4 wr (.slice ko fs[k].known.length kc) (bools fs[k].known)/\fs[k].known.length<=500):=⟨pk,fkl⟩;have Px:Hid (aF 4 wr XY (bools g.known)/\g.known.length<=500):=⟨HK.out _ Ua,hgl⟩;clear pk pa hbl Ua g0 g1 g5 g6;go_wp2_with fail
          go_quiet (first|(go_at_call 111;exact Calls.mono (HN.out _ _ (by first|exact Pk.out|exact Px.out) _) (λ_ _ h=>⟨h.1,_,h.2⟩)))
          clear HN Pk Px;generalize cnt fs[k].known=n1 at *;generalize cnt g.known=n2 at *;have HB9:Hid (Below W0.heap.size W0 (wr.drewN nq)):=by have:=HB3.out.trans (Wy.out.mono HB3.out.size);exact below_drewN this _
          by_cases hmin:(80:Int)+80*((n2:Int)-(n1:Int))+8*(gone:Int)<(best:Int)
          ·go_wp2;go_roundw;case rel=>exact⟨k+1,80+80*(n2-n1)+8*gone,by omega,by go_num,by go_num,by omega,by omega,HB9.out⟩
           case measure=>simp[intOf];omega
          ·go_wp2;go_roundw;case rel=>exact⟨k+1,best,by omega,by go_num,rfl,hb1,hb2,HB9.out⟩
           case measure=>simp[intOf];omega
       ·have t5':(lost !=xlo)=true:=bne_iff_ne.2 t5;go_wp2_with fail;rw[HW3.out];try go_wp2
        go_roundw;case rel=>exact⟨k+1,best,by omega,by go_num,rfl,hb1,hb2,HB3.out⟩
        case measure=>simp[intOf];omega
     ·have t3':((hdst:Int) !=(g.dst:Int))=true:=bne_iff_ne.2 (by omega);go_wp2_with fail;rw[HW3.out];try go_wp2
      go_roundw;case rel=>exact⟨k+1,best,by omega,by go_num,rfl,hb1,hb2,HB3.out⟩
      case measure=>simp[intOf];omega
    ·have t2':((hsrc:Int) !=(g.src:Int))=true:=bne_iff_ne.2 (by omega);go_wp2_with fail;rw[HW3.out];try go_wp2
     go_roundw;case rel=>exact⟨k+1,best,by omega,by go_num,rfl,hb1,hb2,HB3.out⟩
     case measure=>simp[intOf];omega
  ·have Zi:Hid (_):=hbl;clear hbl;go_wp2;go_ret;exact⟨best,rfl,hb1,hb2,HB0.out.trans (Zi.out.mono HB0.out.size)⟩
end Go.Proofs.YtfmmllpjgkgeaaaGreatDoor
namespace Go.Proofs.YtfmmllpjgkgeaaaGreatDoor
open Go.Proofs.Tryz Go.RowKit Go.Deep
theorem Tryz.infoFrame:(prog.info? 233).map (λi=>(i.zero,i.size,i.bytes))=some (some (.agg #[.int .i64 0,.int .i64 0,.int .i64 0,.slice none 0 0,.int .i64 0,.slice none 0 0,.int .i64 0,.bool false,.int .i64 0]),9,104):=by kernel_rfl
section
variable{w w6:World}{c rb:Nat}{bU fv fJ:Value}{av:Nat->Value}{room:Nat}{es:List Ev}{acc most:Nat}{au:List (List Bool)}{fs:List oZ}
theorem bC.vI(h:bC w c rb bU fv av room es acc most au){tN:Nat}(hm:most<=tN)(h2:tN<=1000):bC w c rb bU fv av room es acc tN au :=
 ⟨h.tc,h.ng,h.nC,h.n6,h.nD,h.f0,h.f1,h.f2,h.f3,h.LP,h2,h.evs,h.ok,λi hi=>(h.oW i hi).keep hm (λ_ _ _ _ h=>h) (λ_ _=>rfl),h.kn,h.f4,h.a11⟩
theorem bC.af6(h:bC w c rb bU fv av room es acc most au)(fJ:Value):bC (w.setCell ⟨c,4,none⟩ fJ) c rb bU fJ av room es acc most au:=by
 have hc:ay (λx=>x=c) w (w.setCell ⟨c,4,none⟩ fJ):=(ay.refl (λx=>x=c) w).setCell (p:=⟨c,4,none⟩) rfl _;have hne:c≠rb:=h.tc.ne h.ng (by decide);have hS:∀t v xs,(t=4\/t=3)->aF t w v xs->aF t (w.setCell ⟨c,4,none⟩ fJ) v xs:=λt v xs ht hs=>hs.Aj hc h.tc (by rcases ht with rfl|rfl<;>decide);obtain⟨cap,f1,hcap⟩:=h.f1;obtain⟨jH,e1,e2,e3⟩:=h.evs;exact⟨h.tc.setCell _ _,h.ng.setCell _ _,h.nC,h.n6,h.nD,(aK (Or.inr (by omega))).trans h.f0,⟨cap,(aK (Or.inr (by omega))).trans f1,hcap⟩,(aK (Or.inr (by omega))).trans h.f2,(aK (Or.inr (by omega))).trans h.f3,h.LP,h.LQ,
  ⟨jH,e1,aZ e2 hc (λg hg e=>((h.Ak g hg).2.ne h.tc (by decide)) e),λj a b=>hS _ _ _ (Or.inl rfl) (e3 j a b)⟩,h.ok,λi hi=>(h.oW i hi).keep (Nat.le_refl _) hS (λj _=>aK (Or.inl hne)),h.kn,bQ h.f4,λi hi=>(aK (Or.inl hne)).trans (h.a11 i hi)⟩
theorem DF(h:bC w c rb bU fv av room es acc most au)(hf:gB w fv fs)(hc:ay (λk=>fv.ownBlock=some k) w w6)(f:oZ)(x:OL)(hok:xg w f x)(xs:List OL)(hxl:xs.length=fs.length)(hxs:∀j(h:j<fs.length)(h':j<xs.length),xg w fs[j] xs[j])(ho:w6.ownsRow 0 233 9 fJ (fs.length+1) (dB fs xs++jW f x)):bC (w6.setCell ⟨c,4,none⟩ fJ) c rb bU fJ av room es acc most au/\gB (w6.setCell ⟨c,4,none⟩ fJ) fJ (fs++[f]):=by
 have hno:∀{k:Nat}{t:TypeId},Tagged w k t->t≠233->¬fv.ownBlock=some k:=λht hne hk=>Tagged.ne ht (hf.tag _ hk) hne rfl;have hik:aH w w6:=aH.jI hc (λb hb=>hno hb (by decide));have Ub:∀b,Tagged w b 4->¬fv.ownBlock=some b:=λb hb=>hno hb (by decide);have h6:=h.aJ hc (hno h.tc (by decide)) (hno h.ng (by decide)) (λg hg=>hno (h.Ak g hg).2 (by decide)) Ub hik;have t6:=h6.tc;have hcs:ay (λx=>x=c) w6 (w6.setCell ⟨c,4,none⟩ fJ):=(ay.refl (λx=>x=c) w6).setCell (p:=⟨c,4,none⟩) rfl _;have Zk:∀b,Tagged w6 b 4->¬b=c:=λb hb e=>Tagged.ne hb t6 (by decide) e;have Zl:aH w6 (w6.setCell ⟨c,4,none⟩ fJ):=aH.jI hcs (λb hb e=>Tagged.ne hb t6 (by decide) e);refine⟨h6.af6 fJ,xs++[x],by simp[hxl], ?_,λj h1 h2=>?_⟩
 ·rw[uq fs xs f x hxl,List.length_append,List.length_singleton];exact aZ ho hcs (λg hg e=>Tagged.ne (nI ho g hg) t6 (by decide) e)
 ·by_cases hj:j<fs.length
  ·have e1:(fs++[f])[j]=fs[j]:=List.getElem_append_left hj;have e2:(xs++[x])[j]=xs[j]'(by omega):=List.getElem_append_left (by omega);rw[e1,e2];exact((hxs j hj (by omega)).aJ hc Ub hik).aJ hcs Zk Zl
  ·have hje:j=fs.length:=by simp at h1;omega
   have e1:(fs++[f])[j]=f:=by rw[List.getElem_append_right (by omega)];simp
   have e2:(xs++[x])[j]=x:=by rw[List.getElem_append_right (by omega)];simp
   rw[e1,e2];exact(hok.aJ hc Ub hik).aJ hcs Zk Zl
theorem bC.kD(h:bC w c rb bU fv av room es acc most au)(hf:gB w fv fs):fv.ownBlock≠some c:=λe=>Tagged.ne (hf.tag c e) h.tc (by decide) rfl
end
theorem MR(l:List Nat):rY l=ints (l.map λ(n:Nat)=>(n:Int)):=by unfold rY ints;rw[List.map_map];(first|done|rfl)
theorem Jp(w:World)(c rb:Nat)(bU fv:Value)(av:Nat->Value)(room:Nat)(es:List Ev)(acc most:Nat)(au:List (List Bool))(h:bC w c rb bU fv av room es acc most au)(fs:List oZ)(hf:gB w fv fs)(k k':Nat)(hk:k<au.length)(hk':k'<au.length)(hkk:k≠k')(h5:fs.length<500)(hcnt:∀f∈fs,f.ack=0->f.src=k->cnt f.known<=cnt au[k])(hav:∃ao n c,av k=.slice ao n c)(b:ByteArray):Calls prog 113 #[.pointer (some ⟨c,0,none⟩),.int .i64 k,.int .i64 k'] w λe w'=>e=.returned (.tuple #[.int .i64 ((fs.length:Int)+1),.int .i64 0])/\∃fJ,bC w' c rb bU fJ av room es acc most au/\gB w' fJ (fs++[⟨k,k',0,au[k],b⟩]) /\ ay (λx=>x=c\/fv.ownBlock=some x) w w'/\(∀g,fJ.ownBlock=some g->fv.ownBlock=some g\/w.heap.size<=g):=by
 have H:Hid (bC w c rb bU fv av room es acc most au):=h;have HF:Hid (gB w fv fs):=hf;obtain⟨iR,OJ,wU,wV,wW⟩:=info_parts Tryz.infoFrame;obtain⟨cap,f1,hcap⟩:=h.f1;have h6:=h.n6;obtain⟨⟨kv,a0,b0⟩,a1,a7,⟨m9,a9,b9⟩,⟨kp,kl,a10,b10,d10⟩,⟨m12,a12,b12⟩,⟨a2,a3,a4,a5,a6,a8⟩⟩:=h.oW k hk;have a11:=h.a11 k hk;have Zm:au[k].length<=500:=by have:=h.kn _ (List.getElem_mem hk);have:=h.nD;omega
 obtain⟨fo,fc,hfv,hfc⟩:=hf.shape;have f4:w.cell? ⟨c,4,none⟩=some (.slice fo fs.length fc):=by rw[<- hfv];exact h.f4
 obtain⟨ko,kc,hkv,hkc⟩:=b0.shape;have af7:(bools au[k]).length=au[k].length:=by simp[bools]
 rw[af7]at hkv hkc;obtain⟨kpo,kpc,hkp,_⟩:=b10.shape;have hee:=h.U4;have HU:Hid (∀i:Int,(0<=i/\i<au.length)->Calls prog 109 #[.pointer (some ⟨c,0,none⟩),.int .i64 i] w λe w'=>e=.returned (.int .i64 0)/\w'=w):=λi hi=>by have:=nG w c rb bU fv av room es acc most au h i;rw[if_pos hi]at this;exact this
 obtain⟨ako,akn,akc,hak⟩:=hav;rw[hak]at a11;clear hak
 -- the copies
 obtain⟨W1,hW1⟩:∃W1,W1=w.alloc (.cells #[.slice ko au[k].length kc,.bool false,.slice none 0 0,.slice none 0 0,.bool false,.int .i64 0,.int .i64 0,.bool false,.int .i64 0,.int .i64 m9,.slice kpo (ints kl).length kpc,.slice ako akn akc,.int .i64 m12] 165):=⟨_,rfl⟩;have hb1:Below w.heap.size w W1:=by rw[hW1];exact(Below.refl _ w).alloc (Nat.le_refl _) _
 have k1:aA W1 w.heap.size #[.slice ko au[k].length kc,.bool false,.slice none 0 0,.slice none 0 0,.bool false,.int .i64 0,.int .i64 0,.bool false,.int .i64 0,.int .i64 m9,.slice kpo (ints kl).length kpc,.slice ako akn akc,.int .i64 m12] 165:=by rw[hW1];exact aA.new w _ _
 have hs1:W1.heap.size=w.heap.size+1:=by rw[hW1];simp
 obtain⟨W2,hW2⟩:∃W2,W2=W1.alloc (.cells #[.int .i64 k,.int .i64 k',.int .i64 0,.slice ko au[k].length kc,.int .i64 m9,.slice none 0 0,.int .i64 m12,.bool false,.int .i64 0] 233):=⟨_,rfl⟩;have Jq:Below W1.heap.size W1 W2:=by rw[hW2];exact(Below.refl _ W1).alloc (Nat.le_refl _) _
 have hb2:Below w.heap.size w W2:=hb1.trans (Jq.mono hb1.size);have k2:aA W2 (w.heap.size+1) #[.int .i64 k,.int .i64 k',.int .i64 0,.slice ko au[k].length kc,.int .i64 m9,.slice none 0 0,.int .i64 m12,.bool false,.int .i64 0] 233:=by rw[hW2,<- hs1];exact aA.new W1 _ _
 have k1':=k1.below Jq;have hs2:W2.heap.size=w.heap.size+2:=by rw[hW2];simp[hs1]
 have HAl:Hid (∀wx,wx.heap=W2.heap->wx.os=W2.os->wx.tape=W2.tape->wx.output=W2.output->Calls prog 173 #[bU,.slice ko au[k].length kc] wx λe w'=>∃ao n cc,e=.returned (.slice ao n cc)/\(∃l:List Int,l.length<=500/\l.length=n/\aF 3 w' (.slice ao n cc) (ints l)/\Below W2.heap.size W2 w')/\(∀j,w'.frozen? ⟨w.heap.size+1,j,none⟩=false)/\w'.cell? ⟨w.heap.size+1,5,none⟩=some (.slice none 0 0)/\w'.cell? ⟨c,2,none⟩=some bU/\w'.cell? ⟨w.heap.size,0,none⟩=some (.slice ko au[k].length kc)):=λwx hx ho ht hp=>by
  have hbx:Below W2.heap.size W2 wx:=⟨ho,ht,hp,by rw[hx];exact Nat.le_refl _,λk _=>by rw[hx]⟩;have hbw:Below w.heap.size w wx:=hb2.trans (hbx.mono hb2.size);have nD:=h.nD;refine Calls.mono (Bg bU es (.slice ko au[k].length kc) au[k] wx (by omega) (by omega) ((hee.below hbw).mono hbw.size) (by rw[<- hkv];exact(b0.below hbw).CY) h.ok) ?_;rintro e w'⟨v,rfl,ho2,Vb⟩;have hs:=jG ho2;obtain⟨ao,cc,rfl,_⟩:=hs.shape;have hl:(rY (aX es au[k] es.length)).length=(aX es au[k] es.length).length:=by simp[rY]
  rw[hl]at hs⊢;have hle:=su es au[k] es.length;have hbb:Below W2.heap.size W2 w':=hbx.trans (Vb.mono hbx.size);have kk:=k2.below hbb;have kk1:=k1'.below hbb;refine⟨ao,_,cc,rfl,⟨(aX es au[k] es.length).map (λ(n:Nat)=>(n:Int)),by simp;omega,by simp, ?_,hbb⟩,kk.frozen,(kk.cell 5).trans rfl, ?_,(kk1.cell 0).trans rfl⟩
  ·rw[<- MR];exact hs
  ·rw[hbb.cell (p:=⟨c,2,none⟩) (show c<W2.heap.size by have:=h.tc.lt;omega),hb2.cell (p:=⟨c,2,none⟩) h.tc.lt];exact h.f2
 have c2:W2.cell? ⟨c,2,none⟩=some bU:=by rw[hb2.cell (p:=⟨c,2,none⟩) h.tc.lt];exact h.f2
 have d0:=(k1'.cell 0).trans rfl;have e1c:=(k1.cell 0).trans rfl;have e9c:=(k1.cell 9).trans rfl;have af8:=(k1.cell 12).trans rfl;have HW1:Hid (w.alloc (.cells #[.slice ko au[k].length kc,.bool false,.slice none 0 0,.slice none 0 0,.bool false,.int .i64 0,.int .i64 0,.bool false,.int .i64 0,.int .i64 m9,.slice kpo (ints kl).length kpc,.slice ako akn akc,.int .i64 m12] 165)=W1):=hW1.symm;have HW2:Hid (W1.alloc (.cells #[.int .i64 k,.int .i64 k',.int .i64 0,.slice ko au[k].length kc,.int .i64 m9,.slice none 0 0,.int .i64 m12,.bool false,.int .i64 0] 233)=W2):=hW2.symm;have HK2:Hid (aA W2 (w.heap.size+1) #[.int .i64 k,.int .i64 k',.int .i64 0,.slice ko au[k].length kc,.int .i64 m9,.slice none 0 0,.int .i64 m12,.bool false,.int .i64 0] 233):=k2;have Hb2:Hid (Below w.heap.size w W2):=hb2;have Hb0:Hid (aF 4 w (.slice ko au[k].length kc) (bools au[k])):=by rw[<- hkv];exact b0
 have P7:Hid (_):=hcnt;have al5:Hid (W1.heap.size=w.heap.size+1):=hs1;have al6:Hid (W2.heap.size=w.heap.size+2):=hs2;have hij:((k:Int)==(k':Int))=false:=beq_eq_false_iff_ne.2 (by omega);subst hkv hkp;clear h hf b0 b10 hee hW1 hW2 hb1 Jq hb2 k1 k2 k1' hcnt hs1 hs2;go_enter func113,ntmps113;go_wp2_with fail;refine Calls.mono (HU.out (k:Int) (by omega)) ?_;rintro e w1⟨rfl,rfl⟩;go_wp2_with fail;refine Calls.mono (HU.out (k':Int) (by omega)) ?_;rintro e w1⟨rfl,rfl⟩;go_wp2_with fail;rw[HW1.out,HW2.out];clear a0 a1 a2 a3 a4 a5 a6 a7 a8 a9 a10 a11 a12 f1 f4 e1c e9c af8 HU hfv;go_cut []from 48 to 56 (λwx=>∃ao n cc w5,∃l:List Int,wx=w5.setCell ⟨w1.heap.size+1,5,none⟩ (.slice ao n cc)/\l.length<=500/\l.length=n/\aF 3 w5 (.slice ao n cc) (ints l)/\Below W2.heap.size W2 w5)
 case first =>
  go_region_law (go_simp;refine Calls.mono (HAl.out _ rfl rfl rfl rfl) ?_;rintro e w5⟨ao,n,cc,rfl,hl5,z5,z6,z7,z8⟩)
  all_goals
   go_wp2_with fail;go_meet;obtain⟨l,q1,q2,q3,q4⟩:=hl5;exact⟨ao,n,cc,w5,l,rfl,q1,q2,q3,q4⟩
 case rest =>
 obtain⟨ao,n,cc,w5,l,rfl,hl1,hl2,hl3,hb5⟩:=hcut;subst hl2;clear HAl c2 d0
 -- the frame's own block,and what was there
 have k5:=HK2.out.below hb5;have k6:aA (w5.setCell ⟨w1.heap.size+1,5,none⟩ (.slice ao l.length cc)) (w1.heap.size+1) #[.int .i64 k,.int .i64 k',.int .i64 0,.slice ko au[k].length kc,.int .i64 m9,.slice ao l.length cc,.int .i64 m12,.bool false,.int .i64 0] 233:=by unfold aA at k5⊢;simp[World.setCell,Array.getElem?_modify,k5]
 have Zn:Below w1.heap.size w1 w5:=Hb2.out.trans (hb5.mono Hb2.out.size);have hb6:Below w1.heap.size w1 (w5.setCell ⟨w1.heap.size+1,5,none⟩ (.slice ao l.length cc)):=Zn.setCell (p:=⟨w1.heap.size+1,5,none⟩) (by simp) _;have hs6:aF 3 (w5.setCell ⟨w1.heap.size+1,5,none⟩ (.slice ao l.length cc)) (.slice ao l.length cc) (ints l):=by
  have hll:(ints l).length=l.length:=by simp[ints]
  exact hl3.aJ (M:=λx=>x=w1.heap.size+1) ((ay.refl (λx=>x=w1.heap.size+1) w5).setCell (p:=⟨w1.heap.size+1,5,none⟩) rfl _) (λb hb e=>Tagged.ne hb ⟨_,k5⟩ (by decide) e)
 generalize w5.setCell ⟨w1.heap.size+1,5,none⟩ (.slice ao l.length cc)=W6 at *;clear hl3 hb5 Zn k5;have Vd:Hid (Below w1.heap.size w1 W6):=hb6;have HBd:Hid (∀wx,wx=W6->Calls prog 175 #[.pointer (some ⟨c,0,none⟩),.agg #[.int .i64 k,.int .i64 k',.int .i64 0,.slice ko au[k].length kc,.int .i64 m9,.slice ao l.length cc,.int .i64 m12,.bool false,.int .i64 0]] wx λe w'=>∃n:Nat,e=.returned (.int .i64 n)/\1<=n/\n<=100000/\Below W6.heap.size W6 w'):=λwx hx=>by
  subst hx;have TR:=H.out.below Vd.out;have hll:(ints l).length=l.length:=by simp[ints]
  exact MQ wx c fv fs TR.f4 (HF.out.below Vd.out) (by omega) ⟨k,k',0,au[k],b⟩ ⟨.slice ko au[k].length kc,(m9:Int),.slice ao l.length cc,(m12:Int),false,0⟩ (Hb0.out.below Vd.out) Zm l hs6 hl1 (λf hf h0 hs=>P7.out f hf h0 hs)
 have P9:Hid (aA W6 (w1.heap.size+1) #[.int .i64 k,.int .i64 k',.int .i64 0,.slice ko au[k].length kc,.int .i64 m9,.slice ao l.length cc,.int .i64 m12,.bool false,.int .i64 0] 233):=k6;have j0:=(k6.cell 0).trans rfl;have j1:=(k6.cell 1).trans rfl;have j2:=(k6.cell 2).trans rfl;have j3:=(k6.cell 3).trans rfl;have j4:=(k6.cell 4).trans rfl;have j5:=(k6.cell 5).trans rfl;have j6:=(k6.cell 6).trans rfl;have j7:=(k6.cell 7).trans rfl;have j8:=(k6.cell 8).trans rfl;have Hs6:Hid (aF 3 W6 (.slice ao l.length cc) (ints l)):=hs6;clear hb6 k6 hs6;go_wp2_with fail;refine Calls.mono (HBd.out _ rfl) ?_;rintro e w7⟨mo,rfl,hm1,hm2,hb7⟩;clear j0 j1 j2 j3 j4 j5 j6 j7 j8 HBd;have k7:=P9.out.below hb7;have q8:=(k7.cell 8).trans rfl;have q8f:=k7.frozen;have k8:aA (w7.setCell ⟨w1.heap.size+1,8,none⟩ (.int .i64 mo)) (w1.heap.size+1) #[.int .i64 k,.int .i64 k',.int .i64 0,.slice ko au[k].length kc,.int .i64 m9,.slice ao l.length cc,.int .i64 m12,.bool false,.int .i64 mo] 233:=by unfold aA at k7⊢;simp[World.setCell,Array.getElem?_modify,k7]
 have Zo:Below w1.heap.size w1 w7:=Vd.out.trans (hb7.mono Vd.out.size);have hb8:Below w1.heap.size w1 (w7.setCell ⟨w1.heap.size+1,8,none⟩ (.int .i64 mo)):=Zo.setCell (p:=⟨w1.heap.size+1,8,none⟩) (by simp) _;have hs8:aF 3 (w7.setCell ⟨w1.heap.size+1,8,none⟩ (.int .i64 mo)) (.slice ao l.length cc) (ints l) :=
  (Hs6.out.below hb7).aJ (M:=λx=>x=w1.heap.size+1) ((ay.refl (λx=>x=w1.heap.size+1) w7).setCell (p:=⟨w1.heap.size+1,8,none⟩) rfl _) (λb hb e=>Tagged.ne hb ⟨_,k7⟩ (by decide) e)
 have Zp:Hid (bC (w7.setCell ⟨w1.heap.size+1,8,none⟩ (.int .i64 mo)) c rb bU fv av room es acc most au):=H.out.below hb8;have HF8:Hid (gB (w7.setCell ⟨w1.heap.size+1,8,none⟩ (.int .i64 mo)) fv fs):=HF.out.below hb8;have HO8:Hid (xg (w7.setCell ⟨w1.heap.size+1,8,none⟩ (.int .i64 mo)) ⟨k,k',0,au[k],b⟩ ⟨.slice ko au[k].length kc,(m9:Int),.slice ao l.length cc,(m12:Int),false,mo⟩):=⟨Hb0.out.below hb8,Zm,⟨l,hs8,hl1⟩,hm1,hm2⟩;have Hb8:Hid (Below w1.heap.size w1 (w7.setCell ⟨w1.heap.size+1,8,none⟩ (.int .i64 mo))):=hb8;clear hb7 Zo hs8 Hs6 P9 k7;go_wp2_with fail;clear q8 q8f;generalize w7.setCell ⟨w1.heap.size+1,8,none⟩ (.int .i64 mo)=W8 at *;clear hb8;obtain⟨xs,x1,x2,x3⟩:=HF8.out;have j0:=(k8.cell 0).trans rfl;have j1:=(k8.cell 1).trans rfl;have j2:=(k8.cell 2).trans rfl;have j3:=(k8.cell 3).trans rfl;have j4:=(k8.cell 4).trans rfl;have j5:=(k8.cell 5).trans rfl;have j6:=(k8.cell 6).trans rfl;have j7:=(k8.cell 7).trans rfl;have j8:=(k8.cell 8).trans rfl;have g4:W8.cell? ⟨c,4,none⟩=some fv:=Zp.out.f4;have Td:c<W8.heap.size:=Zp.out.tc.lt;have Ve:=Zp.out.tc.frozen;have Vf:Hid (W8.ownsRow 0 233 9 fv fs.length (dB fs xs)):=x2;have Vg:Hid (∀j(h:j<fs.length)(h':j<xs.length),xg W8 fs[j] xs[j]):=x3;have Jr:Hid (fv.ownBlock≠some c):=Zp.out.kD HF8.out;have m1:Hid (fs.length+1<=maxLen):=by unfold Hid maxLen;omega
 have m2:Hid ((fs.length+1)*104<=140737488355328):=by unfold Hid;omega
 have hone:Hid (∀u∈([.int .i64 k,.int .i64 k',.int .i64 0,.slice ko au[k].length kc,.int .i64 m9,.slice ao l.length cc,.int .i64 m12,.bool false,.int .i64 mo]:List Value),u.oneCell'=true):=by intro u hu;simp only[List.mem_cons,List.mem_nil_iff,or_false]at hu;rcases hu with rfl|rfl|rfl|rfl|rfl|rfl|rfl|rfl|rfl<;>rfl
 clear x2 x3 k8;go_cut []from 60 to 70 (λwx=>∃w9 g9 c9,wx=w9.setCell ⟨c,4,none⟩ (.slice (some ⟨g9,0,none⟩) (fs.length+1) c9)/\ay (λk=>fv.ownBlock=some k) W8 w9/\w9.ownsRow 0 233 9 (.slice (some ⟨g9,0,none⟩) (fs.length+1) c9) (fs.length+1) (dB fs xs++[.int .i64 k,.int .i64 k',.int .i64 0,.slice ko au[k].length kc,.int .i64 m9,.slice ao l.length cc,.int .i64 m12,.bool false,.int .i64 mo])/\(fv.ownBlock=some g9\/W8.heap.size<=g9))
 case first =>
  go_region_law (refine fG rfl (.tmp 64) (.tmp 66) 168 rfl 233 iR (.agg #[.int .i64 0,.int .i64 0,.int .i64 0,.slice none 0 0,.int .i64 0,.slice none 0 0,.int .i64 0,.bool false,.int .i64 0]) 9 104 underlying168 OJ wU wV wW rfl (by decide) fv fs.length (dB fs xs) rfl ?_ _ 1 1 [.int .i64 k,.int .i64 k',.int .i64 0,.slice ko au[k].length kc,.int .i64 m9,.slice ao l.length cc,.int .i64 m12,.bool false,.int .i64 mo] rfl rfl ?_ hone.out m1.out m2.out (Nat.succ_pos _) ?_;(exact Vf.out.alloc _);(intro j u hj;match j,hj with|0,hj=>(cases hj;simp[Addr.add])|1,hj=>(cases hj;simp[Addr.add])|2,hj=>(cases hj;simp[Addr.add])|3,hj=>(cases hj;simp[Addr.add])|4,hj=>(cases hj;simp[Addr.add])|5,hj=>(cases hj;simp[Addr.add])|6,hj=>(cases hj;simp[Addr.add])|7,hj=>(cases hj;simp[Addr.add])|8,hj=>(cases hj;simp[Addr.add]));intro g9 c9 w9 lT TN lU;have yQ:ay (λk=>fv.ownBlock=some k) W8 w9:=ay.grown (ay.of_below (by go_grown)) TN (λk hk=>Or.inl hk);have k4:=(World.cell?_of_block (w:=W8) (a:=⟨c,4,none⟩) (yQ.block c Td Jr.out)).trans g4;have kf9:∀j,w9.frozen? ⟨c,j,none⟩=false:=λj=>(World.frozen?_of_block (w:=W8) (a:=⟨c,j,none⟩) (yQ.block c Td Jr.out)).trans (Ve j))
  all_goals
   go_wp2_with fail;go_meet;refine⟨w9,g9,c9,rfl,yQ,lT, ?_⟩;rcases lU with h|h
   ·exact Or.inl h
   ·exact Or.inr (by simp at h;omega)
 case rest =>
 obtain⟨w9,g9,c9,rfl,yQ,lT,lU⟩:=hcut;have hfin:=DF Zp.out HF8.out yQ ⟨k,k',0,au[k],b⟩ _ HO8.out xs x1 Vg.out lT;have HFin:Hid (bC (w9.setCell ⟨c,4,none⟩ (.slice (some ⟨g9,0,none⟩) (fs.length+1) c9)) c rb bU (.slice (some ⟨g9,0,none⟩) (fs.length+1) c9) av room es acc most au/\gB (w9.setCell ⟨c,4,none⟩ (.slice (some ⟨g9,0,none⟩) (fs.length+1) c9)) (.slice (some ⟨g9,0,none⟩) (fs.length+1) c9) (fs++[⟨k,k',0,au[k],b⟩])):=hfin;have r4:=hfin.1.f4;have HX:Hid (ay (λx=>x=c\/fv.ownBlock=some x) w1 (w9.setCell ⟨c,4,none⟩ (.slice (some ⟨g9,0,none⟩) (fs.length+1) c9))/\(fv.ownBlock=some g9\/w1.heap.size<=g9)):=⟨ay.setCell (M:=λx=>x=c\/fv.ownBlock=some x) (p:=⟨c,4,none⟩) ((ay.of_below Hb8.out).trans (yQ.mono (λk _ hk=>Or.inr hk))) (Or.inl rfl) _,lU.imp id (λh=>Nat.le_trans Hb8.out.size h)⟩;clear hfin yQ lT lU j0 j1 j2 j3 j4 j5 j6 j7 j8 g4 Ve Vf Vg hone m1 m2;generalize w9.setCell ⟨c,4,none⟩ (.slice (some ⟨g9,0,none⟩) (fs.length+1) c9)=W9 at *;go_wp2_with fail;go_ret2;exact⟨by first|rfl|(congr 2;go_num),_,HFin.out.1,HFin.out.2,HX.out.1,λg hg=>by cases hg;exact HX.out.2⟩
theorem Uc{w:World}{B g n c size:Nat}{e:TypeId}{xs:List Value}(h:w.ownsRow B e size (.slice (some ⟨g,0,none⟩) n c) n xs)(i:Nat)(u:Value):(w.setCell ⟨g,i,none⟩ u).ownsRow B e size (.slice (some ⟨g,0,none⟩) n c) n (xs.set i u):=by
 obtain⟨hl,⟨h1,_⟩|⟨g',cap,cur,hv,hg,hh,hc,hm,hs,ht⟩⟩:=h
 ·cases h1
 ·simp only[Value.slice.injEq,Option.some.injEq,Addr.mk.injEq,true_and,and_true]at hv;obtain⟨rfl,rfl⟩:=hv;refine⟨by rw[List.length_set];exact hl,Or.inr ⟨g,c,cur.setIfInBounds i u,rfl,hg, ?_,hc,hm,by simpa using hs, ?_⟩⟩
  ·simp[World.setCell,Array.getElem?_modify,hh]
  ·rw[<- ht,Array.toList_setIfInBounds,List.take_set]
theorem Js(w:World)(c:Nat)(fv:Value)(fs:List oZ)(h4:w.cell? ⟨c,4,none⟩=some fv)(h:gB w fv fs)(h5:fs.length<=500)(f:Int)(hf:¬(1<=f/\f<=fs.length)):Calls prog 114 #[.pointer (some ⟨c,0,none⟩),.int .i64 f] w λe w'=>e=.returned (.tuple #[.int .i64 0,.int .i64 9])/\w'=w:=by
 obtain⟨ao,cap,hfv,hcap⟩:=h.shape;rw[hfv]at h4;clear h hfv;by_cases h1:f<1
 ·go_enter func114,ntmps114;go_wp2;go_ret2;exact⟨rfl,rfl⟩
 ·have h2:(fs.length:Int)<f:=by omega
  go_enter func114,ntmps114;go_wp2;go_ret2;exact⟨rfl,rfl⟩
structure af9(w:World)(c rb fb cap fc n len k:Nat)(fs:List oZ)(hk:k<fs.length)(ko:Option Addr)(kc:Nat)(made:Int)(ho:Option Addr)(hn hc:Nat)(lost:Int)(had:Bool)(most:Nat):Prop where
 c1:w.cell? ⟨c,1,none⟩=some (.slice (some ⟨rb,0,none⟩) n cap)
 c4:w.cell? ⟨c,4,none⟩=some (.slice (some ⟨fb,0,none⟩) len fc)
 dn:w.cell? ⟨rb,fs[k].dst*13+1,none⟩=some (.bool false)
 r0:w.cell? ⟨fb,k*9,none⟩=some (.int .i64 (fs[k].src))
 r1:w.cell? ⟨fb,k*9+1,none⟩=some (.int .i64 (fs[k].dst))
 r2:w.cell? ⟨fb,k*9+2,none⟩=some (.int .i64 (fs[k].ack))
 r3:w.cell? ⟨fb,k*9+3,none⟩=some (.slice ko fs[k].known.length kc)
 r4:w.cell? ⟨fb,k*9+4,none⟩=some (.int .i64 made)
 r5:w.cell? ⟨fb,k*9+5,none⟩=some (.slice ho hn hc)
 r6:w.cell? ⟨fb,k*9+6,none⟩=some (.int .i64 lost)
 r7:w.cell? ⟨fb,k*9+7,none⟩=some (.bool had)
 r8:w.cell? ⟨fb,k*9+8,none⟩=some (.int .i64 most)
 kn:aF 4 w (.slice ko fs[k].known.length kc) (bools fs[k].known)
theorem WA{w:World}{c rb:Nat}{bU fv:Value}{av:Nat->Value}{room:Nat}{es:List Ev}{acc most:Nat}{au:List (List Bool)}{fs:List oZ}(h:bC w c rb bU fv av room es acc most au)(hf:gB w fv fs)(k:Nat)(hk:k<fs.length)(hd:fs[k].dst<au.length):∃fb cap fc ko kc made ho hn hc lost had mo,fv=.slice (some ⟨fb,0,none⟩) fs.length fc/\fs.length<=fc/\au.length<=cap/\af9 w c rb fb cap fc au.length fs.length k fs hk ko kc made ho hn hc lost had mo:=by
 obtain⟨cap,f1,hcap⟩:=h.f1;obtain⟨xs,e1,e2,e3⟩:=hf;have hk':k<xs.length:=by omega
 have hok:=e3 k hk hk';obtain⟨l,a1,a2⟩:=hok.al;obtain⟨ho,hc2,a3,a4⟩:=a1.shape;obtain⟨ko,kc,a5,_⟩:=hok.kn.shape;have hkl:(bools fs[k].known).length=fs[k].known.length:=by simp[bools]
 rw[hkl]at a5;obtain⟨fb,fc,rfl⟩:=dL e2 (by omega);have hce:∀j,j<9->w.cell? ⟨fb,k*9+j,none⟩=(jW fs[k] xs[k])[j]?:=λj hj=>by rw[e2.cellAt (k*9+j) (by omega),lq fs xs k hk hk' j hj]
 have hfc:fs.length<=fc:=by
  obtain⟨_,⟨h1,_⟩|⟨g',cap',cur,hv,_,_,h3,_⟩⟩:=e2
  ·cases h1
  ·simp only[Value.slice.injEq]at hv;omega
 have h3:=hce 3 (by omega);have h5:=hce 5 (by omega);refine⟨fb,cap,fc,ko,kc,xs[k].made,ho,(ints l).length,hc2,xs[k].lost,xs[k].had,xs[k].most,rfl,hfc,hcap,⟨f1,h.f4,(h.oW _ hd).c1,hce 0 (by omega),hce 1 (by omega),hce 2 (by omega), ?_,hce 4 (by omega), ?_,hce 6 (by omega),hce 7 (by omega),hce 8 (by omega),by rw[<- a5];exact hok.kn⟩⟩
 ·rw[<- a5];exact h3
 ·rw[<- a3];exact h5
theorem FH(w:World)(c rb:Nat)(bU fv:Value)(av:Nat->Value)(room:Nat)(es:List Ev)(acc most:Nat)(au:List (List Bool))(h:bC w c rb bU fv av room es acc most au)(fs:List oZ)(hf:gB w fv fs)(k:Nat)(hk:k<fs.length)(hd:fs[k].dst<au.length)(ha:fs[k].ack=0)(h5:fs.length=500):Calls prog 114 #[.pointer (some ⟨c,0,none⟩),.int .i64 ((k:Int)+1)] w λe w'=>e=.returned (.tuple #[.int .i64 0,.int .i64 7])/\Below w.heap.size w w':=by
 obtain⟨fb,cap,fc,ko,kc,made,ho,hn,hc,lost,had,mo,hfv,hfc,hcap,D⟩:=WA h hf k hk hd;obtain⟨c1,c4,dn,r0,r1,r2,r3,r4,r5,r6,r7,r8,_⟩:=D;have h6:=h.n6;have hcl:=h.tc.lt;have hrl:=h.ng.lt;have bz:∀o,Below w.heap.size w (w.alloc o):=λo=>(Below.refl _ w).alloc (Nat.le_refl _) o;have c1A:∀o,(w.alloc o).cell? ⟨c,1,none⟩=some (.slice (some ⟨rb,0,none⟩) au.length cap):=λo=>((bz o).cell (p:=⟨c,1,none⟩) hcl).trans c1;have c4A:∀o,(w.alloc o).cell? ⟨c,4,none⟩=some (.slice (some ⟨fb,0,none⟩) fs.length fc):=λo=>((bz o).cell (p:=⟨c,4,none⟩) hcl).trans c4;have dnA:∀o,(w.alloc o).cell? ⟨rb,fs[k].dst*13+1,none⟩=some (.bool false):=λo=>((bz o).cell (p:=⟨rb,_,none⟩) hrl).trans dn;have HB:Hid (∀o q,Below w.heap.size w ((w.alloc o).drewN q)):=λo q=>below_drewN (bz o) q;have c4D:∀o q,((w.alloc o).drewN q).cell? ⟨c,4,none⟩=some (.slice (some ⟨fb,0,none⟩) fs.length fc):=λo q=>c4A o;rw[ha]at r2;have hdI:(fs[k].dst:Int)<(au.length:Int):=by omega
 clear h hf bz hfv ha;generalize fs[k].dst=dst at *;generalize fs[k].src=src at *;generalize fs[k].known.length=kl at *;go_enter func114,ntmps114;go_wp2_with fail
 go_quiet (fail)
 go_wp2_with fail;go_ret2;exact⟨rfl,HB.out _ _⟩
