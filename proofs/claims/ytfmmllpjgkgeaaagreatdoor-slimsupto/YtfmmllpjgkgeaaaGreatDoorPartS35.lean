import Derived.Test.YtfmmllpjgkgeaaaGreatDoorPartS34
set_option linter.unusedVariables false
set_option linter.unusedSimpArgs false
set_option maxHeartbeats 16000000
set_option maxRecDepth 100000
namespace Go.Proofs.YtfmmllpjgkgeaaaGreatDoor
open Go.Proofs.Tryz Go.RowKit Go.Maps Go.WideMaps Go.Deep
theorem New_bad(r a:Int)(w:World)(h:r<1\/6<r\/a<0\/50<a):Calls prog 40 #[.int .i64 r,.int .i64 a] w λe b=>e=.returned (.tuple #[.pointer none,.int .i64 1])/\b=w:=by
 have c:(decide (r<1)||decide (6<r)||decide (a<0)||decide (50<a))=true:=Θ
 go_enter func40,ntmps40;go_wp2;all_goals first|(go_ret2;exact⟨rfl,rfl⟩)|(exfalso;omega)
theorem Tryz.infoPR:(prog.info? 81).map (λi=>(i.zero,i.size,i.bytes))=some (some (.pointer none),1,8):=by kernel_rfl
theorem Tryz.infoInt8:(prog.info? 3).map (λi=>(i.zero,i.size,i.bytes))=some (some (.int .i64 0),1,8):=by kernel_rfl
def Dx(l:List Nat):List Value:=l.map λn:Nat=>.int .i64 n
theorem FY{w:World}{B:Nat}{v:Value}{l:List Nat}(h:w.ownsRow B 3 1 v l.length (Dx l)):gq w v l:=by
 have d:=h;obtain⟨_,⟨a,b⟩|⟨g,c,k,a,b,e,f,_⟩⟩:=h
 .exact τ ⟨a,List.length_eq_zero_iff.1 b⟩
 .refine υ ⟨g,0,c,a,f,(Array.getElem?_eq_some_iff.1 e).1,λj i=>?_⟩;have:=d.cells (g:=g) (by rw[a];rfl) j (.int .i64 (l[j])) (by simp[Dx,i]);rw[Addr.add_lit]at this;exact this
theorem FZ(w:World)(i n:Nat)(Z:n<=6)(U:i<=6):Calls prog 75 #[.int .i64 i,.int .i64 n] w λe w'=>∃v,e=.returned v/\gq w' v (others i n)/\Below w.heap.size w w':=by
 obtain⟨N,E,K,L,M⟩:=info_parts Tryz.infoInt8;go_enter func75,ntmps75;go_wp2_with fail;go_loopg [5,6,8] n (λm Q R S q=>∃j:Nat,j+m=n/\S=.int .i64 j/\Below w.heap.size w q/\q.ownsRow w.heap.size 3 1 Q (others i j).length (Dx (others i j)));case atStart=>exact⟨0,V,rfl,φ _ _,World.ownsRow_nil _ _ _ _⟩
 case round =>
  obtain⟨j,W,rfl,h,k⟩:=hrel;have d:J<|Below w.heap.size w wr:=h;have c:J<|wr.ownsRow w.heap.size 3 1 u5 (others i j).length (Dx (others i j)):=k;have H:=h.size;have X:=vS i j;have G:∃f cap,u5=.slice f (others i j).length cap:=by
   rcases k.2 with⟨g,u⟩|⟨m,s,T,g,_⟩
   .exact⟨none,0,by rw[g,u]⟩
   .exact⟨_,s,g⟩
  obtain⟨f,cap,rfl⟩:=G;clear h k;by_cases Y:j<n
  .have Hs:=Dw i j;have l:J<|others i (j+1)=if j=i then others i j else others i j++[j]:=Hs;clear Hs;generalize others i j=a at *;by_cases e:j=i
   .have b:((j:Int)=(i:Int)):=V
    have B:((j:Int) !=(i:Int))=false:=by simpa using b
    have C:decide ((j:Int)≠(i:Int))=false:=by simpa using b
    subst e;clear b B C;go_wp2_with fail;go_roundg (n-(j+1));case measure=>omega
    case rel=>exact⟨j+1,V,Λ,d.o,by have p:=l.o;simp at p;rw[p];exact c.o⟩
   .have b:¬((j:Int)=(i:Int)):=V
    have r:J<|∀o,(wr.alloc o).ownsRow w.heap.size 3 1 (.slice f a.length cap) a.length (Dx a):=λo=>c.o.alloc o;have x:a.length+1<=maxLen:=by unfold maxLen;omega
    have y:(a.length+1)*8<=140737488355328:=V
    go_wp2_with (first|(at_builtin;refine wpList_append_own_at _ rfl (.tmp 14) (.tmp 16) 42 rfl w.heap.size 3 N (.int .i64 0) 1 8 underlying42 E K L M rfl Ψ _ _ _ rfl (r.o _) (z wr.heap.size) 1 1 [.int .i64 j] rfl rfl (cell_one_new _ _ _) (by simp[Value.oneCell']) x y Θ ?_;intro R w6 F D a0 qg));have A:Below w.heap.size w w6:=(d.o.alloc H _).grown D Θ (λP e=>(c.o.lt P e).1);go_roundg (n-(j+1));case measure=>omega
    case rel =>
     refine⟨j+1,V,Λ,A, ?_⟩;rw[l.o,ύ e,ρ];have t:Dx (a++[j])=Dx a++[.int .i64 j]:=by simp[Dx]
     rw[t];exact F
  .have e:j=n:=V
   subst e;go_wp2_with fail;go_ret;exact⟨_,rfl,FY c.o,d.o⟩
theorem New_good(r e:Nat)(w:World)(H:Glob w)(h1:1<=r)(G:r<=6)(a0:e<=50):Calls prog 40 #[.int .i64 r,.int .i64 e] w λf b=>∃rv ds,f=.returned (.tuple #[.pointer (some (z w.heap.size)),.int .i64 0])/\ds.length=r/\vT w b rv r e ds:=by
 obtain⟨iR,a3,a6,a7,a8⟩:=info_parts Tryz.infoPR;have S:J<|Glob w:=H;clear H;go_enter func40,ntmps40;go_wp2;go_loopw [25] (λq wr=>∃(ds:List RD)(rv:Value),ds.length<=r/\q=.int .i64 ds.length/\vT w wr rv r e ds) (λq _=>r-(intOf q).toNat);case atStart =>exact⟨[],.slice none 0 0,Ω,rfl,ah.new w _ _,World.ownsRow_nil _ _ _ _,λs h=>absurd h Ω,λq s hi=>absurd hi Ω,(φ _ _).alloc (χ _) _⟩
 case round =>
  obtain⟨ds,rv,L,rfl,i⟩:=hrel;by_cases ad:ds.length<r
  .have d:J<|vT w wr rv r e ds:=i;have af:w.heap.size<wr.heap.size:=i.blk.lt;have c1:wr.drew.cell? (O w.heap.size 2)=some rv:=(i.blk.cell 2).trans rfl;have m1:J<|ds.length+1<=maxLen:=by unfold J maxLen;omega
   have m2:J<|(ds.length+1)*8<=140737488355328:=ω V
   have a4:J<|rv.ownBlock≠some w.heap.size:=i.ne i.blk Ψ;have X:ds.length<=5:=V
   have a1:Below wr.heap.size wr wr.drew:=(φ _ wr).drew;have U:J<|∀wx,Below wr.heap.size wr wx->Calls prog 75 #[.int .i64 ds.length,.int .i64 r] wx λf b=>∃g n ag,f=.returned (.slice g n ag)/\(gq b (.slice g n ag) (others ds.length r)/\Below wr.heap.size wr b)/\b.cell? (O w.heap.size 2)=some rv:=λwx K=>by refine ψ (FZ wx ds.length r G V) ?_;rintro f b⟨v,rfl,E,h3⟩;obtain⟨g,ag,rfl⟩:=E.shape;have F:=K.trans (h3.mono K.size);exact⟨g,_,ag,rfl,⟨E,F⟩,((d.o.blk.below F).cell 2).trans rfl⟩
   have W:J<|∀wx c g n ag,(gq c (.slice g n ag) (others ds.length r)/\Below wr.heap.size wr c)->wx.heap=c.heap->wx.os=c.os->wx.tape=c.tape->wx.output=c.output->Calls prog 74 #[.int .i64 ds.length,.int .i64 e,.slice g n ag] wx λf b=>∃j ai,f=.returned (.pointer (some (z j)))/\(ai.rb=j/\bH b ai/\(∃j aj o m,ai=initR j aj o m ds.length e r)/\(∀t,ai.own t->wr.heap.size<=t)/\Below wr.heap.size wr b)/\b.cell? (O w.heap.size 2)=some rv/\∀B,(b.alloc B).cell? (O w.heap.size 2)=some rv:=λwx c g n ag k P ho ht hp=>by have D:Below c.heap.size c wx:=⟨ho,ht,hp,by rw[P];exact χ _,λt _=>by rw[P]⟩;have p:Below wr.heap.size wr wx:=k.2.trans (D.mono k.2.size);have a2:Below w.heap.size w wx:=d.o.bel.trans (p.mono d.o.bel.size);refine ψ (FV wx (S.o.mono a2) ds.length e _ (others ds.length r) (k.1.below D) X a0 (λs l=>by have:=(vP.1 l).1;omega) (ς (vS _ _) G)) ?_;rintro f b⟨j,aj,o,m,rfl,a,h8,h9⟩;have ae:=p.size;have x:=p.trans (h9.mono p.size);exact⟨j,initR j aj o m ds.length e r,rfl,⟨rfl,a,⟨j,aj,o,m,rfl⟩,λt L=>by have:=JJ L;omega,x⟩,((d.o.blk.below x).cell 2).trans rfl,λB=>(((d.o.blk.below x).alloc B).cell 2).trans rfl⟩
   clear i;go_wp2_with fail
   go_region_law (first|(go_simp;refine ψ (W.o _ c _ _ _ k rfl rfl rfl rfl) ?_;rintro f w7⟨R,q7,rfl,a,d1,ac⟩)|(go_simp;refine ψ (U.o _ a1) ?_;rintro f c⟨a9,n5,aa,rfl,k,e1⟩)|(refine step_append_own rfl (.tmp 32) (.tmp 39) 76 rfl w.heap.size 81 iR (.pointer none) 1 8 underlying76 a3 a6 a7 a8 rfl Ψ rv ds.length (ptrs (ds.map RD.rb)) rfl ?_ _ 1 1 [.pointer (some (z R))] rfl rfl ?_ ?_ m1.o m2.o ?_ ?_;(exact(own_below d.o.row a.2.2.2.2).alloc _);(intro s u l;match s,l with|0,l=>(cases l;simp[Addr.add]));(intro u N;simp at N;subst N;rfl);(have U1:=a.2.2.2.2.size;simp;omega);intro v6 w6 A y;obtain⟨Z,Y,rfl⟩:=own_some A (Nat.succ_pos _);have Q:=(d.o.blk.below a.2.2.2.2).alloc (.cells #[.pointer (some (z R))] 81);have C:ah w6 w.heap.size #[.int .i32 0,.int .u32 0,rv,.slice none 0 0] 79:=((y.block _ Q.lt (Ne.symm a4.o)).trans Q);have k1:=(C.cell 2).trans rfl;have kf:=C.frozen))
   all_goals
    obtain⟨a5,a⟩:=a;subst a5;have M:=d.o.more a.2.2.2 a.1 a.2.1 a.2.2.1 A y;have T:J<|_:=M;clear M a A y;go_wp2;go_roundw;case rel=>exact⟨ds++[q7],.slice (some (z Z)) (ds.length+1) Y,by simp<;>omega,by simp<;>go_num,T.o⟩
    case measure=>simp[intOf];omega
  .have d:J<|vT w wr rv r e ds:=i;have hr:ds.length=r:=V
   clear i;go_wp2;go_ret2;exact⟨rv,ds,rfl,hr,d.o⟩
