import Derived.Test.YtfmmllpjgkgeaaaGreatDoorPart41
import Derived.Test.YtfmmllpjgkgeaaaGreatDoorPart50
set_option linter.unusedVariables false
set_option linter.unusedSimpArgs false
namespace Go.Proofs.YtfmmllpjgkgeaaaGreatDoor
open Go.RowKit
variable {F:Stt}

def rowT (tb:Nat) (ov:Value):Nat->Prop:=fun q=>q=tb\/ov.ownBlock=some q
theorem rowT_nil (tb:Nat):∀ k,rowT tb (.slice none 0 0) k->k=tb:=fun k hk=>hk.elim id (fun h=>by cases h)
theorem row_some {w:World} {B:Nat} {e:TypeId} {v:Value} {n size:Nat} {xs:List Value} (h:w.ownsRow B e size v n xs) (hn:0<n):∃ g cap,v=.slice (some ⟨g,0,none⟩) n cap/\n<=cap/\B<=g:=by
 obtain ⟨_,h1 | ⟨g,cap,cur,h2,h3,_,h4,_⟩⟩:=h
 ·omega
 ·exact ⟨g,cap,h2,h4,h3⟩
theorem row_tag {w:World} {B:Nat} {e:TypeId} {v:Value} {n size:Nat} {xs:List Value} (h:w.ownsRow B e size v n xs) {g:Nat} (hg:v.ownBlock=some g):Tagged w g e/\B<=g:=by
 obtain ⟨_,⟨h1,_⟩ | ⟨g',cap,cur,h2,h3,h4,_⟩⟩:=h
 ·rw[h1] at hg;cases hg
 ·rw[h2] at hg
  have:g'=g:=by simpa[Value.ownBlock] using hg
  subst this
  exact ⟨⟨cur,h4⟩,h3⟩
theorem AI.row (hP:ProgFrame F) {w wr w2:World} {x tb n i:Nat} {s:St} {ov v2:Value} {k:Nat} {xs ys:List Value} {o:Obj} (h:AI F (rowT tb ov) w x tb n i s wr) (h1:wr.ownsRow w.heap.size 3 1 ov k xs) (h2:w2.ownsRow w.heap.size 3 1 v2 (k+1) ys) (hg:(wr.alloc o).grownBy w2 ov.ownBlock):AI F (rowT tb v2) w x tb n i s w2:=by
 obtain ⟨S,f1,s1⟩:=h.k.f
 have hb:Below wr.heap.size wr (wr.alloc o):=(Below.refl _ _).alloc (Nat.le_refl _) _
 have fa:=hP.below f1 hb
 have hc:Chg (fun k=>ov.ownBlock=some k) (wr.alloc o) w2:=(Chg.refl _ _).grown hg (fun k e=>Or.inl e)
 have f2:=hP.stable fa hc (fun k hk e=>(s1 k hk).2 (Or.inr e))
 have hne:¬ov.ownBlock=some tb:=fun e=>by
  have ht:Tagged wr tb 32:=⟨_,h.t⟩
  exact (row_tag h1 e).1.ne ht (by decide) rfl
 have hbw:Below w.heap.size wr w2:=(hb.mono h.k.bel.size).trans (chgS_below hc (fun k hk=>(row_tag h1 hk).2) (Nat.le_trans h.k.bel.size hb.size))
 refine ⟨⟨⟨S,f2,fun k hk=>⟨(s1 k hk).1, ?_⟩⟩, ?_,h.k.bel.trans hbw,h.k.gw⟩, ?_,h.ok,Or.inl rfl,h.hb⟩
 ·rintro (rfl | e)
  ·exact (s1 _ hk).2 (Or.inl rfl)
  ·exact (hP.tags f2 hk (row_tag h2 e).1).1 (Or.inr (Or.inr (Or.inr (Or.inr rfl))))
 ·rintro k (rfl | e)
  ·exact Nat.lt_of_lt_of_le (h.k.tl _ (Or.inl rfl)) (Nat.le_trans hb.size hc.size)
  ·exact (row_tag h2 e).1.lt
 ·exact Blk.chg (h.t.below hb) hc hne
theorem AI.less {T T':Nat->Prop} {w wr:World} {x tb n i:Nat} {s:St} (h:AI F T w x tb n i s wr) (hT:∀ k,T' k->T k) (ht:T' tb):AI F T' w x tb n i s wr:=⟨h.k.less hT,h.t,h.ok,ht,h.hb⟩
theorem AI.knows (hF:ProgOK F) {T:Nat->Prop} {w wr:World} {x tb n i:Nat} {s:St} (h:AI F T w x tb n i s wr) {k:Nat} (hk:k<n) :
  Calls Tryz.prog 22 #[.pointer (some ⟨x,0,none⟩),.int .i64 (k:Int)] wr fun e w'=>e=.returned (.tuple #[.int .i64 (cnt (s.kn.getD k []):Int),.int .i64 0])/\AI F T w x tb n i s w'/\Chg (Mk w.heap.size T) wr w':=by
 refine Calls.mono (h.k.knows hF (k:Int)) ?_
 rw[knowsR_in (by rw[h.ok.len];exact hk)]
 rintro e w' ⟨rfl,hk1,hc⟩
 exact ⟨rfl,⟨hk1,Blk.chg h.t hc (fun e=>e.2 h.ht),h.ok,h.ht,h.hb⟩,hc⟩
def oldsL (s:St) (k:Nat):List Int:=(List.range k).map fun q=>(cnt (s.kn.getD q []):Int)
theorem oldsL_succ (s:St) (k:Nat):ints (oldsL s (k+1))=ints (oldsL s k) ++ [.int .i64 (cnt (s.kn.getD k []):Int)]:=by
 unfold oldsL ints
 rw[List.range_succ]
 simp
theorem oldsL_get (s:St) {k n:Nat} (h:k<n):(ints (oldsL s n))[k]? = some (.int .i64 (cnt (s.kn.getD k []):Int)):=by
 unfold oldsL ints
 simp[h]
structure GI (F:Stt) (w:World) (x tb n i:Nat) (s:St) (ov:Value) (k:Nat) (wr:World):Prop where
 a:AI F (rowT tb ov) w x tb n i s wr
 r:wr.ownsRow w.heap.size 3 1 ov k (ints (oldsL s k))
structure GJ (F:Stt) (w:World) (x tb n i:Nat) (s s':St) (ov:Value) (wr:World):Prop where
 a:AI F (rowT tb ov) w x tb n i s' wr
 r:wr.ownsRow w.heap.size 3 1 ov n (ints (oldsL s n))
theorem GI.knows (hF:ProgOK F) {w wr:World} {x tb n i:Nat} {s:St} {ov:Value} {k:Nat} (h:GI F w x tb n i s ov k wr) (hk:k<n) :
  Calls Tryz.prog 22 #[.pointer (some ⟨x,0,none⟩),.int .i64 (k:Int)] wr fun e w'=>e=.returned (.tuple #[.int .i64 (cnt (s.kn.getD k []):Int),.int .i64 0])/\GI F w x tb n i s ov k w':=by
 refine Calls.mono (h.a.knows hF hk) ?_
 rintro e w' ⟨rfl,h1,h2⟩
 exact ⟨rfl,h1,ownsRow_chg h.r h2 (fun g hg e=>e.2 (Or.inr hg))⟩
theorem GJ.knows (hF:ProgOK F) {w wr:World} {x tb n i:Nat} {s s':St} {ov:Value} (h:GJ F w x tb n i s s' ov wr) {k:Nat} (hk:k<n) :
  Calls Tryz.prog 22 #[.pointer (some ⟨x,0,none⟩),.int .i64 (k:Int)] wr fun e w'=>e=.returned (.tuple #[.int .i64 (cnt (s'.kn.getD k []):Int),.int .i64 0])/\GJ F w x tb n i s s' ov w':=by
 refine Calls.mono (h.a.knows hF hk) ?_
 rintro e w' ⟨rfl,h1,h2⟩
 exact ⟨rfl,h1,ownsRow_chg h.r h2 (fun g hg e=>e.2 (Or.inr hg))⟩
theorem GI.play (hF:ProgOK F) (hP:ProgFrame F) (hT:ProgTick F) {w wr:World} {x tb n i:Nat} {s:St} {ov:Value} (h:GI F w x tb n i s ov n wr) (hi:i<=400) {a:ActD} (ha:a.ok) :
  Calls Tryz.prog 19 #[.pointer (some ⟨tb,0,none⟩),.pointer (some ⟨x,0,none⟩),.int .i64 (n:Int),a.val] wr fun e w'=>e=.returned (.bool true)/\∃ s',PlayTo n s a s'/\KOk n i s/\GJ F w x tb n (i+1) s s' ov w':=by
 refine Calls.mono (h.a.play hF hP hT hi ha) ?_
 rintro e w' ⟨rfl,s',h1,h2,h3⟩
 refine ⟨rfl,s',h1,h.a.ok,h2,ownsRow_chg h.r h3 (fun g hg e=>?_)⟩
 rcases e with e | e
 ·exact e.2 (Or.inr hg)
 ·subst e
  have ht:Tagged wr g 32:=⟨_,h.a.t⟩
  exact (row_tag h.r hg).1.ne ht (by decide) rfl
end Go.Proofs.YtfmmllpjgkgeaaaGreatDoor
namespace Go.Proofs.YtfmmllpjgkgeaaaGreatDoor
open Go.RowKit
variable {F:Stt}

abbrev actW (wr:World) (a:ActD):World:=wr.alloc (.cells #[.int .i64 a.kd,.int .i64 a.i,.int .i64 a.j,.int .i64 a.k,.int .i64 a.v] 35)
theorem AI.act (hP:ProgFrame F) {T:Nat->Prop} {w wr:World} {x tb n i:Nat} {s:St} (h:AI F T w x tb n i s wr) (a:ActD):AI F (fun k=>T k\/k=wr.heap.size) w x tb n i s (actW wr a)/\ActB (actW wr a) wr.heap.size a :=
 ⟨⟨h.k.box hP _,Blk.alloc h.t _,h.ok,Or.inl h.ht,h.hb⟩,Blk.new _ _ _⟩
theorem AI.calls {T:Nat->Prop} {w wr w':World} {x tb n i:Nat} {s:St} (h:AI F T w x tb n i s wr) (hk:KTo F T w x s wr w'):AI F T w x tb n i s w':=⟨hk.1,Blk.chg h.t hk.2 (fun e=>e.2 h.ht),h.ok,h.ht,h.hb⟩
theorem AI.below (hP:ProgFrame F) {T:Nat->Prop} {w wr w':World} {x tb n i:Nat} {s:St} (h:AI F T w x tb n i s wr) (hb:Below wr.heap.size wr w'):AI F T w x tb n i s w':=h.calls (h.k.below hP hb)
theorem AI.less' {T T':Nat->Prop} {w wr:World} {x tb n i:Nat} {s:St} (h:AI F T w x tb n i s wr) (hT:∀ k,T' k->T k) (ht:T' tb):AI F T' w x tb n i s wr:=⟨h.k.less hT,h.t,h.ok,ht,h.hb⟩

structure CI (F:Stt) (T:Nat->Prop) (w:World) (x tb n i:Nat) (sum:Int) (s:St) (wr:World):Prop where
 a:AI F T w x tb n i s wr
 c:CzOk s.es sum
 lo:-(1000000000*i)<=sum
 hi:sum<=1000000000*i
structure CM (F:Stt) (T:Nat->Prop) (w:World) (x tb n i:Nat) (sum:Int) (f e:Nat) (s:St) (wr:World):Prop where
 k:KAt F T w x s wr
 t:TalAt wr tb f e
 el:s.es.length=e+1
 fl:s.fs.length=f
 ok:KOk n (i+1) s
 ht:T tb
 hb:w.heap.size<=tb
 c:CzOk s.es sum
theorem digits_short (v:Int) (h1:v<=1000000000) (h2:-1000000000<=v):(Thk.digits v).length<=11:=by
 have:=Thk.digs_length 9 v.natAbs (by omega)
 unfold Thk.digits
 split
 ·simp;omega
 ·omega
theorem CI.count (hF:ProgOK F) {T:Nat->Prop} {w wr:World} {x tb n i:Nat} {sum:Int} {s:St} (h:CI F T w x tb n i sum s wr) (hi:i<=400) {q:Nat} (hq:q<n) {v:Int} (h1:v<=1000000000) (h2:-1000000000<=v) {t:ByteArray} (ht:toL t=[99,122,62] ++ Thk.digits v) (hts:t.size<=1000) :
  Calls Tryz.prog 23 #[.pointer (some ⟨x,0,none⟩),.int .i64 (q:Int),.string t] wr fun e w'=>e=.returned (.int .i64 0)/\∃ s',CM F T w x tb n i (sum+v) s.fs.length s.es.length s' w'/\Chg (Mk w.heap.size T) wr w':=by
 have hln:=h.a.ok.len
 have hev:=h.a.ok.ev
 have hkl:=kl_get h.a.ok.kl q
 have hdl:=digits_short v h1 h2
 obtain ⟨e,he⟩:∃ e:Ev,toL e.p=[99,122]/\e.a=62/\toL e.v=Thk.digits v/\e.n=v/\e.saw=s.kn.getD q []:=⟨⟨⟨#[99,122]⟩,62,⟨(Thk.digits v).toArray⟩,v,s.kn.getD q []⟩,rfl,rfl,by simp[toL],rfl,rfl⟩
 obtain ⟨e1,e2,e3,e4,e5⟩:=he
 have hp2:(toL e.p).length=2:=by rw[e1];(first | done | rfl)
 have hv2:(toL e.v).length<=11:=by rw[e3];exact hdl
 simp only[toL,Array.length_toList] at hp2 hv2
 have hok:EvOk e:=⟨by show e.p.data.size<=20;omega,by show e.v.data.size<=20;omega,by omega,by omega,by rw[e5];omega⟩
 have hd:DoOut s.es s.kn (q:Int) (toL t) 0 (s.es ++ [e]) (s.kn.set q (moreOf (s.kn.getD q []) s.es.length)):=by
  have:=DoOut.done (es:=s.es) (knowns:=s.kn) (i:=(q:Int)) (s:=toL t) ⟨[99,122],62,Thk.digits v,v⟩ e ⟨by omega,by omega⟩ (by rw[ht];exact Thk.read_cz v h1 h2) (by omega) e1 e2 e3 e4 (by rw[Int.toNat_natCast];exact e5)
  rw[Int.toNat_natCast] at this
  exact this
 refine Calls.mono (h.a.k.does hF (by omega) hd) ?_
 rintro e' w' ⟨rfl,hk,hc⟩
 refine ⟨rfl,_,⟨hk,Blk.chg h.a.t hc (fun e=>e.2 h.a.ht),by simp,rfl,h.a.ok.did hq hok,h.a.ht,h.a.hb, ?_⟩,hc⟩
 have:=h.c.more (e:=e) e1 e2
 rw[e4] at this
 exact this
end Go.Proofs.YtfmmllpjgkgeaaaGreatDoor
namespace Go.Proofs.YtfmmllpjgkgeaaaGreatDoor
open Go.RowKit

structure IntsV (w:World) (v:Value) (l:List Int):Prop where
 ex:∃ ad cap,v=.slice ad l.length cap/\(0<l.length->∃ b off,ad=some ⟨b,off,none⟩/\l.length<=cap/\b<w.heap.size/\∀ j (h:j<l.length),w.cell? ⟨b,off+j,none⟩=some (.int .i64 l[j]))
 ok:∀ a∈l,i64B a
theorem IntsV.at {w:World} {l:List Int} {ad:Option Addr} {cap:Nat} (h:0<l.length->∃ b off,ad=some ⟨b,off,none⟩/\l.length<=cap/\b<w.heap.size/\∀ j (h:j<l.length),w.cell? ⟨b,off+j,none⟩=some (.int .i64 l[j])) (i:Nat) (hi:i<l.length) :
  ∃ b off,ad=some ⟨b,off,none⟩/\l.length<=cap/\∀ wx,Below w.heap.size w wx->wx.cell? ⟨b,off+i,none⟩=some (.int .i64 l[i]):=by
 obtain ⟨b,off,h1,h2,h3,h4⟩:=h (by omega)
 exact ⟨b,off,h1,h2,fun wx hb=>(hb.cell (p:=⟨b,_,none⟩) h3).trans (h4 i hi)⟩

end Go.Proofs.YtfmmllpjgkgeaaaGreatDoor

