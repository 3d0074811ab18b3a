import Derived.Test.YtfmmllpjgkgeaaaGreatDoorPart30
set_option linter.unusedVariables false
set_option linter.unusedSimpArgs false
set_option maxHeartbeats 16000000
set_option maxRecDepth 100000
namespace Go.Proofs.YtfmmllpjgkgeaaaGreatDoor
open Go.RowKit Go.Maps Go.WideMaps Go.Shelf

theorem Wake_any (w:World) (hG:Glob w) (r:RD) (K:Nat->Nat) (C:Nat->Option Thk.Ch) (n:Nat) (h:RepDn w r K C n) (hr4:4<=r.rb) :
  Calls Tryz.prog 63 #[.pointer (some ⟨r.rb,0,none⟩)] w fun e w'=>e=.returned (.tuple #[])/\∃ io co lo:Nat,RepF w' { r with io:=some io,co:=some co,lo:=some lo,pv:=.slice none 0 0,dr:=sizeK K,A:=fun _=>0,ps:=[],K:=K,C:=C,n:=n,cut:=false }/\(w.heap.size<=io/\w.heap.size<=co/\w.heap.size<=lo)/\Chg r.own w w':=by
 have c6:=(h.blk.cell 6).trans rfl
 have cf:=h.blk.frozen
 have hch:Chg (fun k=>k=r.rb) w (w.setCell ⟨r.rb,6,none⟩ (.bool false)):=(Chg.refl (fun k=>k=r.rb) w).setCell (p:=⟨r.rb,6,none⟩) rfl _
 have HC:Hid (_):=Crash_gen (w.setCell ⟨r.rb,6,none⟩ (.bool false)) (hG.chg4 hch (fun k e=>by subst e;exact hr4)) { r with K:=K,C:=C,n:=n,cut:=false } (by
  obtain ⟨rs,its,h1,h2⟩:=h.dsk
  obtain ⟨cs,hd⟩:=h1.blk
  obtain ⟨N,hN⟩:=h.kept.ack
  refine ⟨?_, ?_,⟨rs,its,h1.chg hch (blk_ne hd h.blk (by decide)),h2⟩,h.b,h.k500,h.a5,h.n⟩
  ·have:=h.blk
   unfold Blk at this ⊢
   simp[World.setCell,Array.getElem?_modify,this]
  ·exact h.kept.chg1 hch (fun e=>blk_ne h.blk h.kept.blk (by decide) e.symm) (fun k hk e=>row_ne h.blk h.kept.row (by decide) (e ▸ hk)) (fun e=>hN.noTag (e ▸ h.blk)) (fun k e _=>by subst e;exact ⟨_,_,_,h.blk⟩))
 have HH:Hid (Chg r.own w (w.setCell ⟨r.rb,6,none⟩ (.bool false))/\(w.setCell ⟨r.rb,6,none⟩ (.bool false)).heap.size=w.heap.size):=⟨hch.mono (fun k _ e=>Or.inl e),by simp⟩
 clear h hG hch
 go_enter Tryz.func63,Tryz.ntmps63
 go_wp2_with fail
 refine Calls.mono HC.out ?_
 rintro e w1 ⟨rfl,io,co,lo,h1,h2,h3⟩
 have HX:Hid (RepF w1 { r with io:=some io,co:=some co,lo:=some lo,pv:=.slice none 0 0,dr:=sizeK K,A:=fun _=>0,ps:=[],K:=K,C:=C,n:=n,cut:=false }/\(w.heap.size<=io/\w.heap.size<=co/\w.heap.size<=lo)/\Chg r.own w w1):=⟨h1,by rw[HH.out.2] at h2;exact h2,HH.out.1.trans h3⟩
 clear HC h1 h2 h3
 go_wp2
 exact bodyPost_end (results_none rfl _ _ _) rfl ⟨rfl,io,co,lo,HX.out⟩

theorem rTear_any (w:World) (r:RD) (hF:RepF w r) (j:Int) :
  Calls Tryz.prog 59 #[.pointer (some ⟨r.rb,0,none⟩),.int .i64 j] w fun e w'=>e=.returned (.tuple #[])/\RepF w' { r with cut:=true,k:=j }/\Chg r.own w w':=by
 have c5:=(hF.blk.cell 5).trans rfl
 obtain ⟨rs,its,hd,he⟩:=hF.dsk
 have HC:Hid (_):=diskCutOff w r.db r.n _ r.cut r.k j hd
 have HF:Hid (∀ w',Chg (fun k=>k=r.db) w w'->DiskS w' r.db r.n (encS rs its) true j->RepF w' { r with cut:=true,k:=j }/\Chg r.own w w'):=fun w' hc h1=>by
  obtain ⟨cs,hdb⟩:=hd.blk
  have hne:=hF.db_ne
  refine ⟨⟨hF.blk.chg hc (fun e=>hne.1 e.symm),⟨hF.st.r.chg hc (fun b hb e=>?_),hF.st.b⟩,hF.kept.chg1 hc (fun e=>hne.2.1 e.symm) (fun k hk e=>hne.2.2.1 (e ▸ hk)) (fun e=>hne.2.2.2.1 e.symm) (fun k e _=>by subst e;exact ⟨_,_,_,hdb⟩),⟨rs,its,h1,he⟩,hF.apart,hF.k500,hF.a5,hF.n⟩,hc.mono (fun k _ e=>Or.inr (Or.inr (Or.inr e)))⟩
  subst e
  exact hF.st.r.noCells (by rcases hb with h | h | h <;> simp only[Value.map.injEq] at h <;> simp[h]) hdb
 clear hF hd he
 go_enter Tryz.func59,Tryz.ntmps59
 go_wp2_with fail
 refine Calls.mono HC.out ?_
 rintro e w1 ⟨rfl,h1,h2⟩
 have HX:Hid (_):=HF.out w1 h2 h1
 clear HC HF h1 h2
 go_wp2
 exact bodyPost_end (results_none rfl _ _ _) rfl ⟨rfl,HX.out⟩
theorem IsDown_down (w:World) (r:RD) (K:Nat->Nat) (C:Nat->Option Thk.Ch) (n:Nat) (h:RepDn w r K C n) :
  Calls Tryz.prog 62 #[.pointer (some ⟨r.rb,0,none⟩)] w fun e w'=>e=.returned (.bool true)/\w'=w:=by
 have c6:=(h.blk.cell 6).trans rfl
 clear h
 go_enter Tryz.func62,Tryz.ntmps62
 go_wp2
 go_ret
 exact ⟨rfl,rfl⟩
end Go.Proofs.YtfmmllpjgkgeaaaGreatDoor

