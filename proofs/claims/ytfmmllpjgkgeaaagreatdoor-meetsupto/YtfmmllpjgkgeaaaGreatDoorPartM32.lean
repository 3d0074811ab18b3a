import Derived.Test.YtfmmllpjgkgeaaaGreatDoorPartM31
set_option linter.unusedVariables false
set_option linter.unusedSimpArgs false
set_option maxHeartbeats 16000000
set_option maxRecDepth 100000
namespace Go.Proofs.YtfmmllpjgkgeaaaGreatDoor
open Go.RowKit Go.Maps Go.WideMaps Go.Shelf
theorem GN(w:World):Ll w none none none (fst (λ_=>0)) (λ_=>none):=by
 have hc:cm (λ_=>0)=λ_=>none:=(I8 (λa=>rfl) (λkey _=>rfl)).symm;have hl:lm (λ_=>false)=λ_=>none:=by funext key;simp[lm]
 have hi:aO (λ_=>none)=λ_=>none:=rfl;refine⟨⟨⟨λ_=>0,λ_=>false,⟨⟨0,Or.inl ⟨rfl,rfl,hc⟩⟩,⟨0,Or.inl ⟨rfl,rfl,hl⟩⟩,λ_=>by omega,λ_ h=>absurd rfl h,λn h=>(by cases h)⟩,λ_=>rfl,λn _=>by simp[kW,fst]⟩,⟨0,Or.inl ⟨rfl,rfl,by rw[hi,ug]⟩⟩,λn h=>absurd rfl h⟩,⟨λns hn hm=>?_,λk h=>absurd rfl h,λk c h=>(by cases h),λk c h=>(by cases h)⟩⟩;cases ns with
 | nil=>simp
 | cons d l=>have:=hm d (by simp);unfold fst at this;dsimp only at this;omega
theorem J4(w:World)(hG:Glob w)(a room:Nat)(sv:Value)(nb:List Nat)(hsl:jq w sv nb)(ha:a<=5)(hr:room<=50)(h5:∀j∈nb,j<=5)(hl:nb.length<=6):Calls Tryz.prog 74 #[.int .i64 a,.int .i64 room,sv] w λe w'=>∃rb kb db ab,e=.returned (.pointer (some ⟨rb,0,none⟩))/\dQ w' ⟨rb,a,none,none,none,kb,db,room,.slice none 0 0,0,ab,nb,λ_=>0,[],λ_=>0,λ_=>none,0,false,0⟩/\(w.heap.size<=rb/\w.heap.size<=kb/\w.heap.size<=db/\w.heap.size<=ab)/\Below w.heap.size w w':=by
 obtain⟨ao,cap,hs⟩:=hsl.shape;subst hs;have HN:Hid (_):=QE w room _ nb hsl hr h5 hl;have HG:Hid (Glob w):=hG;clear hsl h5 hG;go_enter Tryz.func74,Tryz.ntmps74;go_wp2_with fail;refine Calls.mono HN.out ?_;rintro e w1⟨kb,ab,rfl,hK1,hkb,hab,hb1⟩;obtain⟨w2,hw2⟩:∃w2,w2=w1.alloc (.cells #[.int .i64 a,.map none,.map none,.map none,.pointer (some ⟨kb,0,none⟩),.pointer none,.bool false] 125):=⟨_,rfl⟩;have h12:Below w1.heap.size w1 w2:=by rw[hw2];exact(Below.refl _ w1).alloc (Nat.le_refl _) _
 have hb2:Below w.heap.size w w2:=hb1.trans (h12.mono hb1.size);have k2:aA w2 w1.heap.size #[.int .i64 a,.map none,.map none,.map none,.pointer (some ⟨kb,0,none⟩),.pointer none,.bool false] 125:=by rw[hw2];exact aA.new w1 _ _
 have hs1:=hb1.size;have q1:=(k2.cell 1).trans rfl;have q2:=(k2.cell 2).trans rfl;have q3:=(k2.cell 3).trans rfl;have H2:Hid (dJ w2 kb room (.slice none 0 0) 0 ab nb (λ_=>0) []/\aA w2 w1.heap.size #[.int .i64 a,.map none,.map none,.map none,.pointer (some ⟨kb,0,none⟩),.pointer none,.bool false] 125/\Below w.heap.size w w2):=⟨hK1.below h12,k2,hb2⟩;have HW:Hid (_):=wM w2 (HG.out.mono hb2) none none none _ _ (GN w2);have Hw2:Hid (w2=w1.alloc (.cells #[.int .i64 a,.map none,.map none,.map none,.pointer (some ⟨kb,0,none⟩),.pointer none,.bool false] 125)):=hw2;clear HN hK1 h12 hb2 k2 hw2;go_wp2_with fail;rw[<- Hw2.out];refine Calls.mono HW.out ?_;rintro e w3⟨s,rs,its,rfl,hs,he,hz,hb3⟩;have HD:Hid (_):=Ur w3 s (by omega);have H3:Hid (dJ w3 kb room (.slice none 0 0) 0 ab nb (λ_=>0) []/\aA w3 w1.heap.size #[.int .i64 a,.map none,.map none,.map none,.pointer (some ⟨kb,0,none⟩),.pointer none,.bool false] 125/\Below w.heap.size w w3):=⟨H2.out.1.below hb3,H2.out.2.1.below hb3,H2.out.2.2.trans (hb3.mono H2.out.2.2.size)⟩;have hs3:w1.heap.size<w3.heap.size:=H3.out.2.1.lt;have HE:Hid (ah s=encS rs its/\jE (fst (λ_=>0)) (λ_=>none) rs its):=⟨hs,he⟩;clear HW H2 Hw2 hb3 q1 q2 q3 hs he;go_wp2_with fail;refine Calls.mono HD.out ?_;rintro e w4⟨rfl,hd4,hb4⟩;have k4:=H3.out.2.1.below hb4;have c5:=(k4.cell 5).trans rfl;have cf:=k4.frozen;have H4:Hid (dJ w4 kb room (.slice none 0 0) 0 ab nb (λ_=>0) []/\aA w4 w1.heap.size #[.int .i64 a,.map none,.map none,.map none,.pointer (some ⟨kb,0,none⟩),.pointer none,.bool false] 125/\Below w.heap.size w w4/\jo w4 w3.heap.size 0 (ah s) false 0):=⟨H3.out.1.below hb4,k4,H3.out.2.2.trans (hb4.mono H3.out.2.2.size),hd4⟩;clear HD H3 hd4 hb4 k4;go_wp2_with fail;go_ret;have hcz:ay (λk=>k=w1.heap.size) w4 (w4.setCell ⟨w1.heap.size,5,none⟩ (.pointer (some ⟨w3.heap.size,0,none⟩))):=(ay.refl (λk=>k=w1.heap.size) w4).setCell (p:=⟨w1.heap.size,5,none⟩) rfl _;have hkl:ab<w1.heap.size\/w1.heap.size<=ab:=Nat.lt_or_ge _ _;refine⟨w1.heap.size,kb,w3.heap.size,ab,rfl,⟨?_,GN _, ?_,⟨rs,its, ?_,HE.out.2⟩,by simp,λ_=>Nat.zero_le _,ha,Nat.zero_le _⟩,by omega,H4.out.2.2.1.setCell (p:=⟨w1.heap.size,5,none⟩) (by show w.heap.size<=w1.heap.size;omega) _⟩
 ·have:=H4.out.2.1;unfold aA at this⊢;simp[World.setCell,Array.getElem?_modify,this]
 ·refine H4.out.1.Z8 hcz (λe=>?_) (λk hk=>by cases hk) (λe=>?_) (λk e _=>by subst e;exact⟨_,_,_,H4.out.2.1⟩)
  ·exact mD H4.out.1.blk H4.out.2.1 (by decide) e
  ·obtain⟨N,hN⟩:=H4.out.1.ack;exact hN.mP (e▸H4.out.2.1)
 ·have:=H4.out.2.2.2.aJ hcz (by omega);rw[HE.out.1]at this;exact this
end Go.Proofs.YtfmmllpjgkgeaaaGreatDoor
namespace Go.Proofs.YtfmmllpjgkgeaaaGreatDoor
open Go.RowKit Go.Maps Go.WideMaps
def jr(K1 K2:Nat->Nat):Nat->Nat:=λx=>max (K1 x) (K2 x)
open Classical in
noncomputable def iO(K1:Nat->Nat)(C1:Nat->Option Thk.Ch)(K2:Nat->Nat)(C2:Nat->Option Thk.Ch):Nat->Option Thk.Ch:=λd =>
 if(C1 d=none/\nth d<=K1 (who d))\/(C2 d=none/\nth d<=K2 (who d))then none else(C1 d).or (C2 d)
