import Derived.Test.YtoiiaankpnhppaaGreatDoorPart30
import Derived.Test.YtoiiaankpnhppaaGreatDoorPart32
set_option linter.unusedVariables false
set_option linter.unusedSimpArgs false
namespace Go.Proofs.YtoiiaankpnhppaaGreatDoor
open Go.RowKit Go.Maps Go.WideMaps Go.MuLone Go.Deep

structure RepB (K : Nat → Nat) (C : Nat → Option Thk.Ch) : Prop where
  hns : ∀ ns : List Nat, ns.Nodup → (∀ d, d ∈ ns ↔ 1 ≤ nth d ∧ inK K (fun _ => false) d) → ns.length ≤ 500
  hN : ∀ w v N, MapO Tryz.prog 121 w v N (im (itOf C)) → N ≤ 500
  hch : ∀ k c, C k = some c → (c.act = 43 ∨ c.act = 94 ∨ c.act = 61 ∨ c.act = 62) ∧ (-9223372036854775808 ≤ c.n ∧ c.n ≤ 9223372036854775807) ∧ c.path.length ≤ 1048576 ∧ (keptVal c.act ⟨c.val.toArray⟩).size ≤ 1048576 ∧ (txtC c).length ≤ 1000
def FrBy (s : ByteArray) (a : Nat) (K : Nat → Nat) (C : Nat → Option Thk.Ch) : Prop :=
  ∃ ns rs xs, ns.Nodup ∧ (∀ d, d ∈ ns ↔ 1 ≤ nth d ∧ inK K (fun _ => false) d) ∧ Runs ns ns.length rs ∧ SAll (itOf C) xs ∧ toL s = encF a rs (wIt C xs)
theorem rBytes (w : World) (hG : Glob w) {rb a : Nat} {io co lo : Option Nat} {K : Nat → Nat} {C : Nat → Option Thk.Ch} (hR : RepP w rb a io co lo K C) (hB : RepB K C) :
    Calls Tryz.prog 99 #[.agg #[.int .i64 (a : Int), .bool false, .map io, .map co, .map lo]] w fun e w' => ∃ s, e = .returned (.string s) ∧ FrBy s a K C ∧ Below w.heap.size w w' := by
  obtain ⟨N, hm⟩ := hR.st.its
  refine Calls.mono (Bytes_brings w hG a hR.a5 io co lo K (fun _ => false) C N hR.ctx hm (fun k hk => (hR.st.ok k (itOf_none.2 hk)).1) (hB.hN _ _ _ hm) hB.hns hB.hch) ?_
  rintro e w' ⟨s, ns, rs, xs, rfl, h1, h2, h3, h4, h5, h6⟩
  exact ⟨s, rfl, ⟨ns, rs, xs, h1, h2, h3, h4, h5⟩, h6⟩

def SendD (ds : List RepD) (bs : List (Nat × ByteArray)) (i j : Int) (n r : Int) (bs' : List (Nat × ByteArray)) : Prop :=
  (¬ ((0 ≤ i ∧ i < ds.length) ∧ (0 ≤ j ∧ j < ds.length)) ∧ n = 0 ∧ r = 2 ∧ bs' = bs) ∨
  (((0 ≤ i ∧ i < ds.length) ∧ (0 ≤ j ∧ j < ds.length)) ∧ i = j ∧ n = 0 ∧ r = 1 ∧ bs' = bs) ∨
  (((0 ≤ i ∧ i < ds.length) ∧ (0 ≤ j ∧ j < ds.length)) ∧ ¬ i = j ∧ 500 ≤ bs.length ∧ n = 0 ∧ r = 7 ∧ bs' = bs) ∨
  ∃ (k k' : Nat) (hk : k < ds.length) (s : ByteArray), i = (k : Int) ∧ j = (k' : Int) ∧ k' < ds.length ∧ ¬ i = j ∧ bs.length < 500 ∧ n = ((bs.length + 1 : Nat) : Int) ∧ r = 0 ∧ bs' = bs ++ [(k', s)] ∧ FrBy s k ds[k].K ds[k].C

set_option maxHeartbeats 8000000 in
set_option maxRecDepth 100000 in
theorem CSend_any (w : World) (hG : Glob w) (x q cap : Nat) (fv : Value) (ds : List RepD) (bs : List (Nat × ByteArray)) (hC : CluP w x q cap fv 0 ds bs) (hB : ∀ j (h : j < ds.length), RepB ds[j].K ds[j].C) (i j : Int) :
    Calls Tryz.prog 29 #[.pointer (some ⟨x, 0, none⟩), .int .i64 i, .int .i64 j] w fun e w' => ∃ n r bs' fv', e = .returned (.tuple #[.int .i64 n, .int .i64 r]) ∧ SendD ds bs i j n r bs' ∧ CluP w' x q cap fv' 0 ds bs' ∧
      Chg (fun k => k = x ∨ fv.ownBlock = some k) w w' ∧ (∀ k, fv'.ownBlock = some k → fv.ownBlock = some k ∨ w.heap.size ≤ k) := by
  have HB : Hid (∀ j (h : j < ds.length), RepB ds[j].K ds[j].C) := hB
  clear hB
  have HC : Hid (CluP w x q cap fv 0 ds bs) := hC
  have k0 : w.cell? ⟨x, 0, none⟩ = some (.int .i32 0) := (hC.blk.cell 0).trans rfl
  have z0 : w.frozen? ⟨x, 0, none⟩ = false := hC.blk.frozen 0
  have HC1 : Hid (CluP (w.setCell ⟨x, 0, none⟩ (.int .i32 1)) x q cap fv 1 ds bs) := hC.turn 1
  have HG : Hid (Glob w) := hG
  clear hC hG
  go_enter_defers Tryz.func29, Tryz.ntmps29
  go_wp2_with (go_at_call 34; refine (lock_free YtoiiaankpnhppaaGreatDoor.muLib ⟨x, 0, none⟩ _ k0 z0).mono ?_; rintro e w' ⟨rfl, rfl⟩)
  have h1b : Below (w.setCell ⟨x, 0, none⟩ (.int .i32 1)).heap.size (w.setCell ⟨x, 0, none⟩ (.int .i32 1)) ((w.setCell ⟨x, 0, none⟩ (.int .i32 1)).alloc (.cells #[.int .i64 i, .int .i64 j] 3)) := (Below.refl _ _).alloc (Nat.le_refl _) _
  have hgc : ((w.setCell ⟨x, 0, none⟩ (.int .i32 1)).alloc (.cells #[.int .i64 i, .int .i64 j] 3)).cell? ⟨w.heap.size, 0, none⟩ = some (.int .i64 i) := by
    have := (Blk.new (w.setCell ⟨x, 0, none⟩ (.int .i32 1)) #[.int .i64 i, .int .i64 j] 3).cell 0
    simpa using this
  have hgd : ((w.setCell ⟨x, 0, none⟩ (.int .i32 1)).alloc (.cells #[.int .i64 i, .int .i64 j] 3)).cell? ⟨w.heap.size, 1, none⟩ = some (.int .i64 j) := by
    have := (Blk.new (w.setCell ⟨x, 0, none⟩ (.int .i32 1)) #[.int .i64 i, .int .i64 j] 3).cell 1
    simpa using this
  have hch : Chg (fun k => k = x) w ((w.setCell ⟨x, 0, none⟩ (.int .i32 1)).alloc (.cells #[.int .i64 i, .int .i64 j] 3)) := (chg_turn (M := fun k => k = x) rfl _).below h1b
  have HB1 := HC1.out.below h1b
  refine Calls.mono (named_two _ x q cap fv 1 ds bs HB1 w.heap.size i j hgc hgd) ?_
  rintro e w1 ⟨rfl, hw1⟩
  rw [← hw1] at HB1 hch
  clear hgc hgd h1b hw1 HC1 k0 z0
  have G1 : Hid (Glob w1) := HG.out.chg4 hch (fun k e => by subst e; exact HC.out.x4)
  have HC1 : Hid (CluP w1 x q cap fv 1 ds bs) := HB1
  have Hch : Hid (Chg (fun k => k = x) w w1) := hch
  clear HB1 hch HG
  have HT : Hid (CluP (w1.setCell ⟨x, 0, none⟩ (.int .i32 0)) x q cap fv 0 ds bs ∧ Chg (fun k => k = x ∨ fv.ownBlock = some k) w (w1.setCell ⟨x, 0, none⟩ (.int .i32 0)) ∧ (∀ k, fv.ownBlock = some k → fv.ownBlock = some k ∨ w.heap.size ≤ k)) :=
    ⟨HC1.out.turn 0, Chg.setCell (M := fun k => k = x ∨ fv.ownBlock = some k) (p := ⟨x, 0, none⟩) (Hch.out.wide (fun k e => Or.inl e)) (Or.inl rfl) _, fun k hk => Or.inl hk⟩
  rw [namedL_2]
  by_cases hi : (0 ≤ i ∧ i < ds.length) ∧ (0 ≤ j ∧ j < ds.length)
  · rw [if_pos hi]
    by_cases hij : i = j
    · have HD : Hid (SendD ds bs i j 0 1 bs) := (Or.inr (Or.inl ⟨hi, hij, rfl, rfl, rfl⟩))
      clear hi
      subst hij
      go_wp2_with fail
      refine leaves_cons (f := 35) (args := #[.pointer (some ⟨x, 0, none⟩)]) (by simp) (by simp [go_sem]) ?_
      refine (unlock_deferred YtoiiaankpnhppaaGreatDoor.muLib ⟨x, 0, none⟩ .returning _ ((HC1.out.blk.cell 0).trans rfl) (HC1.out.blk.frozen 0)).mono ?_
      rintro e u' w9 ⟨rfl, rfl, rfl⟩
      exact ⟨_, results_tmp2 rfl _ _ _, _, _, bs, fv, rfl, HD.out, HT.out⟩
    · obtain ⟨k, rfl⟩ := Int.eq_ofNat_of_zero_le hi.1.1
      obtain ⟨k', rfl⟩ := Int.eq_ofNat_of_zero_le hi.2.1
      have hk : k < ds.length := by omega
      have hk' : k' < ds.length := by omega
      by_cases h5 : 500 ≤ bs.length
      · have HD : Hid (SendD ds bs (k : Int) (k' : Int) 0 7 bs) := (Or.inr (Or.inr (Or.inl ⟨hi, hij, h5, rfl, rfl, rfl⟩)))
        have HS : Hid (∀ wx, CluP wx x q cap fv 1 ds bs → Calls Tryz.prog 55 #[.pointer (some ⟨x, 0, none⟩)] wx fun e w' => e = .returned (.bool true) ∧ w' = wx) := fun wx hx => by
          have := allSent_any wx x q cap fv 1 ds bs hx
          rw [decide_eq_true h5] at this; exact this
        have hne : (((k : Int)) == ((k' : Int))) = false := beq_eq_false_iff_ne.2 hij
        clear hi
        go_wp2_with fail
        refine Calls.mono (HS.out _ HC1.out) ?_
        rintro e w2 ⟨rfl, rfl⟩
        go_wp2_with fail
        refine leaves_cons (f := 35) (args := #[.pointer (some ⟨x, 0, none⟩)]) (by simp) (by simp [go_sem]) ?_
        refine (unlock_deferred YtoiiaankpnhppaaGreatDoor.muLib ⟨x, 0, none⟩ .returning _ ((HC1.out.blk.cell 0).trans rfl) (HC1.out.blk.frozen 0)).mono ?_
        rintro e u' w9 ⟨rfl, rfl, rfl⟩
        exact ⟨_, results_tmp2 rfl _ _ _, _, _, bs, fv, rfl, HD.out, HT.out⟩
      · have HS : Hid (∀ wx, CluP wx x q cap fv 1 ds bs → Calls Tryz.prog 55 #[.pointer (some ⟨x, 0, none⟩)] wx fun e w' => e = .returned (.bool false) ∧ w' = wx) := fun wx hx => by
          have := allSent_any wx x q cap fv 1 ds bs hx
          rw [decide_eq_false h5] at this; exact this
        have hne : (((k : Int)) == ((k' : Int))) = false := beq_eq_false_iff_ne.2 hij
        have c2 : w1.cell? ⟨x, 2, none⟩ = some (.slice (some ⟨q, 0, none⟩) ds.length cap) := (HC1.out.blk.cell 2).trans rfl
        have cq := HC1.out.cell k hk
        have HR : Hid (_) := rSend_any w1 _ _ _ _ _ _ _ (HC1.out.rep k hk)
        have Hij : Hid (_) := hij
        have H5 : Hid (_) := h5
        clear hi
        go_wp2_with fail
        refine Calls.mono (HS.out _ HC1.out) ?_
        rintro e w2 ⟨rfl, rfl⟩
        go_wp2_with fail
        refine Calls.mono HR.out ?_
        rintro e w3 ⟨rfl, hb3⟩
        have HC3 : Hid (CluP w3 x q cap fv 1 ds bs) := HC1.out.below hb3
        have G3 : Hid (Glob w3) := G1.out.mono hb3
        have Hch3 : Hid (Chg (fun k => k = x) w w3) := Hch.out.below hb3
        have HZ : Hid (_) := send_any w3 x q cap fv 1 ds bs HC3.out (by have := H5.out; omega) k' (k : Int) false ds[k].io ds[k].co ds[k].lo (fun s => FrBy s k ds[k].K ds[k].C) (fun wx hx => rBytes wx (G3.out.mono hx) ((HC3.out.rep k hk).below hx) (HB.out k hk))
        clear HR HS hb3 c2 cq G1
        go_wp2_with fail
        refine Calls.mono HZ.out ?_
        rintro e w4 ⟨s, fv', rfl, hP, hC4, hc4, hn4⟩
        have HC4 : Hid (CluP w4 x q cap fv' 1 ds (bs ++ [(k', s)])) := hC4
        have HE : Hid (SendD ds bs (k : Int) (k' : Int) ((bs.length + 1 : Nat) : Int) 0 (bs ++ [(k', s)]) ∧ Chg (fun k => k = x ∨ fv.ownBlock = some k) w w4 ∧ (∀ b, fv'.ownBlock = some b → fv.ownBlock = some b ∨ w.heap.size ≤ b)) :=
          ⟨Or.inr (Or.inr (Or.inr ⟨k, k', hk, s, rfl, rfl, hk', Hij.out, by have := H5.out; omega, rfl, rfl, rfl, hP⟩)), (Hch3.out.wide (fun k e => Or.inl e)).trans hc4, fun b hb => (hn4 b hb).imp id (fun h => Nat.le_trans Hch3.out.size h)⟩
        clear HZ HC3 hP hC4 hc4 hn4 Hch3 G3
        go_wp2_with fail
        refine leaves_cons (f := 35) (args := #[.pointer (some ⟨x, 0, none⟩)]) (by simp) (by simp [go_sem]) ?_
        refine (unlock_deferred YtoiiaankpnhppaaGreatDoor.muLib ⟨x, 0, none⟩ .returning _ ((HC4.out.blk.cell 0).trans rfl) (HC4.out.blk.frozen 0)).mono ?_
        rintro e u' w9 ⟨rfl, rfl, rfl⟩
        exact ⟨_, results_tmp2 rfl _ _ _, _, _, _, fv', rfl, HE.out.1, HC4.out.turn 0, Chg.setCell (M := fun k => k = x ∨ fv.ownBlock = some k) (p := ⟨x, 0, none⟩) HE.out.2.1 (Or.inl rfl) _, HE.out.2.2⟩
  · rw [if_neg hi]
    have HD : Hid (SendD ds bs i j 0 2 bs) := (Or.inl ⟨hi, rfl, rfl, rfl⟩)
    clear hi
    go_wp2_with fail
    refine leaves_cons (f := 35) (args := #[.pointer (some ⟨x, 0, none⟩)]) (by simp) (by simp [go_sem]) ?_
    refine (unlock_deferred YtoiiaankpnhppaaGreatDoor.muLib ⟨x, 0, none⟩ .returning _ ((HC1.out.blk.cell 0).trans rfl) (HC1.out.blk.frozen 0)).mono ?_
    rintro e u' w9 ⟨rfl, rfl, rfl⟩
    exact ⟨_, results_tmp2 rfl _ _ _, _, _, bs, fv, rfl, HD.out, HT.out⟩

def frameD (bs : List (Nat × ByteArray)) (f : Int) : ByteArray × Int := if 1 ≤ f ∧ f ≤ bs.length then (((bs[f.toNat - 1]?.map Prod.snd).getD ⟨#[]⟩), 0) else (⟨#[]⟩, 9)

set_option maxHeartbeats 4000000 in
set_option maxRecDepth 100000 in
theorem CFrame_any (w : World) (x q cap : Nat) (fv : Value) (ds : List RepD) (bs : List (Nat × ByteArray)) (hC : CluP w x q cap fv 0 ds bs) (hz : ∀ p ∈ bs, p.2.size ≤ 1000000000) (f : Int) :
    Calls Tryz.prog 86 #[.pointer (some ⟨x, 0, none⟩), .int .i64 f] w fun e w' => e = .returned (.tuple #[.string (frameD bs f).1, .int .i64 (frameD bs f).2]) ∧ CluP w' x q cap fv 0 ds bs ∧ Chg (fun k => k = x) w w' := by
  have HC : Hid (CluP w x q cap fv 0 ds bs) := hC
  have k0 : w.cell? ⟨x, 0, none⟩ = some (.int .i32 0) := (hC.blk.cell 0).trans rfl
  have z0 : w.frozen? ⟨x, 0, none⟩ = false := hC.blk.frozen 0
  have HC1 : Hid (CluP (w.setCell ⟨x, 0, none⟩ (.int .i32 1)) x q cap fv 1 ds bs) := hC.turn 1
  have Hch : Hid (Chg (fun k => k = x) w (w.setCell ⟨x, 0, none⟩ (.int .i32 1))) := chg_turn (M := fun k => k = x) rfl _
  have hb5 := hC.b500
  clear hC
  generalize hW1 : w.setCell ⟨x, 0, none⟩ (.int .i32 1) = W1 at *
  have HW1 : Hid (w.setCell ⟨x, 0, none⟩ (.int .i32 1) = W1) := hW1
  clear hW1
  by_cases hf : 1 ≤ f ∧ f ≤ bs.length
  · obtain ⟨k, rfl⟩ : ∃ k : Nat, f = (k : Int) + 1 := ⟨(f - 1).toNat, by omega⟩
    have hk : k < bs.length := by omega
    have HS : Hid (∀ wx, CluP wx x q cap fv 1 ds bs → Calls Tryz.prog 43 #[.pointer (some ⟨x, 0, none⟩), .int .i64 ((k : Int) + 1)] wx fun e w' => e = .returned (.bool true) ∧ w' = wx) := fun wx hx => by
      have := isSent_any wx x q cap fv 1 ds bs hx ((k : Int) + 1)
      rw [decide_eq_true hf] at this; exact this
    have hfd : Hid (frameD bs ((k : Int) + 1) = (bs[k].2, 0)) := by
      unfold Hid frameD
      rw [if_pos hf]
      have : ((k : Int) + 1).toNat - 1 = k := by omega
      rw [this]; simp [hk]
    have hzk := hz _ (List.getElem_mem hk)
    obtain ⟨g, c, rfl⟩ := own_some HC1.out.fr (by omega)
    have c3 : W1.cell? ⟨x, 3, none⟩ = some (.slice (some ⟨g, 0, none⟩) bs.length c) := (HC1.out.blk.cell 3).trans rfl
    have cs : W1.cell? ⟨g, k * 2 + 1, none⟩ = some (.string bs[k].2) := by
      rw [HC1.out.fr.cellAt (k * 2 + 1) (by omega)]; exact (frV_at bs k hk).2
    have hcap : bs.length ≤ c := by
      obtain ⟨ao, c', e1, e2⟩ := HC1.out.fvS
      simp only [Value.slice.injEq] at e1
      omega
    rw [hfd.out]
    generalize bs[k].2 = bt at *
    have HCl : Hid (_) := CloneB_any bt W1 hzk
    clear hf hz hfd
    go_enter_defers Tryz.func86, Tryz.ntmps86
    go_wp2_with (go_at_call 34; refine (lock_free YtoiiaankpnhppaaGreatDoor.muLib ⟨x, 0, none⟩ _ k0 z0).mono ?_; rintro e w' ⟨rfl, rfl⟩)
    rw [HW1.out]
    refine Calls.mono (HS.out _ HC1.out) ?_
    rintro e w2 ⟨rfl, rfl⟩
    clear HS
    go_wp2_with fail
    refine Calls.mono HCl.out ?_
    rintro e w3 ⟨rfl, hb3⟩
    have HC3 : Hid (CluP w3 x q cap (.slice (some ⟨g, 0, none⟩) bs.length c) 1 ds bs) := HC1.out.below hb3
    have Hch3 : Hid (Chg (fun k => k = x) w w3) := Hch.out.below hb3
    clear HCl hb3 c3 cs
    go_wp2_with fail
    refine leaves_cons (f := 35) (args := #[.pointer (some ⟨x, 0, none⟩)]) (by simp) (by simp [go_sem]) ?_
    refine (unlock_deferred YtoiiaankpnhppaaGreatDoor.muLib ⟨x, 0, none⟩ .returning _ ((HC3.out.blk.cell 0).trans rfl) (HC3.out.blk.frozen 0)).mono ?_
    rintro e u' w9 ⟨rfl, rfl, rfl⟩
    exact ⟨_, results_tmp2 rfl _ _ _, rfl, HC3.out.turn 0, Chg.setCell (M := fun k => k = x) (p := ⟨x, 0, none⟩) Hch3.out rfl _⟩
  · have HS : Hid (∀ wx, CluP wx x q cap fv 1 ds bs → Calls Tryz.prog 43 #[.pointer (some ⟨x, 0, none⟩), .int .i64 f] wx fun e w' => e = .returned (.bool false) ∧ w' = wx) := fun wx hx => by
      have := isSent_any wx x q cap fv 1 ds bs hx f
      rw [decide_eq_false hf] at this; exact this
    have hfd : frameD bs f = (⟨#[]⟩, 9) := by unfold frameD; rw [if_neg hf]
    rw [hfd]
    clear hf hz hfd
    go_enter_defers Tryz.func86, Tryz.ntmps86
    go_wp2_with (go_at_call 34; refine (lock_free YtoiiaankpnhppaaGreatDoor.muLib ⟨x, 0, none⟩ _ k0 z0).mono ?_; rintro e w' ⟨rfl, rfl⟩)
    rw [HW1.out]
    refine Calls.mono (HS.out _ HC1.out) ?_
    rintro e w2 ⟨rfl, rfl⟩
    clear HS
    go_wp2_with fail
    refine leaves_cons (f := 35) (args := #[.pointer (some ⟨x, 0, none⟩)]) (by simp) (by simp [go_sem]) ?_
    refine (unlock_deferred YtoiiaankpnhppaaGreatDoor.muLib ⟨x, 0, none⟩ .returning _ ((HC1.out.blk.cell 0).trans rfl) (HC1.out.blk.frozen 0)).mono ?_
    rintro e u' w9 ⟨rfl, rfl, rfl⟩
    exact ⟨_, results_tmp2 rfl _ _ _, rfl, HC1.out.turn 0, Chg.setCell (M := fun k => k = x) (p := ⟨x, 0, none⟩) Hch.out rfl _⟩
end Go.Proofs.YtoiiaankpnhppaaGreatDoor

