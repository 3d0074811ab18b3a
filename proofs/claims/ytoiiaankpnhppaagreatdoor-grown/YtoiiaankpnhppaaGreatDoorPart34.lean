import Derived.Test.YtoiiaankpnhppaaGreatDoorPart33
set_option linter.unusedVariables false
set_option linter.unusedSimpArgs false
namespace Go.Proofs.YtoiiaankpnhppaaGreatDoor
open Go.RowKit Go.Maps Go.WideMaps Go.MuLone Go.Deep

set_option maxHeartbeats 4000000 in
set_option maxRecDepth 100000 in
theorem come_ack (w : World) (x : Nat) (dn : Int) (s : ByteArray) (a : Nat) (ha : a ≤ 5) (hs : toL s = encA a) :
    Calls Tryz.prog 44 #[.pointer (some ⟨x, 0, none⟩), .int .i64 dn, .string s] w fun e w' => e = .returned (.tuple #[.int .i64 0, .int .i64 0]) ∧ Below w.heap.size w w' := by
  have HR : Hid (_) := fRead_ack w s a ha hs
  clear hs
  go_enter Tryz.func44, Tryz.ntmps44
  go_wp2_with fail
  refine Calls.mono HR.out ?_
  rintro e w1 ⟨rfl, hb1⟩
  have HB : Hid (∀ ob, Below w.heap.size w (w1.alloc ob)) := fun ob => hb1.alloc hb1.size ob
  clear HR hb1
  go_wp2_with fail
  go_ret2
  exact ⟨rfl, HB.out _⟩

set_option maxHeartbeats 8000000 in
set_option maxRecDepth 100000 in
theorem come_full (w : World) (hG : Glob w) (x q cap : Nat) (fv : Value) (ds : List RepD) (bs : List (Nat × ByteArray)) (hC : CluP w x q cap fv 1 ds bs) (dn : Int) (s : ByteArray) (a : Nat) (K2 : Nat → Nat) (C2 : Nat → Option Thk.Ch) (hs : ByBr s a K2 C2) (h5 : 500 ≤ bs.length) :
    Calls Tryz.prog 44 #[.pointer (some ⟨x, 0, none⟩), .int .i64 dn, .string s] w fun e w' => e = .returned (.tuple #[.int .i64 0, .int .i64 7]) ∧ Below w.heap.size w w' := by
  obtain ⟨rs, its, e1, e2, e3, e4, e5, e6, e7, e8⟩ := hs.ex
  have HR : Hid (_) := fRead_brings w hG s a hs.a5 rs its e1 e2 e3 e4 e5 e6
  have HC : Hid (CluP w x q cap fv 1 ds bs) := hC
  have HS : Hid (∀ wx, CluP wx x q cap fv 1 ds bs → Calls Tryz.prog 55 #[.pointer (some ⟨x, 0, none⟩)] wx fun e w' => e = .returned (.bool true) ∧ w' = wx) := fun wx hx => by
    have := allSent_any wx x q cap fv 1 ds bs hx
    rw [decide_eq_true h5] at this; exact this
  clear hC hs e1 e2 e3 e4 e5 e6 e7 e8 h5 hG
  go_enter Tryz.func44, Tryz.ntmps44
  go_wp2_with fail
  refine Calls.mono HR.out ?_
  rintro e w1 ⟨ib, cb, lb, rfl, hst, hn, hb1⟩
  have HB : Hid (∀ ob, Below w.heap.size w (w1.alloc ob)) := fun ob => hb1.alloc hb1.size ob
  clear HR hb1 hst hn
  go_wp2_with fail
  refine Calls.mono (HS.out _ (HC.out.below (HB.out _))) ?_
  rintro e w2 ⟨rfl, rfl⟩
  go_wp2_with fail
  go_ret2
  exact ⟨rfl, HB.out _⟩

set_option maxHeartbeats 8000000 in
set_option maxRecDepth 100000 in
theorem come_br (w : World) (hG : Glob w) (x q cap : Nat) (fv : Value) (ds : List RepD) (bs : List (Nat × ByteArray)) (hC : CluP w x q cap fv 1 ds bs) (k : Nat) (hk : k < ds.length) (s : ByteArray) (a : Nat) (K2 : Nat → Nat) (C2 : Nat → Option Thk.Ch) (hs : ByBr s a K2 C2) (h5 : bs.length < 500)
    (same : ∀ d c c', ds[k].C d = some c → C2 d = some c' → c = c') :
    Calls Tryz.prog 44 #[.pointer (some ⟨x, 0, none⟩), .int .i64 (k : Int), .string s] w fun e w' => ∃ io co lo s' fv', e = .returned (.tuple #[.int .i64 ((bs.length + 1 : Nat) : Int), .int .i64 0]) ∧ toL s' = encA k ∧
      CluP w' x q cap fv' 1 (ds.set k ⟨ds[k].rb, some io, some co, some lo, maxK ds[k].K K2, joinC ds[k].K ds[k].C K2 C2⟩) (bs ++ [(a, s')]) ∧ (w.heap.size ≤ io ∧ w.heap.size ≤ co ∧ w.heap.size ≤ lo) ∧
      Chg (fun b => b = x ∨ fv.ownBlock = some b ∨ b = ds[k].rb) w w' ∧ (∀ b, fv'.ownBlock = some b → fv.ownBlock = some b ∨ w.heap.size ≤ b) := by
  obtain ⟨rs, its, e1, e2, e3, e4, e5, e6, e7, e8⟩ := hs.ex
  have HR : Hid (_) := fRead_brings w hG s a hs.a5 rs its e1 e2 e3 e4 e5 e6
  have HC : Hid (CluP w x q cap fv 1 ds bs) := hC
  have HS : Hid (∀ wx, CluP wx x q cap fv 1 ds bs → Calls Tryz.prog 55 #[.pointer (some ⟨x, 0, none⟩)] wx fun e w' => e = .returned (.bool false) ∧ w' = wx) := fun wx hx => by
    have := allSent_any wx x q cap fv 1 ds bs hx
    rw [decide_eq_false (by omega)] at this; exact this
  have hk5 : k ≤ 5 := by have := hC.len; omega
  have hlen := hC.len
  go_enter Tryz.func44, Tryz.ntmps44
  go_wp2_with fail
  refine Calls.mono HR.out ?_
  rintro e w1 ⟨ib, cb, lb, rfl, hst, hn, hb1⟩
  obtain ⟨W2, hW2⟩ : ∃ W2, W2 = w1.alloc (.cells #[.int .i64 (a : Int), .bool false, .map (some ib), .map (some cb), .map (some lb)] 108) := ⟨_, rfl⟩
  have hb12 : Below w1.heap.size w1 W2 := by rw [hW2]; exact (Below.refl _ w1).alloc (Nat.le_refl _) _
  have hb2 : Below w.heap.size w W2 := hb1.trans (hb12.mono hb1.size)
  have kf : Blk W2 w1.heap.size #[.int .i64 (a : Int), .bool false, .map (some ib), .map (some cb), .map (some lb)] 108 := by rw [hW2]; exact Blk.new w1 _ _
  have HC2 : Hid (CluP W2 x q cap fv 1 ds bs) := hC.below hb2
  have hst2 := hst.below hb12
  rw [e7] at hst2
  have hS2 : ∀ d, 1 ≤ nth d → ((itOf C2 d ≠ none ∨ d ∈ flatR rs) ↔ nth d ≤ K2 (who d)) := fun d hd => by rw [← e7]; exact e8 d hd
  have HV : Hid (∀ wx, wx.heap = W2.heap → wx.os = W2.os → wx.tape = W2.tape → wx.output = W2.output → Calls Tryz.prog 80 #[.pointer (some ⟨ds[k].rb, 0, none⟩), .agg #[.int .i64 (a : Int), .bool false, .map (some ib), .map (some cb), .map (some lb)]] wx fun e w' => e = .returned (.agg #[.int .i64 (k : Int), .bool true, .map none, .map none, .map none]) ∧
      (∃ io co lo, CluP w' x q cap fv 1 (ds.set k ⟨ds[k].rb, some io, some co, some lo, maxK ds[k].K K2, joinC ds[k].K ds[k].C K2 C2⟩) bs ∧ (w.heap.size ≤ io ∧ w.heap.size ≤ co ∧ w.heap.size ≤ lo) ∧ Chg (fun b => b = ds[k].rb) w w') ∧
      w'.cell? ⟨x, 2, none⟩ = some (.slice (some ⟨q, 0, none⟩) ds.length cap) ∧ w'.cell? ⟨q, k, none⟩ = some (.pointer (some ⟨ds[k].rb, 0, none⟩)) ∧ w'.cell? ⟨w1.heap.size, 0, none⟩ = some (.int .i64 (a : Int)) ∧ w'.cell? ⟨w1.heap.size, 1, none⟩ = some (.bool false) ∧ w'.cell? ⟨w1.heap.size, 2, none⟩ = some (.map (some ib)) ∧ w'.cell? ⟨w1.heap.size, 3, none⟩ = some (.map (some cb)) ∧ w'.cell? ⟨w1.heap.size, 4, none⟩ = some (.map (some lb))) := fun wx hx ho ht hp => by
    have hbx : Below W2.heap.size W2 wx := ⟨ho, ht, hp, by rw [hx]; exact Nat.le_refl _, fun k _ => by rw [hx]⟩
    have hcl := HC2.out.below hbx
    have hbw : Below w.heap.size w wx := hb2.trans (hbx.mono hb2.size)
    refine Calls.mono (Receive_any wx ds[k].rb k ds[k].K K2 ds[k].io ds[k].co ds[k].lo ds[k].C C2 ib cb lb (fun d => itOf C2 d ≠ none ∨ d ∈ flatR rs) (a : Int) (hcl.rep k hk) (hst2.below hbx) hS2 hs.k5 hs.cp same) ?_
    rintro e w' ⟨rfl, io, co, lo, hr, hnw, hc⟩
    have hcx := hcl.renew k hk hr hnw hc
    have hcw : Chg (fun b => b = ds[k].rb) w w' := (Chg.of_below hbw).trans hc
    have hx2 : ¬ x = ds[k].rb := fun e => hcl.xr k hk (Or.inl e)
    have hq2 : ¬ q = ds[k].rb := fun e => hcl.qr k hk (Or.inl e)
    have hf2 : ¬ w1.heap.size = ds[k].rb := fun e => by have := (hC.rep k hk).blk.lt; have := hb1.size; omega
    have kx := (kf.below hbx).chg hc hf2
    obtain ⟨cs, r1, r2⟩ := hcl.row
    have hz := hbw.size
    refine ⟨rfl, ⟨io, co, lo, hcx, ⟨by omega, by omega, by omega⟩, hcw⟩, ((hcl.blk.chg hc hx2).cell 2).trans rfl, ((r1.chg hc hq2).cell k).trans (r2 k hk), (kx.cell 0).trans rfl, (kx.cell 1).trans rfl, (kx.cell 2).trans rfl, (kx.cell 3).trans rfl, (kx.cell 4).trans rfl⟩
  have HZ : Hid (∀ wx w3, (∃ io co lo, CluP w3 x q cap fv 1 (ds.set k ⟨ds[k].rb, some io, some co, some lo, maxK ds[k].K K2, joinC ds[k].K ds[k].C K2 C2⟩) bs ∧ (w.heap.size ≤ io ∧ w.heap.size ≤ co ∧ w.heap.size ≤ lo) ∧ Chg (fun b => b = ds[k].rb) w w3) → wx.heap = w3.heap → wx.os = w3.os → wx.tape = w3.tape → wx.output = w3.output →
      Calls Tryz.prog 56 #[.pointer (some ⟨x, 0, none⟩), .int .i64 (a : Int), .agg #[.int .i64 (k : Int), .bool true, .map none, .map none, .map none]] wx fun e w' => ∃ io co lo s' fv', e = .returned (.int .i64 ((bs.length + 1 : Nat) : Int)) ∧ toL s' = encA k ∧
      CluP w' x q cap fv' 1 (ds.set k ⟨ds[k].rb, some io, some co, some lo, maxK ds[k].K K2, joinC ds[k].K ds[k].C K2 C2⟩) (bs ++ [(a, s')]) ∧ (w.heap.size ≤ io ∧ w.heap.size ≤ co ∧ w.heap.size ≤ lo) ∧
      Chg (fun b => b = x ∨ fv.ownBlock = some b ∨ b = ds[k].rb) w w' ∧ (∀ b, fv'.ownBlock = some b → fv.ownBlock = some b ∨ w.heap.size ≤ b)) := fun wx w3 h3 hx ho ht hp => by
    obtain ⟨io, co, lo, hcl, hnw, hcw⟩ := h3
    have hbx : Below w3.heap.size w3 wx := ⟨ho, ht, hp, by rw [hx]; exact Nat.le_refl _, fun k _ => by rw [hx]⟩
    have hclx := hcl.below hbx
    refine Calls.mono (send_any wx x q cap fv 1 _ bs hclx (by omega) a (k : Int) true none none none (fun s' => toL s' = encA k) (fun wy hy => Bytes_ack wy k hk5 none none none)) ?_
    rintro e w' ⟨s', fv', rfl, hP, hC4, hc4, hn4⟩
    have hcx : Chg (fun b => b = x ∨ fv.ownBlock = some b ∨ b = ds[k].rb) w wx := (hcw.below hbx).wide (fun b e => Or.inr (Or.inr e))
    refine ⟨io, co, lo, s', fv', rfl, hP, hC4, hnw, hcx.trans (hc4.wide (fun b e => e.elim Or.inl (fun e => Or.inr (Or.inl e)))), fun b hb => (hn4 b hb).imp id (fun h => Nat.le_trans hcx.size h)⟩
  have c2 : W2.cell? ⟨x, 2, none⟩ = some (.slice (some ⟨q, 0, none⟩) ds.length cap) := (HC2.out.blk.cell 2).trans rfl
  have cq := HC2.out.cell k hk
  have f0 := (kf.cell 0).trans rfl
  have f1 := (kf.cell 1).trans rfl
  have f2 := (kf.cell 2).trans rfl
  have f3 := (kf.cell 3).trans rfl
  have f4 := (kf.cell 4).trans rfl
  have HW2 : Hid (w1.alloc (.cells #[.int .i64 (a : Int), .bool false, .map (some ib), .map (some cb), .map (some lb)] 108) = W2) := hW2.symm
  clear HR hC hs e1 e2 e3 e4 e5 e6 e7 e8 same hG hst hst2 hS2 hn hb1 hb12 hb2 kf hW2 HC
  go_wp2_with fail
  rw [HW2.out]
  refine Calls.mono (HS.out _ HC2.out) ?_
  rintro e w3 ⟨rfl, rfl⟩
  clear HS
  go_wp2_with fail
  go_region_law (first | (go_simp; refine Calls.mono (HZ.out _ w4 h4 rfl rfl rfl rfl) ?_; rintro e w5 ⟨io, co, lo, s', fv', rfl, h5⟩) | (go_simp; refine Calls.mono (HV.out _ rfl rfl rfl rfl) ?_; rintro e w4 ⟨rfl, h4, d2, dq, g0, g1, g2, g3, g4⟩))
  all_goals
    have H5 : Hid (_) := h5
    clear h5
    go_wp2_with fail
    go_ret2
    exact ⟨io, co, lo, s', fv', rfl, H5.out⟩

set_option maxHeartbeats 4000000 in
set_option maxRecDepth 100000 in
theorem CDel_bad (w : World) (x q cap : Nat) (fv : Value) (ds : List RepD) (bs : List (Nat × ByteArray)) (hC : CluP w x q cap fv 0 ds bs) (f : Int) (hf : ¬ (1 ≤ f ∧ f ≤ bs.length)) :
    Calls Tryz.prog 23 #[.pointer (some ⟨x, 0, none⟩), .int .i64 f] w fun e w' => e = .returned (.tuple #[.int .i64 0, .int .i64 9]) ∧ CluP w' x q cap fv 0 ds bs ∧ Chg (fun k => k = x) w w' := by
  have k0 : w.cell? ⟨x, 0, none⟩ = some (.int .i32 0) := (hC.blk.cell 0).trans rfl
  have z0 : w.frozen? ⟨x, 0, none⟩ = false := hC.blk.frozen 0
  have HC1 : Hid (CluP (w.setCell ⟨x, 0, none⟩ (.int .i32 1)) x q cap fv 1 ds bs) := hC.turn 1
  have Hch : Hid (Chg (fun k => k = x) w (w.setCell ⟨x, 0, none⟩ (.int .i32 1))) := chg_turn (M := fun k => k = x) rfl _
  clear hC
  generalize hW1 : w.setCell ⟨x, 0, none⟩ (.int .i32 1) = W1 at *
  have HW1 : Hid (w.setCell ⟨x, 0, none⟩ (.int .i32 1) = W1) := hW1
  clear hW1
  have HS : Hid (∀ wx, CluP wx x q cap fv 1 ds bs → Calls Tryz.prog 43 #[.pointer (some ⟨x, 0, none⟩), .int .i64 f] wx fun e w' => e = .returned (.bool false) ∧ w' = wx) := fun wx hx => by
    have := isSent_any wx x q cap fv 1 ds bs hx f
    rw [decide_eq_false hf] at this; exact this
  clear hf
  go_enter_defers Tryz.func23, Tryz.ntmps23
  go_wp2_with (go_at_call 34; refine (lock_free YtoiiaankpnhppaaGreatDoor.muLib ⟨x, 0, none⟩ _ k0 z0).mono ?_; rintro e w' ⟨rfl, rfl⟩)
  rw [HW1.out]
  refine Calls.mono (HS.out _ HC1.out) ?_
  rintro e w2 ⟨rfl, rfl⟩
  clear HS
  go_wp2_with fail
  refine leaves_cons (f := 35) (args := #[.pointer (some ⟨x, 0, none⟩)]) (by simp) (by simp [go_sem]) ?_
  refine (unlock_deferred YtoiiaankpnhppaaGreatDoor.muLib ⟨x, 0, none⟩ .returning _ ((HC1.out.blk.cell 0).trans rfl) (HC1.out.blk.frozen 0)).mono ?_
  rintro e u' w9 ⟨rfl, rfl, rfl⟩
  exact ⟨_, results_tmp2 rfl _ _ _, rfl, HC1.out.turn 0, Chg.setCell (M := fun k => k = x) (p := ⟨x, 0, none⟩) Hch.out rfl _⟩

set_option maxHeartbeats 8000000 in
set_option maxRecDepth 100000 in
theorem CDel_of (w : World) (x q cap : Nat) (fv : Value) (ds : List RepD) (bs : List (Nat × ByteArray)) (hC : CluP w x q cap fv 0 ds bs) (k : Nat) (hk : k < bs.length) (M : Nat → Prop) (hM : M x) (Q : Int → Int → World → Prop)
    (hcome : ∀ wx, CluP wx x q cap fv 1 ds bs → Chg (fun k => k = x) w wx → Calls Tryz.prog 44 #[.pointer (some ⟨x, 0, none⟩), .int .i64 (bs[k].1 : Int), .string bs[k].2] wx fun e w' => ∃ n r fv' ds' bs', e = .returned (.tuple #[.int .i64 n, .int .i64 r]) ∧ CluP w' x q cap fv' 1 ds' bs' ∧ (CluP (w'.setCell ⟨x, 0, none⟩ (.int .i32 0)) x q cap fv' 0 ds' bs' → Chg M w (w'.setCell ⟨x, 0, none⟩ (.int .i32 0)) → Q n r (w'.setCell ⟨x, 0, none⟩ (.int .i32 0))) ∧ Chg M w w') :
    Calls Tryz.prog 23 #[.pointer (some ⟨x, 0, none⟩), .int .i64 ((k : Int) + 1)] w fun e w' => ∃ n r, e = .returned (.tuple #[.int .i64 n, .int .i64 r]) ∧ Q n r w' := by
  have k0 : w.cell? ⟨x, 0, none⟩ = some (.int .i32 0) := (hC.blk.cell 0).trans rfl
  have z0 : w.frozen? ⟨x, 0, none⟩ = false := hC.blk.frozen 0
  have HC1 : Hid (CluP (w.setCell ⟨x, 0, none⟩ (.int .i32 1)) x q cap fv 1 ds bs) := hC.turn 1
  have Hch : Hid (Chg (fun k => k = x) w (w.setCell ⟨x, 0, none⟩ (.int .i32 1))) := chg_turn (M := fun k => k = x) rfl _
  have hb5 := hC.b500
  clear hC
  generalize hW1 : w.setCell ⟨x, 0, none⟩ (.int .i32 1) = W1 at *
  have HW1 : Hid (w.setCell ⟨x, 0, none⟩ (.int .i32 1) = W1) := hW1
  clear hW1
  have HS : Hid (∀ wx, CluP wx x q cap fv 1 ds bs → Calls Tryz.prog 43 #[.pointer (some ⟨x, 0, none⟩), .int .i64 ((k : Int) + 1)] wx fun e w' => e = .returned (.bool true) ∧ w' = wx) := fun wx hx => by
    have := isSent_any wx x q cap fv 1 ds bs hx ((k : Int) + 1)
    rw [decide_eq_true (by omega)] at this; exact this
  obtain ⟨g, c, hfv⟩ := own_some HC1.out.fr (by omega)
  have c3 : W1.cell? ⟨x, 3, none⟩ = some (.slice (some ⟨g, 0, none⟩) bs.length c) := by rw [← hfv]; exact (HC1.out.blk.cell 3).trans rfl
  have cs0 : W1.cell? ⟨g, k * 2, none⟩ = some (.int .i64 (bs[k].1 : Int)) := by
    have := HC1.out.fr
    rw [hfv] at this
    rw [this.cellAt (k * 2) (by omega)]; exact (frV_at bs k hk).1
  have cs1 : W1.cell? ⟨g, k * 2 + 1, none⟩ = some (.string bs[k].2) := by
    have := HC1.out.fr
    rw [hfv] at this
    rw [this.cellAt (k * 2 + 1) (by omega)]; exact (frV_at bs k hk).2
  have hidx : IntKind.i64.wrap (k : Int) = (k : Int) := wrap_in _ (by omega) (by omega)
  have hk0 : (0 : Int) ≤ (k : Int) := by omega
  have hkI : (k : Int) < (bs.length : Int) := by omega
  have hcap : bs.length ≤ c := by
    obtain ⟨ao, c', e1, e2⟩ := HC1.out.fvS
    rw [hfv] at e1
    simp only [Value.slice.injEq] at e1
    omega
  have HK : Hid (∀ wx, wx.heap = W1.heap → wx.os = W1.os → wx.tape = W1.tape → wx.output = W1.output → Calls Tryz.prog 44 #[.pointer (some ⟨x, 0, none⟩), .int .i64 (bs[k].1 : Int), .string bs[k].2] wx fun e w' => ∃ n r fv' ds' bs', e = .returned (.tuple #[.int .i64 n, .int .i64 r]) ∧ CluP w' x q cap fv' 1 ds' bs' ∧ (CluP (w'.setCell ⟨x, 0, none⟩ (.int .i32 0)) x q cap fv' 0 ds' bs' → Chg M w (w'.setCell ⟨x, 0, none⟩ (.int .i32 0)) → Q n r (w'.setCell ⟨x, 0, none⟩ (.int .i32 0))) ∧ Chg M w w') := fun wx hx ho ht hp => by
    have hbx : Below W1.heap.size W1 wx := ⟨ho, ht, hp, by rw [hx]; exact Nat.le_refl _, fun k _ => by rw [hx]⟩
    exact hcome wx (HC1.out.below hbx) (Hch.out.below hbx)
  have hM' : Hid (M x) := hM
  clear hcome hfv hM
  generalize bs[k].1 = dn at *
  generalize bs[k].2 = bt at *
  go_enter_defers Tryz.func23, Tryz.ntmps23
  go_wp2_with (go_at_call 34; refine (lock_free YtoiiaankpnhppaaGreatDoor.muLib ⟨x, 0, none⟩ _ k0 z0).mono ?_; rintro e w' ⟨rfl, rfl⟩)
  rw [HW1.out]
  refine Calls.mono (HS.out _ HC1.out) ?_
  rintro e w2 ⟨rfl, rfl⟩
  clear HS k0 z0
  go_wp2_with fail
  refine wp_region_noPanic ?_
  go_region_law (go_simp; refine Calls.mono (HK.out _ rfl rfl rfl rfl) ?_; rintro e w3 ⟨n, r, fv', ds', bs', rfl, hC3, hQ3, hc3⟩)
  all_goals
    refine NoPanic.normal ?_
    have HC3 : Hid (CluP w3 x q cap fv' 1 ds' bs') := hC3
    have HQ3 : Hid (CluP (w3.setCell ⟨x, 0, none⟩ (.int .i32 0)) x q cap fv' 0 ds' bs' → Chg M w (w3.setCell ⟨x, 0, none⟩ (.int .i32 0)) → Q n r (w3.setCell ⟨x, 0, none⟩ (.int .i32 0))) := hQ3
    have Hc3 : Hid (Chg M w w3) := hc3
    clear HK c3 cs0 cs1 hC3 hQ3 hc3
    go_wp2_with fail
    refine leaves_cons (f := 35) (args := #[.pointer (some ⟨x, 0, none⟩)]) (by simp) (by simp [go_sem]) ?_
    refine (unlock_deferred YtoiiaankpnhppaaGreatDoor.muLib ⟨x, 0, none⟩ .returning _ ((HC3.out.blk.cell 0).trans rfl) (HC3.out.blk.frozen 0)).mono ?_
    rintro e u' w9 ⟨rfl, rfl, rfl⟩
    exact ⟨_, results_tmp2 rfl _ _ _, n, r, rfl, HQ3.out (HC3.out.turn 0) (Hc3.out.setCell (p := ⟨x, 0, none⟩) hM'.out _)⟩
end Go.Proofs.YtoiiaankpnhppaaGreatDoor

