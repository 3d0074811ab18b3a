import Derived.Test.YtoiiaankpnhppaaGreatDoorPart35
import Derived.Test.YtoiiaankpnhppaaGreatDoorPart37
set_option linter.unusedVariables false
set_option linter.unusedSimpArgs false
namespace Go.Proofs.YtoiiaankpnhppaaGreatDoor
open Go.RowKit Go.Maps Go.WideMaps Go.MuLone

theorem cell_heap {w w' : World} {g o : Nat} (h : w'.heap[g]? = w.heap[g]?) : w'.cell? ⟨g, o, none⟩ = w.cell? ⟨g, o, none⟩ := by
  unfold World.cell?
  simp only [h]

set_option maxHeartbeats 4000000 in
set_option maxRecDepth 100000 in
theorem ConlyNamed_any (w : World) (x q cap : Nat) (fv : Value) (ds : List RepD) (bs : List (Nat × ByteArray)) (hC : CluP w x q cap fv 0 ds bs) (i : Int) (g : Nat) (hg : w.cell? ⟨g, 0, none⟩ = some (.int .i64 i)) (hgx : g ≠ x) :
    Calls Tryz.prog 58 #[.pointer (some ⟨x, 0, none⟩), .slice (some ⟨g, 0, none⟩) 1 1] w fun e w' => e = .returned (.int .i64 (namedR ds.length i)) ∧ CluP w' x q cap fv 0 ds bs ∧ Chg (fun k => k = x) w w' := by
  have k0 : w.cell? ⟨x, 0, none⟩ = some (.int .i32 0) := (hC.blk.cell 0).trans rfl
  have z0 : w.frozen? ⟨x, 0, none⟩ = false := hC.blk.frozen 0
  have HC1 : Hid (CluP (w.setCell ⟨x, 0, none⟩ (.int .i32 1)) x q cap fv 1 ds bs) := hC.turn 1
  have hgc : (w.setCell ⟨x, 0, none⟩ (.int .i32 1)).cell? ⟨g, 0, none⟩ = some (.int .i64 i) := by
    rw [← hg]
    exact cell_heap ((chg_turn (M := fun k => k = x) (w := w) rfl (.int .i32 1)).block g (block_lt_of_cell hg) (fun e => hgx e))
  have Hch : Hid (Chg (fun k => k = x) w (w.setCell ⟨x, 0, none⟩ (.int .i32 1))) := chg_turn (M := fun k => k = x) rfl _
  have HN : Hid (_) := named_any _ x q cap fv 1 ds bs HC1.out g i hgc
  clear hC hg hgc
  go_enter_defers Tryz.func58, Tryz.ntmps58
  go_wp2_with (go_at_call 34; refine (lock_free YtoiiaankpnhppaaGreatDoor.muLib ⟨x, 0, none⟩ _ k0 z0).mono ?_; rintro e w' ⟨rfl, rfl⟩)
  refine Calls.mono HN.out ?_
  rintro e w1 ⟨rfl, hw1⟩
  subst hw1
  clear k0 z0 HN
  go_wp2_with fail
  refine leaves_cons (f := 35) (args := #[.pointer (some ⟨x, 0, none⟩)]) (by simp) (by simp [go_sem]) ?_
  refine (unlock_deferred YtoiiaankpnhppaaGreatDoor.muLib ⟨x, 0, none⟩ .returning _ ((HC1.out.blk.cell 0).trans rfl) (HC1.out.blk.frozen 0)).mono ?_
  rintro e u' w3 ⟨rfl, rfl, rfl⟩
  exact ⟨_, results_tmp rfl _ _ _, rfl, HC1.out.turn 0, Chg.setCell (M := fun k => k = x) (p := ⟨x, 0, none⟩) Hch.out rfl _⟩

set_option maxHeartbeats 4000000 in
set_option maxRecDepth 100000 in
theorem CCrash_any (w : World) (x q cap : Nat) (fv : Value) (ds : List RepD) (bs : List (Nat × ByteArray)) (hC : CluP w x q cap fv 0 ds bs) (i : Int) :
    Calls Tryz.prog 30 #[.pointer (some ⟨x, 0, none⟩), .int .i64 i] w fun e w' => e = .returned (.int .i64 (namedR ds.length i)) ∧ CluP w' x q cap fv 0 ds bs ∧ Chg (fun k => k = x) w w' := by
  have hxl := hC.blk.lt
  have hb : Below w.heap.size w (w.alloc (.cells #[.int .i64 i] 3)) := (Below.refl _ _).alloc (Nat.le_refl _) _
  have hg : (w.alloc (.cells #[.int .i64 i] 3)).cell? ⟨w.heap.size, 0, none⟩ = some (.int .i64 i) := by
    simp
  have HN : Hid (_) := ConlyNamed_any _ x q cap fv ds bs (hC.below hb) i w.heap.size hg (by omega)
  have Hb : Hid (Below w.heap.size w (w.alloc (.cells #[.int .i64 i] 3))) := hb
  clear hC hb hg hxl
  go_enter Tryz.func30, Tryz.ntmps30
  go_wp2_with fail
  refine Calls.mono HN.out ?_
  rintro e w1 ⟨rfl, h1, h2⟩
  have H1 : Hid (CluP w1 x q cap fv 0 ds bs ∧ Chg (fun k => k = x) w w1) := ⟨h1, (Chg.of_below (M := fun k => k = x) Hb.out).trans h2⟩
  clear h1 h2 HN Hb
  go_wp2
  go_ret
  exact ⟨rfl, H1.out⟩
set_option maxHeartbeats 4000000 in
set_option maxRecDepth 100000 in
theorem CTick_any (w : World) (x q cap : Nat) (fv : Value) (ds : List RepD) (bs : List (Nat × ByteArray)) (hC : CluP w x q cap fv 0 ds bs) (i : Int) :
    Calls Tryz.prog 31 #[.pointer (some ⟨x, 0, none⟩), .int .i64 i] w fun e w' => e = .returned (.int .i64 (namedR ds.length i)) ∧ CluP w' x q cap fv 0 ds bs ∧ Chg (fun k => k = x) w w' := by
  have hxl := hC.blk.lt
  have hb : Below w.heap.size w (w.alloc (.cells #[.int .i64 i] 3)) := (Below.refl _ _).alloc (Nat.le_refl _) _
  have hg : (w.alloc (.cells #[.int .i64 i] 3)).cell? ⟨w.heap.size, 0, none⟩ = some (.int .i64 i) := by
    simp
  have HN : Hid (_) := ConlyNamed_any _ x q cap fv ds bs (hC.below hb) i w.heap.size hg (by omega)
  have Hb : Hid (Below w.heap.size w (w.alloc (.cells #[.int .i64 i] 3))) := hb
  clear hC hb hg hxl
  go_enter Tryz.func31, Tryz.ntmps31
  go_wp2_with fail
  refine Calls.mono HN.out ?_
  rintro e w1 ⟨rfl, h1, h2⟩
  have H1 : Hid (CluP w1 x q cap fv 0 ds bs ∧ Chg (fun k => k = x) w w1) := ⟨h1, (Chg.of_below (M := fun k => k = x) Hb.out).trans h2⟩
  clear h1 h2 HN Hb
  go_wp2
  go_ret
  exact ⟨rfl, H1.out⟩
set_option maxHeartbeats 4000000 in
set_option maxRecDepth 100000 in
theorem CWaiting_any (w : World) (x q cap : Nat) (fv : Value) (ds : List RepD) (bs : List (Nat × ByteArray)) (hC : CluP w x q cap fv 0 ds bs) (i : Int) :
    Calls Tryz.prog 45 #[.pointer (some ⟨x, 0, none⟩), .int .i64 i] w fun e w' => e = .returned (.tuple #[.int .i64 0, .int .i64 (namedR ds.length i)]) ∧ CluP w' x q cap fv 0 ds bs ∧ Chg (fun k => k = x) w w' := by
  have hxl := hC.blk.lt
  have hb : Below w.heap.size w (w.alloc (.cells #[.int .i64 i] 3)) := (Below.refl _ _).alloc (Nat.le_refl _) _
  have hg : (w.alloc (.cells #[.int .i64 i] 3)).cell? ⟨w.heap.size, 0, none⟩ = some (.int .i64 i) := by
    simp
  have HN : Hid (_) := ConlyNamed_any _ x q cap fv ds bs (hC.below hb) i w.heap.size hg (by omega)
  have Hb : Hid (Below w.heap.size w (w.alloc (.cells #[.int .i64 i] 3))) := hb
  clear hC hb hg hxl
  go_enter Tryz.func45, Tryz.ntmps45
  go_wp2_with fail
  refine Calls.mono HN.out ?_
  rintro e w1 ⟨rfl, h1, h2⟩
  have H1 : Hid (CluP w1 x q cap fv 0 ds bs ∧ Chg (fun k => k = x) w w1) := ⟨h1, (Chg.of_below (M := fun k => k = x) Hb.out).trans h2⟩
  clear h1 h2 HN Hb
  go_wp2
  go_ret2
  exact ⟨rfl, H1.out⟩

theorem namedR_kn {w : World} {x : Nat} {S : Nat → Prop} {s : St} {q cap : Nat} {fv : Value} {ds : List RepD} {bs : List (Nat × ByteArray)} {D : List Nat} (h : CluF w x S s q cap fv ds bs D) (i : Int) : namedR ds.length i = if 0 ≤ i ∧ i < s.kn.length then 0 else 2 := by
  unfold namedR; rw [h.len]
theorem prog_tick : ProgTick ProgF := by
  refine ⟨?_, ?_, ?_⟩
  · rintro w x S s i ⟨q, cap, fv, ds, bs, D, h⟩
    refine Calls.mono (CCrash_any w x q cap fv ds bs h.clu i) ?_
    rintro e w' ⟨rfl, hC, hc⟩
    exact ⟨by rw [namedR_kn h], S, h.keep hC, fun k hk => Or.inl hk, h.sx hc⟩
  · rintro w x S s i ⟨q, cap, fv, ds, bs, D, h⟩
    refine Calls.mono (CTick_any w x q cap fv ds bs h.clu i) ?_
    rintro e w' ⟨rfl, hC, hc⟩
    exact ⟨by rw [namedR_kn h], S, h.keep hC, fun k hk => Or.inl hk, h.sx hc⟩
  · rintro w x S s i ⟨q, cap, fv, ds, bs, D, h⟩
    refine Calls.mono (CWaiting_any w x q cap fv ds bs h.clu i) ?_
    rintro e w' ⟨rfl, hC, hc⟩
    exact ⟨by rw [namedR_kn h], S, h.keep hC, fun k hk => Or.inl hk, h.sx hc⟩
end Go.Proofs.YtoiiaankpnhppaaGreatDoor

