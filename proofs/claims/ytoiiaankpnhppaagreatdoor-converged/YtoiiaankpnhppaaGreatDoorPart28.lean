import Derived.Laws.BytesArg
import Derived.Test.YtoiiaankpnhppaaGreatDoorPart27
set_option linter.unusedVariables false
set_option linter.unusedSimpArgs false
namespace Go.Proofs.YtoiiaankpnhppaaGreatDoor
open Go.RowKit Go.Maps Go.WideMaps Go.Shelf

theorem toL_nums (l : Thk.Bs) : toL (strOfNums (l.map fun b => (b.toNat : Int))) = l := by
  unfold toL strOfNums
  simp [List.map_map, Function.comp_def]
theorem conv_out {B : Nat} {w : World} {v : Value} {l : Thk.Bs} (h : OutV B w v l) (hl : l ≠ []) : (convert 88 9 v).run Tryz.prog w = .ok (.string (strOfNums (l.map fun b => (b.toNat : Int)))) w := by
  have hcl := fun g (hg : v.ownBlock = some g) => h.cells hg
  rcases h.2 with ⟨rfl, h2⟩ | ⟨g, cap, cur, rfl, _⟩
  · exact absurd (List.eq_nil_of_length_eq_zero h2) hl
  · refine run_convert_bytes_arg (P := Tryz.prog) _ 88 5 Tryz.underlying88 Tryz.underlying5 g 0 l.length cap _ (by simp) ?_ 9 Tryz.underlying9
    intro i hi
    have := hcl g rfl i (.int .u8 (l[i].toNat : Int)) (by unfold bsV; simp [hi])
    rw [addr0] at this
    rw [Nat.zero_add, this]
    simp [hi]
theorem encN_ne (n : Nat) (l : Thk.Bs) : encN n ++ l ≠ [] := fun h => by
  have h1 := encN_len n
  have h2 := congrArg List.length h
  rw [List.length_append] at h2
  simp at h2
  rw [h2.1] at h1
  simp at h1

set_option maxHeartbeats 4000000 in
set_option maxRecDepth 100000 in
theorem Bytes_ack (w : World) (a : Nat) (ha : a ≤ 5) (io co lo : Option Nat) :
    Calls Tryz.prog 99 #[.agg #[.int .i64 (a : Int), .bool true, .map io, .map co, .map lo]] w fun e w' => ∃ s, e = .returned (.string s) ∧ toL s = encA a ∧ Below w.heap.size w w' := by
  have HA : Hid (∀ ob, Calls Tryz.prog 146 #[.agg #[.int .i64 (a : Int), .bool true, .map io, .map co, .map lo], .int .i64 1] (w.alloc ob) fun e w' => ∃ va n k, e = .returned (.slice va n k) ∧ (convert 88 9 (.slice va n k)).run Tryz.prog w' = .ok (.string (strOfNums ((encN 1 ++ encN a).map fun b => (b.toNat : Int)))) w' ∧ Below w.heap.size w w') := fun ob => by
    refine Calls.mono (ahead_any (w.alloc ob) a 1 true _ _ _ ha (by omega)) ?_
    rintro e w' ⟨v', rfl, h1, h2⟩
    obtain ⟨va, n, k, rfl⟩ := h1.shape
    have hb : Below w.heap.size w (w.alloc ob) := (Below.refl _ w).alloc (Nat.le_refl _) _
    exact ⟨va, n, k, rfl, conv_out h1 (encN_ne _ _), hb.trans ((h2.below (Nat.le_refl _)).mono hb.size)⟩
  go_enter Tryz.func99, Tryz.ntmps99
  go_wp2_with fail
  refine Calls.mono (HA.out _) ?_
  rintro e w2 ⟨va, n, k, rfl, hcv, hb⟩
  go_wp2_with fail
  go_ret
  exact ⟨_, rfl, by rw [← List.map_append, toL_nums]; rfl, hb⟩

set_option maxHeartbeats 4000000 in
set_option maxRecDepth 100000 in
theorem Bytes_brings (w : World) (hG : Glob w) (a : Nat) (ha : a ≤ 5) (io co lo : Option Nat) (c : Nat → Nat) (L : Nat → Bool) (C : Nat → Option Thk.Ch) (N : Nat)
    (hctx : CtxV w (.map co) (.map lo) c L) (hits : MapO Tryz.prog 121 w (.map io) N (im (itOf C))) (hok : ∀ k, C k ≠ none → okD k) (hN : N ≤ 500)
    (hns : ∀ ns : List Nat, ns.Nodup → (∀ d, d ∈ ns ↔ 1 ≤ nth d ∧ inK c L d) → ns.length ≤ 500)
    (hch : ∀ k c, C k = some c → (c.act = 43 ∨ c.act = 94 ∨ c.act = 61 ∨ c.act = 62) ∧ (-9223372036854775808 ≤ c.n ∧ c.n ≤ 9223372036854775807) ∧ c.path.length ≤ 1048576 ∧ (keptVal c.act ⟨c.val.toArray⟩).size ≤ 1048576 ∧ (txtC c).length ≤ 1000) :
    Calls Tryz.prog 99 #[.agg #[.int .i64 (a : Int), .bool false, .map io, .map co, .map lo]] w fun e w' => ∃ s ns rs xs, e = .returned (.string s) ∧ ns.Nodup ∧ (∀ d, d ∈ ns ↔ 1 ≤ nth d ∧ inK c L d) ∧ Runs ns ns.length rs ∧ SAll (itOf C) xs ∧ toL s = encF a rs (wIt C xs) ∧ Below w.heap.size w w' := by
  have h3w := hG.size
  obtain ⟨w0, hw0⟩ : ∃ w0, w0 = w.alloc (.cells #[.int .i64 (a : Int), .bool false, .map io, .map co, .map lo] 108) := ⟨_, rfl⟩
  have hb0 : Below w.heap.size w w0 := by rw [hw0]; exact (Below.refl _ w).alloc (Nat.le_refl _) _
  have kb : Blk w0 w.heap.size #[.int .i64 (a : Int), .bool false, .map io, .map co, .map lo] 108 := by rw [hw0]; exact Blk.new w _ _
  have c0 := (kb.cell 0).trans rfl
  have c1 := (kb.cell 1).trans rfl
  have c2 := (kb.cell 2).trans rfl
  have c3 := (kb.cell 3).trans rfl
  have c4 := (kb.cell 4).trans rfl
  have hen := encN_len 0
  have hea := encN_len a
  have HA : Hid (∀ wx, wx.heap = w0.heap → wx.os = w0.os → wx.tape = w0.tape → wx.output = w0.output → Calls Tryz.prog 146 #[.agg #[.int .i64 (a : Int), .bool false, .map io, .map co, .map lo], .int .i64 0] wx fun e w' => ∃ va n k, e = .returned (.slice va n k) ∧ (OutV w.heap.size w' (.slice va n k) (encN 0 ++ encN a) ∧ Below w.heap.size w w') ∧ w'.cell? ⟨w.heap.size, 2, none⟩ = some (.map io) ∧ w'.cell? ⟨w.heap.size, 3, none⟩ = some (.map co) ∧ w'.cell? ⟨w.heap.size, 4, none⟩ = some (.map lo)) := fun wx hx ho ht hp => by
    refine Calls.mono (ahead_any wx a 0 false _ _ _ ha (by omega)) ?_
    rintro e w' ⟨v', rfl, h1, h2⟩
    obtain ⟨va, n, k, rfl⟩ := h1.shape
    have hbx : Below w.heap.size w wx := ⟨ho.trans hb0.os, ht.trans hb0.tape, hp.trans hb0.output, by rw [hx]; exact hb0.size, fun k hk => by rw [hx]; exact hb0.block k hk⟩
    have h3 := h2.below (Nat.le_refl _)
    have kx : Blk wx w.heap.size #[.int .i64 (a : Int), .bool false, .map io, .map co, .map lo] 108 := by unfold Blk; rw [hx]; exact kb
    have k' := kx.below h3
    exact ⟨va, n, k, rfl, ⟨own_base h1 hbx.size, hbx.trans (h3.mono hbx.size)⟩, (k'.cell 2).trans rfl, (k'.cell 3).trans rfl, (k'.cell 4).trans rfl⟩
  have HS : Hid (∀ wx w5 va n k, (OutV w.heap.size w5 (.slice va n k) (encN 0 ++ encN a) ∧ Below w.heap.size w w5) → wx.heap = w5.heap → wx.os = w5.os → wx.tape = w5.tape → wx.output = w5.output → Calls Tryz.prog 147 #[.slice va n k, .agg #[.map io, .map co, .map lo]] wx fun e w' => ∃ va' n' k' s, e = .returned (.slice va' n' k') ∧ (convert 88 9 (.slice va' n' k')).run Tryz.prog w' = .ok (.string s) w' ∧ (∃ ns rs xs, ns.Nodup ∧ (∀ d, d ∈ ns ↔ 1 ≤ nth d ∧ inK c L d) ∧ Runs ns ns.length rs ∧ SAll (itOf C) xs ∧ toL s = encF a rs (wIt C xs) ∧ Below w.heap.size w w')) := fun wx w5 va n k h5 hx ho ht hp => by
    have hbx : Below w.heap.size w wx := ⟨ho.trans h5.2.os, ht.trans h5.2.tape, hp.trans h5.2.output, by rw [hx]; exact h5.2.size, fun k hk => by rw [hx]; exact h5.2.block k hk⟩
    refine Calls.mono (wStore_any wx (hG.mono hbx) w.heap.size h3w (.slice va n k) (encN 0 ++ encN a) (h5.1.heap hx) hbx.size (by rw [List.length_append]; omega) io co lo c L C N (hctx.below hbx) (hits.below hbx) hok hN hns hch) ?_
    rintro e w' ⟨v', ns, rs, xs, rfl, h1, h2, h3, h4, h6, h7⟩
    obtain ⟨va', n', k', rfl⟩ := h6.shape
    refine ⟨va', n', k', _, rfl, conv_out h6 (by rw [List.append_assoc]; exact encN_ne _ _), ns, rs, xs, h1, h2, h3, h4, by rw [toL_nums]; rfl, hbx.trans (h7.below hbx.size)⟩
  have Hw0 : Hid (w0 = w.alloc (.cells #[.int .i64 (a : Int), .bool false, .map io, .map co, .map lo] 108)) := hw0
  clear hG hctx hits hok hns hch hb0 kb hw0 hen hea
  go_enter Tryz.func99, Tryz.ntmps99
  go_wp2_with fail
  rw [← Hw0.out]
  go_region_with (first | (refine Calls.mono (HS.out _ w5 _ _ _ h5 rfl rfl rfl rfl) ?_; rintro e w6 ⟨va6, n6, k6, s6, rfl, hcv, h6⟩) | (refine Calls.mono (HA.out _ rfl rfl rfl rfl) ?_; rintro e w5 ⟨va5, n5, k5, rfl, h5, f2, f3, f4⟩))
  all_goals
    go_wp2_with fail
    go_ret
    obtain ⟨ns, rs, xs, h7⟩ := h6
    exact ⟨s6, ns, rs, xs, rfl, h7⟩
end Go.Proofs.YtoiiaankpnhppaaGreatDoor

