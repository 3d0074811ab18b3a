import Derived.Deep.RegionHeld3
import Derived.Lib.ItoaLen
import Derived.Test.YtoiiaankpnhppaaGreatDoorPart03
set_option linter.unusedVariables false
set_option linter.unusedSimpArgs false
namespace Go.Proofs.YtoiiaankpnhppaaGreatDoor
open Go.RowKit

def pickN (c : Int) (n : Nat) : Nat := (if c < 0 then (-(c + 1)).toNat else c.toNat) % n
theorem pickN_lt (c : Int) {n : Nat} (h : 1 ≤ n) : pickN c n < n := Nat.mod_lt _ (by omega)
def i64B (c : Int) : Prop := -9223372036854775808 ≤ c ∧ c ≤ 9223372036854775807

set_option maxHeartbeats 400000 in
theorem kpick_any (c : Int) (n : Nat) (w : World) (hc64 : i64B c) (hn : 1 ≤ n) (hn2 : n ≤ 9223372036854775807) :
    Calls Tryz.prog 14 #[.int .i64 c, .int .i64 (n : Int)] w fun r w' => r = .returned (.int .i64 (pickN c n : Int)) ∧ w' = w := by
  obtain ⟨h0, h1⟩ := hc64
  unfold pickN
  by_cases hc : c < 0
  · have e1 : IntKind.i64.wrap (c + 1) = c + 1 := wrap_in _ (by omega) (by omega)
    have e2 : IntKind.i64.wrap (-(c + 1)) = -(c + 1) := wrap_in _ (by omega) (by omega)
    obtain ⟨d, hd⟩ : ∃ d : Nat, -(c + 1) = (d : Int) := ⟨(-(c + 1)).toNat, by omega⟩
    have hnz : ((n : Int) == 0) = false := beq_eq_false_iff_ne.2 (by omega)
    have hnz' : ¬ n = 0 := by omega
    have e3 : (d : Int).tmod (n : Int) = ((d % n : Nat) : Int) := rfl
    have e4 : IntKind.i64.wrap ((d % n : Nat) : Int) = ((d % n : Nat) : Int) := wrap_in _ (by omega) (by have := Nat.mod_lt d (show n > 0 by omega); omega)
    rw [if_pos hc, hd, Int.toNat_natCast]
    go_enter Tryz.func14, Tryz.ntmps14
    go_wp2
    go_ret
    exact ⟨by first | rfl | (rw [Int.natCast_emod]; rfl), rfl⟩
  · obtain ⟨d, rfl⟩ : ∃ d : Nat, c = (d : Int) := ⟨c.toNat, by omega⟩
    have hnz : ((n : Int) == 0) = false := beq_eq_false_iff_ne.2 (by omega)
    have hnz' : ¬ n = 0 := by omega
    have e3 : (d : Int).tmod (n : Int) = ((d % n : Nat) : Int) := rfl
    have e4 : IntKind.i64.wrap ((d % n : Nat) : Int) = ((d % n : Nat) : Int) := wrap_in _ (by omega) (by have := Nat.mod_lt d (show n > 0 by omega); omega)
    rw [if_neg hc, Int.toNat_natCast]
    go_enter Tryz.func14, Tryz.ntmps14
    go_wp2
    go_ret
    exact ⟨by first | rfl | (rw [Int.natCast_emod]; rfl), rfl⟩

def sizeN (c : Int) : Nat := 2 + pickN c 3
theorem sizeN_le (c : Int) : 2 ≤ sizeN c ∧ sizeN c ≤ 4 := by
  have := pickN_lt c (show 1 ≤ 3 by omega); unfold sizeN; omega
set_option maxHeartbeats 400000 in
theorem ksize_any (c : Int) (w : World) (hc : i64B c) :
    Calls Tryz.prog 12 #[.int .i64 c] w fun r w' => r = .returned (.int .i64 (sizeN c : Int)) ∧ w' = w := by
  have Hp : Hid (Calls Tryz.prog 14 #[.int .i64 c, .int .i64 3] w fun r w' => r = .returned (.int .i64 (pickN c 3 : Int)) ∧ w' = w) := kpick_any c 3 w hc (by decide) (by decide)
  have hl := pickN_lt c (show 1 ≤ 3 by omega)
  unfold sizeN
  generalize pickN c 3 = k at *
  clear hc
  go_enter Tryz.func12, Tryz.ntmps12
  go_wp2_with fail
  refine Calls.mono Hp.out ?_
  rintro e w1 ⟨rfl, rfl⟩
  go_wp2
  go_ret
  exact ⟨by first | rfl | (congr 2; omega), rfl⟩

def placeB : Nat → ByteArray
  | 0 => ⟨#[115, 97]⟩
  | 1 => ⟨#[115, 97, 98]⟩
  | 2 => ⟨#[102, 97]⟩
  | 3 => ⟨#[114, 97]⟩
  | 4 => ⟨#[99, 97]⟩
  | 5 => ⟨#[109, 97, 47, 115, 97]⟩
  | 6 => ⟨#[109, 97, 47, 99, 97]⟩
  | 7 => ⟨#[109, 97, 47, 109, 98, 47, 114, 97]⟩
  | 8 => ⟨#[109, 97, 47, 109, 98, 47, 102, 97]⟩
  | 9 => ⟨#[109, 97, 98, 47, 115, 97]⟩
  | 10 => ⟨#[109, 97]⟩
  | _ => ⟨#[109, 97, 47, 109, 98]⟩
set_option maxHeartbeats 4000000 in
set_option maxRecDepth 100000 in
theorem kplace_any (c : Int) (w : World) (hc : i64B c) :
    Calls Tryz.prog 33 #[.int .i64 c] w fun r w' => r = .returned (.string (placeB (pickN c 12))) ∧ w' = w := by
  have Hp : Hid (Calls Tryz.prog 14 #[.int .i64 c, .int .i64 12] w fun r w' => r = .returned (.int .i64 (pickN c 12 : Int)) ∧ w' = w) := kpick_any c 12 w hc (by decide) (by decide)
  have hl := pickN_lt c (show 1 ≤ 12 by omega)
  generalize pickN c 12 = k at *
  clear hc
  obtain rfl | rfl | rfl | rfl | rfl | rfl | rfl | rfl | rfl | rfl | rfl | rfl : k = 0 ∨ k = 1 ∨ k = 2 ∨ k = 3 ∨ k = 4 ∨ k = 5 ∨ k = 6 ∨ k = 7 ∨ k = 8 ∨ k = 9 ∨ k = 10 ∨ k = 11 := by omega
  all_goals
    go_enter Tryz.func33, Tryz.ntmps33
    go_wp2_with fail
    refine Calls.mono Hp.out ?_
    rintro e w1 ⟨rfl, rfl⟩
    go_wp2
    go_ret
    exact ⟨rfl, rfl⟩

set_option maxHeartbeats 1000000 in
set_option maxRecDepth 100000 in
theorem kdigits_pos (n : Nat) (w : World) (hn : n ≤ 1000000000000) :
    Calls Tryz.prog 22 #[.int .i64 (n : Int)] w fun e w' => ∃ t, e = .returned (.string t) ∧ toL t = Thk.digs n ∧ t.size ≤ 100 ∧ Below w.heap.size w w' := by
  have hcv := conv_one
  go_enter Tryz.func22, Tryz.ntmps22
  go_wp2
  go_loopw [0, 3] (fun m s wr => ∃ (k : Nat) (t : ByteArray) (j : Nat), m = .int .i64 (k : Int) ∧ s = .string t ∧ k ≤ 1000000000000 ∧ t.size + j ≤ 14 ∧ Hid (Thk.digs n = Thk.upper k ++ toL t) ∧ Hid (k < 10 ^ j) ∧ Below w.heap.size w wr) (fun m _ _ => (intOf m).toNat)
  case atStart =>
    refine ⟨n, strOfNums [48 + (n : Int) % 10], 13, rfl, rfl, hn, by simp [strOfNums_size], ?_, ?_, by go_grown⟩
    · unfold Hid; rw [toL_strOfNums, Thk.digs_upper]; congr 3
    · unfold Hid; omega
  case round =>
    obtain ⟨k, t, j, rfl, rfl, hk, hj, Hd, Hj, hb⟩ := hrel
    by_cases hlt : k < 10
    · go_wp2
      go_ret
      refine ⟨t, rfl, ?_, by omega, hb⟩
      rw [Hd.out]; unfold Thk.upper; rw [if_pos hlt]; (first | done | rfl)
    · have hu : (strOfNums [48 + (k : Int) / 10 % 10]).size = 1 := strOfNums_size _
      have Hd2 : Hid (Thk.digs n = Thk.upper (k / 10) ++ toL (strOfNums [48 + (k : Int) / 10 % 10] ++ t)) := by
        unfold Hid; rw [toL_append, toL_strOfNums, Hd.out, Thk.upper_step k hlt, List.append_assoc]; congr 3
      have Hj2 : Hid (k / 10 < 10 ^ (j - 1) ∧ 1 ≤ j) := by
        have h := Hj.out
        cases j with
        | zero => simp at h; omega
        | succ j => rw [Nat.pow_succ] at h; exact ⟨by simp; omega, by omega⟩
      have hsz : (strOfNums [48 + (k : Int) / 10 % 10] ++ t).size = 1 + t.size := by rw [ByteArray.size_append, hu]
      have Hsz : Hid (_) := hsz
      clear hsz Hd Hj
      go_wp2
      go_roundw
      case rel => exact ⟨k / 10, strOfNums [48 + (k : Int) / 10 % 10] ++ t, j - 1, by go_num, rfl, by omega, by rw [Hsz.out]; have := Hj2.out.2; omega, Hd2, Hj2.out.1, hb.alloc hb.size _⟩
      case measure => simp [intOf]; omega

set_option maxHeartbeats 1000000 in
set_option maxRecDepth 100000 in
theorem kdigits_any (n : Int) (w : World) (hn : n.natAbs ≤ 1000000000000) :
    Calls Tryz.prog 22 #[.int .i64 n] w fun e w' => ∃ t, e = .returned (.string t) ∧ toL t = Thk.digits n ∧ t.size ≤ 200 ∧ Below w.heap.size w w' := by
  by_cases h : n < 0
  · obtain ⟨m, hm⟩ : ∃ m : Nat, n = -(m : Int) ∧ 0 < m := ⟨n.natAbs, by omega, by omega⟩
    obtain ⟨rfl, hm0⟩ := hm
    have hm1 : m ≤ 1000000000000 := by omega
    have hd : (-(m : Int) == (m : Int)) = false := by rw [beq_eq_false_iff_ne]; omega
    go_enter Tryz.func22, Tryz.ntmps22
    go_wp2_with (go_at_call 22; refine (kdigits_pos m _ hm1).mono ?_; rintro e w' ⟨t, rfl, ht, hsz, hb⟩)
    go_ret
    refine ⟨⟨#[45]⟩ ++ t, rfl, ?_, ?_, hb⟩
    · rw [toL_append, ht]; unfold Thk.digits; rw [if_pos h]; simp [toL]
    · rw [ByteArray.size_append]; have : (ByteArray.mk #[45]).size = 1 := rfl; omega
  · obtain ⟨m, rfl⟩ := Int.eq_ofNat_of_zero_le (show 0 ≤ n by omega)
    refine (kdigits_pos m w (by omega)).mono ?_
    rintro e w' ⟨t, rfl, ht, hsz, hb⟩
    exact ⟨t, rfl, by rw [ht]; unfold Thk.digits; rw [if_neg h]; simp, by omega, hb⟩


set_option maxHeartbeats 1000000 in
theorem kkind_any (p : ByteArray) (w : World) (hp : 1 ≤ p.size) (hs : p.size ≤ 1000) :
    Calls Tryz.prog 54 #[.string p] w fun e w' => (∃ j, ∃ hj : j < p.size, e = .returned (.int .u8 (p[j].toNat : Int)) ∧ (j = 0 ∨ p.data.toList[j - 1]? = some 47) ∧ (∀ i, j ≤ i → i + 1 < p.size → p.data.toList[i]? ≠ some 47)) ∧ w' = w := by
  go_enter Tryz.func54, Tryz.ntmps54
  go_wp2
  go_loopw [3] (fun v3 wr => ∃ k : Nat, v3 = .int .i64 (k : Int) ∧ k < p.size ∧ Hid (∀ i, k ≤ i → i + 1 < p.size → p.data.toList[i]? ≠ some 47) ∧ wr = w) (fun m _ => (intOf m).toNat)
  case atStart => exact ⟨p.size - 1, by congr 1; omega, by omega, fun i h1 h2 => by omega, rfl⟩
  case round =>
    obtain ⟨k, rfl, hk, Hk, rfl⟩ := hrel
    cases k with
    | zero =>
      have h0 : 0 < p.size := hk
      go_wp2
      go_ret
      exact ⟨⟨0, hk, rfl, Or.inl rfl, Hk.out⟩, rfl⟩
    | succ k =>
      have hk' : k < p.size := by omega
      have e1 : p.data.toList[k]? = some p[k] := by rw [List.getElem?_eq_getElem (by simpa using hk')]; (first | done | rfl)
      by_cases h47 : p[k].toNat = 47
      · have h48 : (p[k].toNat : Int) = 47 := by omega
        go_wp2
        go_ret
        exact ⟨⟨k + 1, hk, rfl, Or.inr (by rw [show k + 1 - 1 = k by omega, e1]; exact congrArg some (UInt8.toNat_inj.1 h47)), Hk.out⟩, rfl⟩
      · have h48 : ¬ (p[k].toNat : Int) = 47 := by omega
        have Hk2 : Hid (∀ i, k ≤ i → i + 1 < p.size → p.data.toList[i]? ≠ some 47) := fun i h1 h2 => by
          by_cases h3 : i = k
          · subst h3; rw [e1]; intro h4; exact h47 (by rw [Option.some.inj h4]; rfl)
          · exact Hk.out i (by omega) h2
        clear Hk
        go_wp2
        go_roundw
        case rel => refine ⟨k, ?_, hk', Hk2, ?_⟩ <;> first | rfl | trivial | (congr 1; omega)
        case measure => simp [intOf] <;> omega

def kindC : Nat → UInt8
  | 0 | 1 | 5 | 9 => 115
  | 2 | 8 => 102
  | 3 | 7 => 114
  | 4 | 6 => 99
  | _ => 109
theorem placeB_size (a : Nat) : 1 ≤ (placeB a).size ∧ (placeB a).size ≤ 8 := by
  unfold placeB; split <;> decide
def kf (a j : Nat) : Bool := !(decide (j < (placeB a).size)) || !(j == 0 || (placeB a).data.toList[j - 1]? == some 47) || ((List.range 8).any fun i => decide (j ≤ i) && decide (i + 1 < (placeB a).size) && (placeB a).data.toList[i]? == some 47) || (placeB a).data.toList[j]? == some (kindC a)
theorem kf_all : ∀ a, a < 12 → ∀ j, j < 8 → kf a j = true := by decide +kernel
theorem kind_fix (a : Nat) (ha : a < 12) (j : Nat) (hj : j < 8) (h1 : j < (placeB a).size) (h2 : j = 0 ∨ (placeB a).data.toList[j - 1]? = some 47) (h3 : ∀ i, j ≤ i → i + 1 < (placeB a).size → (placeB a).data.toList[i]? ≠ some 47) : (placeB a).data.toList[j]? = some (kindC a) := by
  have h := kf_all a ha j hj
  unfold kf at h
  simp only [Bool.or_eq_true, Bool.not_eq_true', decide_eq_false_iff_not, List.any_eq_true, Bool.and_eq_true, decide_eq_true_eq, beq_iff_eq] at h
  rcases h with ((h | h) | ⟨i, _, ⟨h4, h5⟩, h6⟩) | h
  · exact absurd h1 h
  · exfalso
    rcases h2 with h2 | h2
    · rw [h2] at h; simp at h
    · rw [h2] at h; simp at h
  · exact absurd h6 (h3 i h4 h5)
  · exact h
theorem kkind_place (a : Nat) (ha : a < 12) (w : World) : Calls Tryz.prog 54 #[.string (placeB a)] w fun e w' => e = .returned (.int .u8 ((kindC a).toNat : Int)) ∧ w' = w := by
  have hs := placeB_size a
  refine Calls.mono (kkind_any (placeB a) w hs.1 (by omega)) ?_
  rintro e w' ⟨⟨j, hj, rfl, h1, h2⟩, rfl⟩
  have h3 := kind_fix a ha j (by omega) hj h1 h2
  rw [List.getElem?_eq_getElem (by simpa using hj)] at h3
  have h4 : (placeB a)[j] = kindC a := Option.some.inj h3
  rw [h4]
  exact ⟨rfl, rfl⟩

def valL (b : Nat) : Thk.Bs := [UInt8.ofNat (97 + b % 4)]
def changeL (a b : Nat) : Thk.Bs :=
  toL (placeB a) ++ (if b = 39 then [33] else if kindC a = 115 then (if b % 3 = 2 then [45] else [43]) ++ valL b else if kindC a = 102 then (if b % 3 = 2 then [95] else [94]) else if kindC a = 114 then [61] ++ valL b
    else if kindC a = 99 then [62] ++ Thk.digits ((b : Int) - 20) else [33])
theorem val_ext (r : Nat) (h : r < 4) : toL ((⟨#[97, 98, 99, 100]⟩ : ByteArray).extract r (r + 1)) = [UInt8.ofNat (97 + r)] := by
  obtain rfl | rfl | rfl | rfl : r = 0 ∨ r = 1 ∨ r = 2 ∨ r = 3 := by omega
  all_goals rfl
theorem val_size (r : Nat) (h : r < 4) : ((⟨#[97, 98, 99, 100]⟩ : ByteArray).extract r (r + 1)).size = 1 := by
  obtain rfl | rfl | rfl | rfl : r = 0 ∨ r = 1 ∨ r = 2 ∨ r = 3 := by omega
  all_goals rfl
theorem fin_mk {p u : ByteArray} {L : Thk.Bs} {w w' : World} (hp : p.size ≤ 8) (hu : u.size ≤ 200) (hL : L = toL p ++ toL u) (hb : Below w.heap.size w w') : ∃ t, Ending.returned (Value.string (p ++ u)) = .returned (.string t) ∧ toL t = L ∧ t.size ≤ 300 ∧ Below w.heap.size w w' :=
  ⟨_, rfl, by rw [toL_append, hL], by rw [ByteArray.size_append]; omega, hb⟩
theorem fin_mk2 {p u q : ByteArray} {L : Thk.Bs} {w w' : World} (hp : p.size ≤ 8) (hu : u.size ≤ 20) (hq : q.size ≤ 200) (hL : L = toL p ++ (toL u ++ toL q)) (hb : Below w.heap.size w w') : ∃ t, Ending.returned (Value.string (p ++ u ++ q)) = .returned (.string t) ∧ toL t = L ∧ t.size ≤ 300 ∧ Below w.heap.size w w' :=
  ⟨_, rfl, by rw [toL_append, toL_append, hL, List.append_assoc], by rw [ByteArray.size_append, ByteArray.size_append]; omega, hb⟩

set_option maxHeartbeats 4000000 in
set_option maxRecDepth 100000 in
theorem kchange_any (k v : Int) (w : World) (hk : i64B k) (hv : i64B v) :
    Calls Tryz.prog 28 #[.int .i64 k, .int .i64 v] w fun e w' => ∃ t, e = .returned (.string t) ∧ toL t = changeL (pickN k 12) (pickN v 40) ∧ t.size ≤ 300 ∧ Below w.heap.size w w' := by
  have Hp : Hid (∀ wx, Calls Tryz.prog 33 #[.int .i64 k] wx fun r w' => r = .returned (.string (placeB (pickN k 12))) ∧ w' = wx) := fun wx => kplace_any k wx hk
  have Hn : Hid (∀ wx, Calls Tryz.prog 14 #[.int .i64 v, .int .i64 40] wx fun r w' => r = .returned (.int .i64 (pickN v 40 : Int)) ∧ w' = wx) := fun wx => kpick_any v 40 wx hv (by decide) (by decide)
  have ha := pickN_lt k (show 1 ≤ 12 by omega)
  have hb := pickN_lt v (show 1 ≤ 40 by omega)
  clear hk hv
  generalize pickN k 12 = a at *
  generalize pickN v 40 = b at *
  have Hk : Hid (∀ wx, Calls Tryz.prog 54 #[.string (placeB a)] wx fun e w' => e = .returned (.int .u8 ((kindC a).toNat : Int)) ∧ w' = wx) := fun wx => kkind_place a ha wx
  have Hd : Hid (∀ wx, Calls Tryz.prog 22 #[.int .i64 ((b : Int) - 20)] wx fun e w' => ∃ t, e = .returned (.string t) ∧ toL t = Thk.digits ((b : Int) - 20) ∧ t.size ≤ 200 ∧ Below wx.heap.size wx w') := fun wx => kdigits_any _ wx (by omega)
  have hps := (placeB_size a).2
  obtain ⟨kd, hkd⟩ : ∃ kd, kindC a = kd := ⟨_, rfl⟩
  have HC : Hid (changeL a b = toL (placeB a) ++ (if b = 39 then [33] else if kd = 115 then (if b % 3 = 2 then [45] else [43]) ++ valL b else if kd = 102 then (if b % 3 = 2 then [95] else [94]) else if kd = 114 then [61] ++ valL b
    else if kd = 99 then [62] ++ Thk.digits ((b : Int) - 20) else [33])) := by unfold Hid changeL; rw [hkd]
  rw [hkd] at Hk
  clear hkd ha
  generalize placeB a = p at *
  generalize changeL a b = L at *
  have hv4 : b % 4 < 4 := Nat.mod_lt _ (by decide)
  have e3 : (b : Int).tmod 4 = ((b % 4 : Nat) : Int) := rfl
  have e4 : (b : Int).tmod 3 = ((b % 3 : Nat) : Int) := rfl
  go_enter Tryz.func28, Tryz.ntmps28
  go_wp2_with fail
  refine Calls.mono (Hp.out _) ?_
  rintro e w1 ⟨rfl, rfl⟩
  go_wp2_with fail
  refine Calls.mono (Hn.out _) ?_
  rintro e w1 ⟨rfl, rfl⟩
  by_cases h39 : b = 39
  · subst h39
    go_wp2
    go_ret
    exact fin_mk (u := ⟨#[33]⟩) hps (by decide) (by rw [HC.out, if_pos (by first | exact trivial | rfl)]; rfl) (Below.refl _ _)
  · have h39' : ¬ (b : Int) = 39 := by omega
    go_wp2_with fail
    refine Calls.mono (Hk.out _) ?_
    rintro e w2 ⟨rfl, rfl⟩
    rw [if_neg h39] at HC
    have hq := val_ext (b % 4) hv4
    have hqs := val_size (b % 4) hv4
    generalize (⟨#[97, 98, 99, 100]⟩ : ByteArray).extract (b % 4) (b % 4 + 1) = q at *
    have Hq : Hid (toL q = valL b) := hq
    clear hq hv4 e3
    by_cases h1 : kd = 115
    · subst h1
      rw [if_pos rfl] at HC
      have hx : (((115 : UInt8).toNat : Nat) : Int) = 115 := rfl
      by_cases h2 : b % 3 = 2
      · rw [if_pos h2] at HC
        go_wp2
        go_ret
        exact fin_mk2 (u := ⟨#[45]⟩) hps (by decide) (by rw [hqs]; decide) (by rw [HC.out, ← Hq.out]; rfl) (Below.refl _ _)
      · rw [if_neg h2] at HC
        have h2' : ¬ (b : Int) % 3 = 2 := by omega
        go_wp2
        go_ret
        exact fin_mk2 (u := ⟨#[43]⟩) hps (by decide) (by rw [hqs]; decide) (by rw [HC.out, ← Hq.out]; rfl) (Below.refl _ _)
    · rw [if_neg h1] at HC
      have h1' : ¬ (kd.toNat : Int) = 115 := fun h => h1 (UInt8.toNat_inj.1 (Int.ofNat.inj h))
      by_cases h1b : kd = 102
      · subst h1b
        rw [if_pos rfl] at HC
        have hx : (((102 : UInt8).toNat : Nat) : Int) = 102 := rfl
        by_cases h2 : b % 3 = 2
        · rw [if_pos h2] at HC
          go_wp2
          go_ret
          exact fin_mk (u := ⟨#[95]⟩) hps (by decide) (by rw [HC.out]; rfl) (Below.refl _ _)
        · rw [if_neg h2] at HC
          have h2' : ¬ (b : Int) % 3 = 2 := by omega
          go_wp2
          go_ret
          exact fin_mk (u := ⟨#[94]⟩) hps (by decide) (by rw [HC.out]; rfl) (Below.refl _ _)
      · rw [if_neg h1b] at HC
        have h1c : ¬ (kd.toNat : Int) = 102 := fun h => h1b (UInt8.toNat_inj.1 (Int.ofNat.inj h))
        by_cases h1d : kd = 114
        · subst h1d
          rw [if_pos rfl] at HC
          have hx : (((114 : UInt8).toNat : Nat) : Int) = 114 := rfl
          go_wp2
          go_ret
          exact fin_mk2 (u := ⟨#[61]⟩) hps (by decide) (by rw [hqs]; decide) (by rw [HC.out, ← Hq.out]; rfl) (Below.refl _ _)
        · rw [if_neg h1d] at HC
          have h1e : ¬ (kd.toNat : Int) = 114 := fun h => h1d (UInt8.toNat_inj.1 (Int.ofNat.inj h))
          by_cases h1f : kd = 99
          · subst h1f
            rw [if_pos rfl] at HC
            have hx : (((99 : UInt8).toNat : Nat) : Int) = 99 := rfl
            go_wp2_with fail
            refine Calls.mono (Hd.out _) ?_
            rintro e w3 ⟨u, rfl, hu, hus, hb3⟩
            have Hu : Hid (toL u = Thk.digits ((b : Int) - 20)) := hu
            have Hb3 : Hid (Below _ _ w3) := hb3
            clear hu hb3
            go_wp2
            go_ret
            exact fin_mk2 (u := ⟨#[62]⟩) hps (by decide) hus (by rw [HC.out, ← Hu.out]; rfl) Hb3.out
          · rw [if_neg h1f] at HC
            have h1g : ¬ (kd.toNat : Int) = 99 := fun h => h1f (UInt8.toNat_inj.1 (Int.ofNat.inj h))
            go_wp2
            go_ret
            exact fin_mk (u := ⟨#[33]⟩) hps (by decide) (by rw [HC.out]; rfl) (Below.refl _ _)
variable {F : Stt}

def Mk (B : Nat) (T : Nat → Prop) : Nat → Prop := fun k => B ≤ k ∧ ¬ T k
structure KAt (F : Stt) (T : Nat → Prop) (w : World) (x : Nat) (s : St) (wx : World) : Prop where
  f : ∃ S, F wx x S s ∧ ∀ k, S k → w.heap.size ≤ k ∧ ¬ T k
  tl : ∀ k, T k → k < wx.heap.size
  bel : Below w.heap.size w wx
  gw : Glob w
theorem KAt.glob {F : Stt} {T : Nat → Prop} {w wx : World} {x : Nat} {s : St} (h : KAt F T w x s wx) : Glob wx := h.gw.mono h.bel
theorem chg_wide {M M' : Nat → Prop} {w w' : World} (h : Chg M w w') (hm : ∀ k, M k → M' k) : Chg M' w w' := ⟨h.os, h.tape, h.output, h.size, fun k hk hn => h.block k hk (fun e => hn (hm k e))⟩
section
variable {T : Nat → Prop} {w wx wy : World} {x : Nat} {s s' : St} {S S' : Nat → Prop}
theorem KAt.next (h : KAt F T w x s wx) (hS : ∀ k, S k → w.heap.size ≤ k ∧ ¬ T k) (hf : F wy x S' s') (hs : ∀ k, S' k → S k ∨ wx.heap.size ≤ k) (hc : Chg S wx wy) : KAt F T w x s' wy ∧ Chg (Mk w.heap.size T) wx wy :=
  have hb : Below w.heap.size wx wy := chgS_below hc (fun k hk => (hS k hk).1) h.bel.size
  ⟨⟨⟨S', hf, fun k hk => (hs k hk).elim (hS k) (fun h2 => ⟨Nat.le_trans h.bel.size h2, fun ht => by have := h.tl k ht; omega⟩)⟩, fun k hk => Nat.lt_of_lt_of_le (h.tl k hk) hc.size, h.bel.trans hb, h.gw⟩, chg_wide hc (fun k hk => hS k hk)⟩
theorem KAt.does (hF : ProgOK F) (h : KAt F T w x s wx) {i : Int} {t : ByteArray} {r : Int} {es' : List Ev} {kn' : List (List Bool)} (ht : t.size ≤ 1048576) (hd : DoOut s.es s.kn i (toL t) r es' kn') :
    Calls Tryz.prog 19 #[.pointer (some ⟨x, 0, none⟩), .int .i64 i, .string t] wx fun e w' => e = .returned (.int .i64 r) ∧ KAt F T w x ⟨es', kn', s.fs⟩ w' ∧ Chg (Mk w.heap.size T) wx w' := by
  obtain ⟨S, f1, s1⟩ := h.f
  refine Calls.mono (hF.does wx x S s i t r es' kn' h.glob f1 ht hd) ?_
  rintro e w2 ⟨rfl, S2, f2, s2, hc2⟩
  exact ⟨rfl, h.next s1 f2 s2 hc2⟩
theorem KAt.asks (hF : ProgOK F) (h : KAt F T w x s wx) (i : Int) {t : ByteArray} (ht : t.size ≤ 1048576) :
    Calls Tryz.prog 20 #[.pointer (some ⟨x, 0, none⟩), .int .i64 i, .string t] wx fun e w' => ∃ u, e = .returned (.tuple #[.string u, .int .i64 (askR s.es s.kn i (toL t)).2]) ∧ toL u = (askR s.es s.kn i (toL t)).1 ∧ KAt F T w x s w' ∧ Chg (Mk w.heap.size T) wx w' := by
  obtain ⟨S, f1, s1⟩ := h.f
  refine Calls.mono (hF.asks wx x S s i t h.glob f1 ht) ?_
  rintro e w2 ⟨u, rfl, hu, S2, f2, s2, hc2⟩
  exact ⟨u, rfl, hu, h.next s1 f2 s2 hc2⟩
theorem KAt.knows (hF : ProgOK F) (h : KAt F T w x s wx) (i : Int) :
    Calls Tryz.prog 18 #[.pointer (some ⟨x, 0, none⟩), .int .i64 i] wx fun e w' => e = .returned (.tuple #[.int .i64 (knowsR s.kn i).1, .int .i64 (knowsR s.kn i).2]) ∧ KAt F T w x s w' ∧ Chg (Mk w.heap.size T) wx w' := by
  obtain ⟨S, f1, s1⟩ := h.f
  refine Calls.mono (hF.knows wx x S s i h.glob f1) ?_
  rintro e w2 ⟨rfl, S2, f2, s2, hc2⟩
  exact ⟨rfl, h.next s1 f2 s2 hc2⟩
theorem KAt.sends (hF : ProgOK F) (h : KAt F T w x s wx) (i j : Int) :
    Calls Tryz.prog 29 #[.pointer (some ⟨x, 0, none⟩), .int .i64 i, .int .i64 j] wx fun e w' => e = .returned (.tuple #[.int .i64 (sendR s i j).1, .int .i64 (sendR s i j).2]) ∧ ∃ s', SendTo s i j s' ∧ KAt F T w x s' w' ∧ Chg (Mk w.heap.size T) wx w' := by
  obtain ⟨S, f1, s1⟩ := h.f
  refine Calls.mono (hF.sends wx x S s i j h.glob f1) ?_
  rintro e w2 ⟨rfl, S2, s2', hs, f2, s2, hc2⟩
  exact ⟨rfl, s2', hs, h.next s1 f2 s2 hc2⟩
theorem KAt.dels (hF : ProgOK F) (h : KAt F T w x s wx) (f : Int) :
    Calls Tryz.prog 23 #[.pointer (some ⟨x, 0, none⟩), .int .i64 f] wx fun e w' => e = .returned (.tuple #[.int .i64 (delR s f).1, .int .i64 (delR s f).2]) ∧ ∃ s', DelTo s f s' ∧ KAt F T w x s' w' ∧ Chg (Mk w.heap.size T) wx w' := by
  obtain ⟨S, f1, s1⟩ := h.f
  refine Calls.mono (hF.dels wx x S s f h.glob f1) ?_
  rintro e w2 ⟨rfl, S2, s2', hs, f2, s2, hc2⟩
  exact ⟨rfl, s2', hs, h.next s1 f2 s2 hc2⟩
theorem KAt.more {T' : Nat → Prop} (h : KAt F T w x s wx) (hb : Below wx.heap.size wx wy) (hP : ∀ S, F wx x S s → F wy x S s) (hT : ∀ S, F wx x S s → ∀ k, S k → k < wx.heap.size) (ht : ∀ k, T' k → T k ∨ wx.heap.size ≤ k) (htl : ∀ k, T' k → k < wy.heap.size) : KAt F T' w x s wy := by
  obtain ⟨S, f1, s1⟩ := h.f
  exact ⟨⟨S, hP S f1, fun k hk => ⟨(s1 k hk).1, fun h9 => (ht k h9).elim (s1 k hk).2 (fun h8 => by have := hT S f1 k hk; omega)⟩⟩, htl, h.bel.trans (hb.mono h.bel.size), h.gw⟩
end

def zE1 : Ev := ⟨⟨#[115, 122, 122]⟩, 43, ⟨#[113]⟩, 0, []⟩
def zE2 : Ev := ⟨⟨#[115, 122, 122]⟩, 45, ⟨#[113]⟩, 0, [true]⟩
def zS (n : Nat) : St := ⟨[zE1, zE2], [true, true] :: List.replicate (n - 1) [], []⟩
theorem zd1 (n : Nat) (h : 2 ≤ n ∧ n ≤ 4) : DoOut [] (List.replicate n []) 0 (toL ⟨#[115, 122, 122, 43, 113]⟩) 0 [zE1] ([true] :: List.replicate (n - 1) []) := by
  obtain rfl | rfl | rfl : n = 2 ∨ n = 3 ∨ n = 4 := by omega
  all_goals exact DoOut.done (es := []) (knowns := List.replicate _ []) (i := 0) ⟨[115, 122, 122], 43, [113], 0⟩ zE1 (by decide) (by kernel_rfl) (by decide) rfl rfl rfl rfl rfl
theorem zd2 (n : Nat) (h : 2 ≤ n ∧ n ≤ 4) : DoOut [zE1] ([true] :: List.replicate (n - 1) []) 0 (toL ⟨#[115, 122, 122, 45, 113]⟩) 0 [zE1, zE2] ([true, true] :: List.replicate (n - 1) []) := by
  obtain rfl | rfl | rfl : n = 2 ∨ n = 3 ∨ n = 4 := by omega
  all_goals exact DoOut.done (es := [zE1]) (knowns := [true] :: List.replicate _ []) (i := 0) ⟨[115, 122, 122], 45, [113], 0⟩ zE2 (by decide) (by kernel_rfl) (by decide) rfl rfl rfl rfl rfl
theorem za1 (n : Nat) (h : 2 ≤ n ∧ n ≤ 4) : askR [zE1] ([true] :: List.replicate (n - 1) []) 0 (toL ⟨#[115, 122, 122]⟩) = ([113], 0) := by
  obtain rfl | rfl | rfl : n = 2 ∨ n = 3 ∨ n = 4 := by omega
  all_goals decide +kernel
theorem za2 (n : Nat) (h : 2 ≤ n ∧ n ≤ 4) : askR [zE1, zE2] ([true, true] :: List.replicate (n - 1) []) 0 (toL ⟨#[115, 122, 122]⟩) = ([], 0) := by
  obtain rfl | rfl | rfl : n = 2 ∨ n = 3 ∨ n = 4 := by omega
  all_goals decide +kernel
theorem zk (n : Nat) (h : 2 ≤ n ∧ n ≤ 4) : knowsR ([true, true] :: List.replicate (n - 1) []) 0 = (2, 0) := by
  obtain rfl | rfl | rfl : n = 2 ∨ n = 3 ∨ n = 4 := by omega
  all_goals decide +kernel
end Go.Proofs.YtoiiaankpnhppaaGreatDoor
namespace Go.Proofs.YtoiiaankpnhppaaGreatDoor
open Go.RowKit
variable {F : Stt}

set_option maxHeartbeats 8000000 in
set_option maxRecDepth 100000 in
theorem cluster_any (hF : ProgOK F) (w : World) (hG : Glob w) (n room : Nat) (hn : 2 ≤ n ∧ n ≤ 4) (hr : room ≤ 50) :
    Calls Tryz.prog 13 #[.int .i64 (n : Int), .int .i64 (room : Int)] w fun e w' => ∃ x, e = .returned (.pointer (some ⟨x, 0, none⟩)) ∧ KAt F (fun _ => False) w x (zS n) w' := by
  have HN : Hid (Calls Tryz.prog 27 #[.int .i64 (n : Int), .int .i64 (room : Int)] w fun e w' => ∃ x, e = .returned (.tuple #[.pointer (some ⟨x, 0, none⟩), .int .i64 0]) ∧ KAt F (fun _ => False) w x ⟨[], List.replicate n [], []⟩ w') := by
    refine Calls.mono (hF.good w n room hG (by omega) (by omega) hr) ?_
    rintro e w1 ⟨x, S1, rfl, f1, s1, hb1⟩
    exact ⟨x, rfl, ⟨S1, f1, fun k hk => ⟨s1 k hk, id⟩⟩, fun k hk => hk.elim, hb1, hG⟩
  have HD1 : Hid (∀ x wx, KAt F (fun _ => False) w x ⟨[], List.replicate n [], []⟩ wx → Calls Tryz.prog 19 #[.pointer (some ⟨x, 0, none⟩), .int .i64 0, .string ⟨#[115, 122, 122, 43, 113]⟩] wx fun e w' => e = .returned (.int .i64 0) ∧ KAt F (fun _ => False) w x ⟨[zE1], [true] :: List.replicate (n - 1) [], []⟩ w') := fun x wx h => by
    refine Calls.mono (h.does hF (by decide) (zd1 n hn)) ?_
    rintro e w2 ⟨rfl, h2, _⟩
    exact ⟨rfl, h2⟩
  have HA1 : Hid (∀ x wx, KAt F (fun _ => False) w x ⟨[zE1], [true] :: List.replicate (n - 1) [], []⟩ wx → Calls Tryz.prog 20 #[.pointer (some ⟨x, 0, none⟩), .int .i64 0, .string ⟨#[115, 122, 122]⟩] wx fun e w' => e = .returned (.tuple #[.string ⟨#[113]⟩, .int .i64 0]) ∧ KAt F (fun _ => False) w x ⟨[zE1], [true] :: List.replicate (n - 1) [], []⟩ w') := fun x wx h => by
    refine Calls.mono (h.asks hF 0 (by decide)) ?_
    show ∀ e w', _ → _
    rw [za1 n hn]
    rintro e w2 ⟨u, rfl, hu, h2, _⟩
    have : u = ⟨#[113]⟩ := toL_inj hu
    subst this
    exact ⟨rfl, h2⟩
  have HD2 : Hid (∀ x wx, KAt F (fun _ => False) w x ⟨[zE1], [true] :: List.replicate (n - 1) [], []⟩ wx → Calls Tryz.prog 19 #[.pointer (some ⟨x, 0, none⟩), .int .i64 0, .string ⟨#[115, 122, 122, 45, 113]⟩] wx fun e w' => e = .returned (.int .i64 0) ∧ KAt F (fun _ => False) w x (zS n) w') := fun x wx h => by
    refine Calls.mono (h.does hF (by decide) (zd2 n hn)) ?_
    rintro e w2 ⟨rfl, h2, _⟩
    exact ⟨rfl, h2⟩
  have HA2 : Hid (∀ x wx, KAt F (fun _ => False) w x (zS n) wx → Calls Tryz.prog 20 #[.pointer (some ⟨x, 0, none⟩), .int .i64 0, .string ⟨#[115, 122, 122]⟩] wx fun e w' => e = .returned (.tuple #[.string ⟨#[]⟩, .int .i64 0]) ∧ KAt F (fun _ => False) w x (zS n) w') := fun x wx h => by
    refine Calls.mono (h.asks hF 0 (by decide)) ?_
    have e1 : askR (zS n).es (zS n).kn 0 (toL ⟨#[115, 122, 122]⟩) = ([], 0) := za2 n hn
    rw [e1]
    rintro e w2 ⟨u, rfl, hu, h2, _⟩
    have : u = ⟨#[]⟩ := toL_inj hu
    subst this
    exact ⟨rfl, h2⟩
  have HK : Hid (∀ x wx, KAt F (fun _ => False) w x (zS n) wx → Calls Tryz.prog 18 #[.pointer (some ⟨x, 0, none⟩), .int .i64 0] wx fun e w' => e = .returned (.tuple #[.int .i64 2, .int .i64 0]) ∧ KAt F (fun _ => False) w x (zS n) w') := fun x wx h => by
    refine Calls.mono (h.knows hF 0) ?_
    have e1 : knowsR (zS n).kn 0 = (2, 0) := zk n hn
    rw [e1]
    rintro e w2 ⟨rfl, h2, _⟩
    exact ⟨rfl, h2⟩
  clear hF hG hn hr
  go_enter Tryz.func13, Tryz.ntmps13
  go_wp2_with fail
  refine Calls.mono HN.out ?_
  rintro e w1 ⟨x, rfl, h1⟩
  go_wp2_with fail
  refine Calls.mono (HD1.out x w1 h1) ?_
  rintro e w2 ⟨rfl, h2⟩
  clear h1
  go_wp2_with fail
  refine Calls.mono (HA1.out x w2 h2) ?_
  rintro e w3 ⟨rfl, h3⟩
  clear h2
  go_wp2_with fail
  refine Calls.mono (HD2.out x w3 h3) ?_
  rintro e w4 ⟨rfl, h4⟩
  clear h3
  go_wp2_with fail
  refine Calls.mono (HA2.out x w4 h4) ?_
  rintro e w5 ⟨rfl, h5⟩
  clear h4
  go_wp2_with fail
  refine Calls.mono (HK.out x w5 h5) ?_
  rintro e w6 ⟨rfl, h6⟩
  have H6 : Hid (KAt F (fun _ => False) w x (zS n) w6) := h6
  clear h5 h6 HN HD1 HD2 HA1 HA2 HK
  go_wp2
  go_ret
  exact ⟨x, rfl, H6.out⟩
end Go.Proofs.YtoiiaankpnhppaaGreatDoor
namespace Go.Proofs.YtoiiaankpnhppaaGreatDoor
open Go.RowKit

theorem withStep_len (s : Thk.Bs) : ∀ (l o : List Thk.Bs) (b : Bool), (l.foldl (withStep s) (o, b)).1.length + (if (l.foldl (withStep s) (o, b)).2 then 0 else 1) ≤ o.length + l.length + (if b then 0 else 1)
  | [], o, b => Nat.le_of_eq (by rfl)
  | x :: l, o, b => by
    rw [List.foldl_cons]
    have h := withStep_len s l (withStep s (o, b) x).1 (withStep s (o, b) x).2
    refine Nat.le_trans h ?_
    unfold withStep
    simp only [List.length_cons]
    split <;> (try split) <;> (try split) <;> simp_all <;> omega
theorem withStep_mem (s : Thk.Bs) : ∀ (l o : List Thk.Bs) (b : Bool) (y : Thk.Bs), y ∈ (l.foldl (withStep s) (o, b)).1 → y ∈ o ∨ y ∈ l ∨ y = s
  | [], o, b, y => fun h => Or.inl h
  | x :: l, o, b, y => fun h => by
    rw [List.foldl_cons] at h
    have h2 := withStep_mem s l (withStep s (o, b) x).1 (withStep s (o, b) x).2 y h
    rcases h2 with h2 | h2 | h2
    · unfold withStep at h2
      simp only at h2
      split at h2 <;> (try split at h2) <;> (try split at h2) <;> simp_all <;> grind
    · exact Or.inr (Or.inl (List.mem_cons_of_mem _ h2))
    · exact Or.inr (Or.inr h2)
theorem withL_bd (l : List Thk.Bs) (s : Thk.Bs) : (withL l s).length ≤ l.length + 1 ∧ ∀ y ∈ withL l s, y ∈ l ∨ y = s := by
  have h1 := withStep_len s l [] false
  have h2 := withStep_mem s l [] false
  unfold withL
  generalize l.foldl (withStep s) ([], false) = p at *
  by_cases hp : p.2 = true
  · rw [if_pos hp]
    rw [if_pos hp] at h1
    refine ⟨by simpa using h1, fun y hy => ?_⟩
    rcases h2 y hy with h | h | h
    · exact absurd h (by simp)
    · exact Or.inl h
    · exact Or.inr h
  · rw [if_neg hp]
    rw [if_neg hp] at h1
    refine ⟨by simp at h1 ⊢; omega, fun y hy => ?_⟩
    rcases List.mem_append.1 hy with h | h
    · rcases h2 y h with h | h | h
      · exact absurd h (by simp)
      · exact Or.inl h
      · exact Or.inr h
    · exact Or.inr (by simpa using h)

theorem splitAcc_head (c : UInt8) : ∀ (l cur : Thk.Bs), ((Thk.splitAcc c cur l).headD []).length ≤ cur.length + l.length
  | [], cur => by unfold Thk.splitAcc; simp
  | x :: l, cur => by
    unfold Thk.splitAcc
    split
    · simp
    · have := splitAcc_head c l (cur ++ [x])
      simp at this ⊢
      omega
theorem split_head (c : UInt8) (l : Thk.Bs) : ((Thk.split c l).headD []).length ≤ l.length := by
  have := splitAcc_head c l []
  rw [List.length_nil, Nat.zero_add] at this
  exact this

structure TBd (st : TSt) (n : Nat) : Prop where
  len : st.l.length ≤ n
  mem : ∀ y ∈ st.l, y.length ≤ 20
  s1 : st.sum ≤ 1000000000 * n
  s2 : -(1000000000 * n) ≤ st.sum
theorem tstep_bd (k : UInt8) (path : Thk.Bs) {st : TSt} {e : Ev} {n : Nat} (h : TBd st n) (he : EvOk e) : TBd (tstep k path st e) (n + 1) := by
  have hp : (toL e.p).length ≤ 20 := by have := he.p; simpa [toL] using this
  have hv : (toL e.v).length ≤ 20 := by have := he.v; simpa [toL] using this
  have h1 := h.s1
  have h2 := h.s2
  have h3 := he.n1
  have h4 := he.n2
  have h5 := h.len
  unfold tstep
  split
  · have hw := withL_bd st.l ((Thk.split 47 ((toL e.p).drop (path.length + 1))).headD [])
    refine ⟨by have := hw.1; simp only; omega, fun y hy => ?_, by simp only; omega, by simp only; omega⟩
    rcases hw.2 y hy with hy | rfl
    · exact h.mem y hy
    · refine Nat.le_trans (split_head _ _) ?_
      simp only [List.length_drop]; omega
  · split
    · have hw := withL_bd st.l (toL e.v)
      refine ⟨by have := hw.1; simp only; omega, fun y hy => ?_, by simp only; omega, by simp only; omega⟩
      rcases hw.2 y hy with hy | rfl
      · exact h.mem y hy
      · exact hv
    · exact ⟨by omega, h.mem, by omega, by omega⟩
theorem tfold_bd (es : List Ev) (hes : ∀ e ∈ es, EvOk e) (k : UInt8) (path : Thk.Bs) : ∀ (al : List Nat) (st : TSt) (n : Nat), TBd st n → TBd (al.foldl (fun st j => match es[j]? with | some e => tstep k path st e | none => st) st) (n + al.length)
  | [], st, n, h => h
  | j :: al, st, n, h => by
    rw [List.foldl_cons, List.length_cons, show n + (al.length + 1) = n + 1 + al.length by omega]
    refine tfold_bd es hes k path al _ (n + 1) ?_
    cases hj : es[j]? with
    | none =>
      have h1 := h.s1
      have h2 := h.s2
      have h5 := h.len
      show TBd st (n + 1)
      exact ⟨by omega, h.mem, by omega, by omega⟩
    | some e => exact tstep_bd k path h (hes e (List.mem_of_getElem? hj))
theorem joinTo_len (l : List Thk.Bs) (hl : ∀ y ∈ l, y.length ≤ 20) : ∀ k, (Thk.joinTo l k).length ≤ 21 * k
  | 0 => by simp [Thk.joinTo]
  | k + 1 => by
    have ih := joinTo_len l hl k
    have hg : (l[k]?.getD []).length ≤ 20 := by
      cases hk : l[k]? with
      | none => simp
      | some y => exact hl y (List.mem_of_getElem? hk)
    unfold Thk.joinTo
    split <;> simp <;> omega
variable {F : Stt}

def EvsOk (s : St) : Prop := s.es.length ≤ 500 ∧ ∀ e ∈ s.es, EvOk e
theorem digits_len (n : Int) (h0 : -9223372036854775808 ≤ n) (h1 : n ≤ 9223372036854775807) : (Thk.digits n).length ≤ 21 := by
  rw [digits_itoa]; exact Lib.itoa_length_le n h0 h1
theorem ask_len (s : St) (h : EvsOk s) (i : Int) (p : Thk.Bs) : (askR s.es s.kn i p).1.length ≤ 11000 := by
  unfold askR
  split
  · split
    · show (tellR s.es (aliveTo s.es (s.kn.getD i.toNat []) s.es.length) p).length ≤ 11000
      have hal : (aliveTo s.es (s.kn.getD i.toNat []) s.es.length).length ≤ 500 := by
        refine Nat.le_trans (List.length_filter_le _ _) ?_
        rw [List.length_range]; exact h.1
      generalize aliveTo s.es (s.kn.getD i.toNat []) s.es.length = al at *
      unfold tellR
      have hb := tfold_bd s.es h.2 (Thk.kindOf p) p al ⟨[], 0, false⟩ 0 ⟨by simp, by simp, by simp, by simp⟩
      generalize al.foldl (fun st j => match s.es[j]? with | some e => tstep (Thk.kindOf p) p st e | none => st) ⟨[], 0, false⟩ = st at *
      have h1 := hb.len
      have h2 := hb.s1
      have h3 := hb.s2
      unfold tellB
      split
      · split <;> simp
      · split
        · exact Nat.le_trans (digits_len st.sum (by omega) (by omega)) (by decide)
        · have := joinTo_len st.l hb.mem st.l.length; omega
    · simp
  · simp
theorem ask_err (s : St) (i : Int) (p : Thk.Bs) : 0 ≤ (askR s.es s.kn i p).2 ∧ (askR s.es s.kn i p).2 ≤ 4 := by
  unfold askR; split <;> (try split) <;> simp

def tellOne (s : St) (i : Int) (k : Nat) : Thk.Bs := (askR s.es s.kn i (toL (placeB k))).1 ++ ([46] ++ (Thk.digits (askR s.es s.kn i (toL (placeB k))).2 ++ [32]))
def tellsTo (s : St) (i : Int) : Nat → Thk.Bs
  | 0 => []
  | k + 1 => tellsTo s i k ++ tellOne s i k
def tellsL (s : St) (i : Int) : Thk.Bs := tellsTo s i 12 ++ (Thk.digits (knowsR s.kn i).1 ++ ([46] ++ Thk.digits (knowsR s.kn i).2))

theorem pickN_small {k n : Nat} (h : k < n) : pickN (k : Int) n = k := by
  unfold pickN; rw [if_neg (by omega), Int.toNat_natCast, Nat.mod_eq_of_lt h]

section
variable {T : Nat → Prop} {w wx wy : World} {x : Nat} {s s' : St}
theorem KAt.below (hP : ProgFrame F) (h : KAt F T w x s wx) (hb : Below wx.heap.size wx wy) : KAt F T w x s wy ∧ Chg (Mk w.heap.size T) wx wy := by
  obtain ⟨S, f1, s1⟩ := h.f
  exact ⟨⟨⟨S, hP.below f1 hb, s1⟩, fun k hk => Nat.lt_of_lt_of_le (h.tl k hk) hb.size, h.bel.trans (hb.mono h.bel.size), h.gw⟩, Chg.of_below hb⟩
end
end Go.Proofs.YtoiiaankpnhppaaGreatDoor
namespace Go.Proofs.YtoiiaankpnhppaaGreatDoor
open Go.RowKit
variable {F : Stt}

def KTo (F : Stt) (T : Nat → Prop) (w : World) (x : Nat) (s : St) (wx wy : World) : Prop := KAt F T w x s wy ∧ Chg (Mk w.heap.size T) wx wy
theorem KTo.trans {T : Nat → Prop} {w wx wy wz : World} {x : Nat} {s s' : St} (h : KTo F T w x s wx wy) (h2 : KTo F T w x s' wy wz) : KTo F T w x s' wx wz := ⟨h2.1, h.2.trans h2.2⟩
theorem know_bd (kn : List (List Bool)) (h : ∀ l ∈ kn, l.length ≤ 1000) (i : Int) : 0 ≤ (knowsR kn i).1 ∧ (knowsR kn i).1 ≤ 1000 ∧ 0 ≤ (knowsR kn i).2 ∧ (knowsR kn i).2 ≤ 2 := by
  unfold knowsR
  split
  · refine ⟨by simp, ?_, by simp, by simp⟩
    have h1 : (kn.getD i.toNat []).length ≤ 1000 := by
      rw [List.getD_eq_getElem?_getD]
      cases hk : kn[i.toNat]? with
      | none => simp
      | some y => exact h y (List.mem_of_getElem? hk)
    have := cnt_le (kn.getD i.toNat [])
    simp only; omega
  · simp

theorem app4 {u t d : ByteArray} {s : St} {i : Int} {k : Nat} {L : Thk.Bs} (h1 : toL u = tellsTo s i k) (hL : tellOne s i k = L) (h2 : L = toL t ++ ([46] ++ (toL d ++ [32]))) : toL (u ++ t ++ ⟨#[46]⟩ ++ d ++ ⟨#[32]⟩) = tellsTo s i (k + 1) := by
  show _ = tellsTo s i k ++ tellOne s i k
  rw [hL, h2, ← h1]
  simp only [toL_append, List.append_assoc]
  rfl

set_option maxHeartbeats 8000000 in
set_option maxRecDepth 100000 in
theorem tells_any (hF : ProgOK F) (hP : ProgFrame F) (T : Nat → Prop) (w w0 : World) (x : Nat) (s : St) (h : KAt F T w x s w0) (hE : EvsOk s) (hK : ∀ l ∈ s.kn, l.length ≤ 1000) (i : Int) :
    Calls Tryz.prog 17 #[.pointer (some ⟨x, 0, none⟩), .int .i64 i] w0 fun e w' => ∃ u, e = .returned (.string u) ∧ toL u = tellsL s i ∧ u.size ≤ 200000 ∧ KTo F T w x s w0 w' := by
  have H0 : Hid (KTo F T w x s w0 w0) := ⟨h, Chg.refl _ _⟩
  have Hp : Hid (∀ (k : Nat) wx, k < 12 → Calls Tryz.prog 33 #[.int .i64 (k : Int)] wx fun r w' => r = .returned (.string (placeB k)) ∧ w' = wx) := fun k wx hk => by
    have := kplace_any (k : Int) wx ⟨by omega, by omega⟩
    rw [pickN_small hk] at this
    exact this
  have Ha : Hid (∀ (k : Nat) wx, KTo F T w x s w0 wx → Calls Tryz.prog 20 #[.pointer (some ⟨x, 0, none⟩), .int .i64 i, .string (placeB k)] wx fun e w' => ∃ (u : ByteArray) (r : Int), e = .returned (.tuple #[.string u, .int .i64 r]) ∧ u.size ≤ 11000 ∧ 0 ≤ r ∧ r ≤ 4 ∧ Hid (tellOne s i k = toL u ++ ([46] ++ (Thk.digits r ++ [32]))) ∧ Hid (KTo F T w x s w0 w')) := fun k wx hx => by
    have hps := (placeB_size k).2
    refine Calls.mono (hx.1.asks hF i (t := placeB k) (by omega)) ?_
    rintro e w' ⟨u, rfl, hu, hk⟩
    have hl := ask_len s hE i (toL (placeB k))
    have he := ask_err s i (toL (placeB k))
    refine ⟨u, _, rfl, ?_, he.1, he.2, ?_, hx.trans hk⟩
    · rw [← hu] at hl; simpa [toL] using hl
    · unfold Hid tellOne; rw [hu]
  have Hd : Hid (∀ (n : Int) wx, 0 ≤ n → n ≤ 1000 → KTo F T w x s w0 wx → Calls Tryz.prog 22 #[.int .i64 n] wx fun e w' => ∃ t, e = .returned (.string t) ∧ Hid (toL t = Thk.digits n) ∧ t.size ≤ 200 ∧ Hid (KTo F T w x s w0 w')) := fun n wx h1 h2 hx => by
    refine Calls.mono (kdigits_any n wx (by omega)) ?_
    rintro e w' ⟨t, rfl, ht, hts, hb⟩
    exact ⟨t, rfl, ht, hts, hx.trans (hx.1.below hP hb)⟩
  have Hk : Hid (∀ wx, KTo F T w x s w0 wx → Calls Tryz.prog 18 #[.pointer (some ⟨x, 0, none⟩), .int .i64 i] wx fun e w' => ∃ a b : Int, e = .returned (.tuple #[.int .i64 a, .int .i64 b]) ∧ 0 ≤ a ∧ a ≤ 1000 ∧ 0 ≤ b ∧ b ≤ 2 ∧ Hid (tellsL s i = tellsTo s i 12 ++ (Thk.digits a ++ ([46] ++ Thk.digits b))) ∧ Hid (KTo F T w x s w0 w')) := fun wx hx => by
    refine Calls.mono (hx.1.knows hF i) ?_
    rintro e w' ⟨rfl, hk⟩
    have hb := know_bd s.kn hK i
    exact ⟨_, _, rfl, hb.1, hb.2.1, hb.2.2.1, hb.2.2.2, rfl, hx.trans hk⟩
  clear hF hP h hE hK
  go_enter Tryz.func17, Tryz.ntmps17
  go_wp2
  go_loopw [5, 6] (fun v5 v6 wr => ∃ (k : Nat) (u : ByteArray), v6 = .int .i64 (k : Int) ∧ v5 = .string u ∧ k ≤ 12 ∧ u.size ≤ 12000 * k ∧ Hid (toL u = tellsTo s i k) ∧ Hid (KTo F T w x s w0 wr)) (fun _ v6 _ => 12 - (intOf v6).toNat)
  case atStart => exact ⟨0, ⟨#[]⟩, rfl, rfl, by omega, by decide, rfl, H0⟩
  case round =>
    obtain ⟨k, u, rfl, rfl, hk, hus, Hu, HK⟩ := hrel
    by_cases hk2 : k < 12
    · go_wp2_with fail
      refine Calls.mono (Hp.out k _ hk2) ?_
      rintro e w1 ⟨rfl, rfl⟩
      go_wp2_with fail
      refine Calls.mono (Ha.out k _ HK.out) ?_
      rintro e w2 ⟨t, r, rfl, hts, hr0, hr1, HT, HK2⟩
      clear HK
      go_wp2_with fail
      refine Calls.mono (Hd.out r _ hr0 (by omega) HK2.out) ?_
      rintro e w3 ⟨d, rfl, Hdd, hds, HK3⟩
      clear HK2
      have Hn : Hid (toL (u ++ t ++ ⟨#[46]⟩ ++ d ++ ⟨#[32]⟩) = tellsTo s i (k + 1)) := app4 Hu.out HT.out (by rw [Hdd.out])
      have Hsz : Hid ((u ++ t ++ ⟨#[46]⟩ ++ d ++ ⟨#[32]⟩).size ≤ 12000 * (k + 1)) := by
        unfold Hid
        simp only [ByteArray.size_append]
        have e1 : (⟨#[46]⟩ : ByteArray).size = 1 := rfl
        have e2 : (⟨#[32]⟩ : ByteArray).size = 1 := rfl
        omega
      clear Hu HT Hdd
      go_wp2
      go_roundw
      case rel => exact ⟨k + 1, _, by first | rfl | go_num, rfl, by omega, Hsz.out, Hn, HK3⟩
      case measure => simp [intOf] <;> omega
    · have h12 : k = 12 := by omega
      subst h12
      go_wp2_with fail
      refine Calls.mono (Hk.out _ HK.out) ?_
      rintro e w1 ⟨a, b, rfl, ha0, ha1, hb0, hb1, HT, HK1⟩
      clear HK
      go_wp2_with fail
      refine Calls.mono (Hd.out a _ ha0 ha1 HK1.out) ?_
      rintro e w2 ⟨d1, rfl, Hd1, hds1, HK2⟩
      clear HK1
      go_wp2_with fail
      refine Calls.mono (Hd.out b _ hb0 (by omega) HK2.out) ?_
      rintro e w3 ⟨d2, rfl, Hd2, hds2, HK3⟩
      clear HK2
      go_wp2
      go_ret
      refine ⟨_, rfl, ?_, ?_, HK3.out⟩
      · rw [HT.out, ← Hu.out, ← Hd1.out, ← Hd2.out]
        simp only [toL_append, List.append_assoc]
        rfl
      · simp only [ByteArray.size_append]
        have e1 : (⟨#[46]⟩ : ByteArray).size = 1 := rfl
        omega
end Go.Proofs.YtoiiaankpnhppaaGreatDoor

