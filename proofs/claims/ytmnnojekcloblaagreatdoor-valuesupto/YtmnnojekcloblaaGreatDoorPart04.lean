import Derived.Handy
import Derived.Test.YtmnnojekcloblaaGreatDoorPart03
set_option linter.unusedVariables false
set_option linter.unusedSimpArgs false
namespace Go.Proofs.YtmnnojekcloblaaGreatDoor
open Go.RowKit

set_option maxHeartbeats 400000 in
theorem num_any (e : Int) (w : World) : Calls Tryz.prog 32 #[.int .i64 e] w fun r w' => r = .returned (.int .i64 e) ∧ w' = w := by
  go_enter Tryz.func32, Tryz.ntmps32
  go_wp2
  go_ret
  exact ⟨rfl, rfl⟩

theorem wrap_in (n : Int) (h0 : -9223372036854775808 ≤ n) (h1 : n ≤ 9223372036854775807) : IntKind.i64.wrap n = n := by
  unfold IntKind.wrap
  simp [IntKind.bits, IntKind.signed]
  omega

set_option maxHeartbeats 400000 in
theorem pick_any (c : Int) (n : Nat) (w : World) (h0 : -9223372036854775808 ≤ c) (h1 : c ≤ 9223372036854775807) (hn : 1 ≤ n) (hn2 : n ≤ 9223372036854775807) :
    Calls Tryz.prog 14 #[.int .i64 c, .int .i64 (n : Int)] w fun r w' => ∃ j : Nat, j < n ∧ r = .returned (.int .i64 (j : Int)) ∧ w' = w := by
  by_cases hc : c < 0
  · have e1 : IntKind.i64.wrap (c + 1) = c + 1 := wrap_in _ (by omega) (by omega)
    have e2 : IntKind.i64.wrap (-(c + 1)) = -(c + 1) := wrap_in _ (by omega) (by omega)
    obtain ⟨d, hd⟩ : ∃ d : Nat, -(c + 1) = (d : Int) := ⟨(-(c + 1)).toNat, by omega⟩
    have hnz : ((n : Int) == 0) = false := beq_eq_false_iff_ne.2 (by omega)
    have hnz' : ¬ n = 0 := by omega
    have e3 : (d : Int).tmod (n : Int) = ((d % n : Nat) : Int) := rfl
    have e4 : IntKind.i64.wrap ((d % n : Nat) : Int) = ((d % n : Nat) : Int) := wrap_in _ (by omega) (by have := Nat.mod_lt d (show n > 0 by omega); omega)
    go_enter Tryz.func14, Tryz.ntmps14
    go_wp2
    go_ret
    exact ⟨d % n, Nat.mod_lt _ (by omega), by rw [Int.natCast_emod]; rfl, rfl⟩
  · obtain ⟨d, rfl⟩ : ∃ d : Nat, c = (d : Int) := ⟨c.toNat, by omega⟩
    have hnz : ((n : Int) == 0) = false := beq_eq_false_iff_ne.2 (by omega)
    have hnz' : ¬ n = 0 := by omega
    have e3 : (d : Int).tmod (n : Int) = ((d % n : Nat) : Int) := rfl
    have e4 : IntKind.i64.wrap ((d % n : Nat) : Int) = ((d % n : Nat) : Int) := wrap_in _ (by omega) (by have := Nat.mod_lt d (show n > 0 by omega); omega)
    go_enter Tryz.func14, Tryz.ntmps14
    go_wp2
    go_ret
    exact ⟨d % n, Nat.mod_lt _ (by omega), by rw [Int.natCast_emod]; rfl, rfl⟩
end Go.Proofs.YtmnnojekcloblaaGreatDoor

namespace Go.Proofs.YtmnnojekcloblaaGreatDoor
open Go.RowKit

def Thk.isAln (c : UInt8) : Bool := Thk.isLow c || Thk.isDig c
/-- One to m bytes of a sort. -/
def Thk.word (p : UInt8 → Bool) (m : Nat) (l : Thk.Bs) : Bool := decide (1 ≤ l.length) && decide (l.length ≤ m) && l.all p

set_option maxHeartbeats 400000 in
theorem isLetter_any (c : UInt8) (w : World) :
    Calls Tryz.prog 106 #[.int .u8 (c.toNat : Int)] w fun e w' => e = .returned (.bool (Thk.isLow c)) ∧ w' = w := by
  go_enter Tryz.func106, Tryz.ntmps106
  go_wp2
  all_goals
    go_ret
    refine ⟨ret_bool ?_, rfl⟩
    unfold Thk.isLow
    rw [Bool.eq_iff_iff]
    simp
    try omega

set_option maxHeartbeats 400000 in
theorem isLetterOrDigit_any (c : UInt8) (w : World) :
    Calls Tryz.prog 95 #[.int .u8 (c.toNat : Int)] w fun e w' => e = .returned (.bool (Thk.isLow c || Thk.isDig c)) ∧ w' = w := by
  cases hl : Thk.isLow c
  · have Hl : Hid (_) := hl
    have hl2 : ¬ (97 ≤ c.toNat ∧ c.toNat ≤ 122) := by unfold Thk.isLow at hl; simp at hl; omega
    clear hl
    go_enter Tryz.func95, Tryz.ntmps95
    go_wp2_with (go_at_call 106; refine (isLetter_any _ _).mono ?_; rintro e w' ⟨rfl, rfl⟩; rw [Hl.out])
    all_goals
      go_ret
      refine ⟨ret_bool ?_, rfl⟩
      unfold Thk.isDig
      rw [Bool.eq_iff_iff]
      simp
      try omega
  · have Hl : Hid (_) := hl
    clear hl
    go_enter Tryz.func95, Tryz.ntmps95
    go_wp2_with (go_at_call 106; refine (isLetter_any _ _).mono ?_; rintro e w' ⟨rfl, rfl⟩; rw [Hl.out])
    go_ret
    exact ⟨ret_bool rfl, rfl⟩

theorem isAln_any (c : UInt8) (w : World) : Calls Tryz.prog 95 #[.int .u8 (c.toNat : Int)] w fun e w' => e = .returned (.bool (Thk.isAln c)) ∧ w' = w := isLetterOrDigit_any c w
theorem word_false_len (p : UInt8 → Bool) (l : Thk.Bs) (m : Nat) (h : l.length < 1 ∨ m < l.length) : Thk.word p m l = false := by
  unfold Thk.word
  rcases h with h | h
  · have : decide (1 ≤ l.length) = false := by rw [decide_eq_false_iff_not]; omega
    rw [this]; rfl
  · have : decide (l.length ≤ m) = false := by rw [decide_eq_false_iff_not]; omega
    rw [this]; simp
theorem word_false_at (p : UInt8 → Bool) (s : ByteArray) (m k : Nat) (hk : k < s.size) (h : p s[k] = false) : Thk.word p m (toL s) = false := by
  have : (toL s).all p = false := by
    rw [List.all_eq_false]; refine ⟨(toL s)[k]'(by rw [toL_length]; exact hk), List.getElem_mem _, ?_⟩
    rw [toL_get s k hk, h]; simp
  unfold Thk.word; rw [this]; simp
theorem word_true (p : UInt8 → Bool) (s : ByteArray) (m : Nat) (h1 : 1 ≤ s.size) (h2 : s.size ≤ m) (h : ∀ j (hj : j < s.size), p s[j] = true) : Thk.word p m (toL s) = true := by
  have : (toL s).all p = true := by
    rw [List.all_eq_true]; intro x hx
    obtain ⟨i, hi, rfl⟩ := List.getElem_of_mem hx
    rw [toL_length] at hi
    rw [toL_get s i hi]; exact h i hi
  unfold Thk.word; rw [this, toL_length]; simp [h1, h2]

set_option maxHeartbeats 400000 in
theorem isWord_letters (s : ByteArray) (m : Nat) (w : World) (hs : s.size ≤ 1048576) (hm : m ≤ 100) :
    Calls Tryz.prog 94 #[.string s, .int .i64 (m : Int), .func (.func 106) #[] #[]] w fun e w' => e = .returned (.bool (Thk.word Thk.isLow m (toL s))) ∧ w' = w := by
  by_cases hl : s.size < 1 ∨ m < s.size
  · have hfin : Hid (Thk.word Thk.isLow m (toL s) = false) := word_false_len _ _ _ (by rw [toL_length]; exact hl)
    rcases hl with hl | hl
    all_goals
      go_enter Tryz.func94, Tryz.ntmps94
      go_wp2
      all_goals first | (go_ret; exact ⟨ret_bool hfin.out.symm, rfl⟩) | (exfalso; omega)
  · have h1 : ¬ s.size < 1 := by omega
    have h2 : ¬ m < s.size := by omega
    clear hl
    go_enter Tryz.func94, Tryz.ntmps94
    go_wp2
    go_loop [19] (fun i => ∃ k : Nat, k ≤ s.size ∧ i = .int .i64 k ∧ Hid (∀ j (hj : j < s.size), j < k → Thk.isLow s[j] = true)) (fun i => s.size - (intOf i).toNat)
    case atStart => exact ⟨0, by omega, rfl, fun j _ h => by omega⟩
    case round =>
      obtain ⟨k, hk, rfl, Hall⟩ := hrel
      by_cases hlt : k < s.size
      · cases hp : Thk.isLow s[k]
        · have hfin : Hid (Thk.word Thk.isLow m (toL s) = false) := word_false_at _ s m k hlt hp
          have Hp : Hid (_) := hp
          clear hp Hall
          go_wp2_with (go_at_call 106; refine (isLetter_any _ _).mono ?_; rintro e w' ⟨rfl, rfl⟩; rw [Hp.out])
          go_ret
          exact ⟨ret_bool hfin.out.symm, rfl⟩
        · have Hn : Hid (∀ j (hj : j < s.size), j < k + 1 → Thk.isLow s[j] = true) := by
            intro j hj h
            by_cases e : j = k
            · subst e; exact hp
            · exact Hall.out j hj (by omega)
          have Hp : Hid (_) := hp
          clear hp Hall
          go_wp2_with (go_at_call 106; refine (isLetter_any _ _).mono ?_; rintro e w' ⟨rfl, rfl⟩; rw [Hp.out])
          go_round
          case rel => exact ⟨k + 1, by omega, by go_num, Hn⟩
          case measure => simp [intOf]; omega
      · have hfin : Hid (Thk.word Thk.isLow m (toL s) = true) := word_true _ s m (by omega) (by omega) (fun j hj => Hall.out j hj (by omega))
        clear Hall
        go_wp2
        go_ret
        exact ⟨ret_bool hfin.out.symm, rfl⟩

set_option maxHeartbeats 400000 in
theorem isWord_alnum (s : ByteArray) (m : Nat) (w : World) (hs : s.size ≤ 1048576) (hm : m ≤ 100) :
    Calls Tryz.prog 94 #[.string s, .int .i64 (m : Int), .func (.func 95) #[] #[]] w fun e w' => e = .returned (.bool (Thk.word Thk.isAln m (toL s))) ∧ w' = w := by
  by_cases hl : s.size < 1 ∨ m < s.size
  · have hfin : Hid (Thk.word Thk.isAln m (toL s) = false) := word_false_len _ _ _ (by rw [toL_length]; exact hl)
    rcases hl with hl | hl
    all_goals
      go_enter Tryz.func94, Tryz.ntmps94
      go_wp2
      all_goals first | (go_ret; exact ⟨ret_bool hfin.out.symm, rfl⟩) | (exfalso; omega)
  · have h1 : ¬ s.size < 1 := by omega
    have h2 : ¬ m < s.size := by omega
    clear hl
    go_enter Tryz.func94, Tryz.ntmps94
    go_wp2
    go_loop [19] (fun i => ∃ k : Nat, k ≤ s.size ∧ i = .int .i64 k ∧ Hid (∀ j (hj : j < s.size), j < k → Thk.isAln s[j] = true)) (fun i => s.size - (intOf i).toNat)
    case atStart => exact ⟨0, by omega, rfl, fun j _ h => by omega⟩
    case round =>
      obtain ⟨k, hk, rfl, Hall⟩ := hrel
      by_cases hlt : k < s.size
      · cases hp : Thk.isAln s[k]
        · have hfin : Hid (Thk.word Thk.isAln m (toL s) = false) := word_false_at _ s m k hlt hp
          have Hp : Hid (_) := hp
          clear hp Hall
          go_wp2_with (go_at_call 95; refine (isAln_any _ _).mono ?_; rintro e w' ⟨rfl, rfl⟩; rw [Hp.out])
          go_ret
          exact ⟨ret_bool hfin.out.symm, rfl⟩
        · have Hn : Hid (∀ j (hj : j < s.size), j < k + 1 → Thk.isAln s[j] = true) := by
            intro j hj h
            by_cases e : j = k
            · subst e; exact hp
            · exact Hall.out j hj (by omega)
          have Hp : Hid (_) := hp
          clear hp Hall
          go_wp2_with (go_at_call 95; refine (isAln_any _ _).mono ?_; rintro e w' ⟨rfl, rfl⟩; rw [Hp.out])
          go_round
          case rel => exact ⟨k + 1, by omega, by go_num, Hn⟩
          case measure => simp [intOf]; omega
      · have hfin : Hid (Thk.word Thk.isAln m (toL s) = true) := word_true _ s m (by omega) (by omega) (fun j hj => Hall.out j hj (by omega))
        clear Hall
        go_wp2
        go_ret
        exact ⟨ret_bool hfin.out.symm, rfl⟩

end Go.Proofs.YtmnnojekcloblaaGreatDoor

