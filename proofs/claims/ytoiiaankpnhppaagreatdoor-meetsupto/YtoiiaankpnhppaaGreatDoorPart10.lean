import Derived.Handy
import Derived.Lib.Split
import Derived.Lib.IndexBytes
import Derived.WalkSmall
import Derived.Test.YtoiiaankpnhppaaGreatDoorPart01
import Derived.Test.YtoiiaankpnhppaaGreatDoorPart03
import Derived.Test.YtoiiaankpnhppaaGreatDoorPart04
import Derived.Test.YtoiiaankpnhppaaGreatDoorPart05
import Derived.Test.YtoiiaankpnhppaaGreatDoorPart08
set_option linter.unusedVariables false
set_option linter.unusedSimpArgs false
namespace Go.Proofs.YtoiiaankpnhppaaGreatDoor
open Go.RowKit

set_option maxHeartbeats 400000 in
theorem num_any (e : Int) (w : World) : Calls Tryz.prog 82 #[.int .i64 e] w fun r w' => r = .returned (.int .i64 e) ∧ w' = w := by
  go_enter Tryz.func82, Tryz.ntmps82
  go_wp2
  go_ret
  exact ⟨rfl, rfl⟩


def Thk.isAln (c : UInt8) : Bool := Thk.isLow c || Thk.isDig c
def Thk.word (p : UInt8 → Bool) (m : Nat) (l : Thk.Bs) : Bool := decide (1 ≤ l.length) && decide (l.length ≤ m) && l.all p

set_option maxHeartbeats 400000 in
theorem isLetter_any (c : UInt8) (w : World) :
    Calls Tryz.prog 126 #[.int .u8 (c.toNat : Int)] w fun e w' => e = .returned (.bool (Thk.isLow c)) ∧ w' = w := by
  go_enter Tryz.func126, Tryz.ntmps126
  go_wp2
  all_goals
    go_ret
    refine ⟨ret_bool ?_, rfl⟩
    unfold Thk.isLow
    rw [Bool.eq_iff_iff]
    simp
    try omega

set_option maxHeartbeats 400000 in
theorem isLetterOrDigit_any (c : UInt8) (w : World) :
    Calls Tryz.prog 116 #[.int .u8 (c.toNat : Int)] w fun e w' => e = .returned (.bool (Thk.isLow c || Thk.isDig c)) ∧ w' = w := by
  cases hl : Thk.isLow c
  · have Hl : Hid (_) := hl
    have hl2 : ¬ (97 ≤ c.toNat ∧ c.toNat ≤ 122) := by unfold Thk.isLow at hl; simp at hl; omega
    clear hl
    go_enter Tryz.func116, Tryz.ntmps116
    go_wp2_with (go_at_call 126; refine (isLetter_any _ _).mono ?_; rintro e w' ⟨rfl, rfl⟩; rw [Hl.out])
    all_goals
      go_ret
      refine ⟨ret_bool ?_, rfl⟩
      unfold Thk.isDig
      rw [Bool.eq_iff_iff]
      simp
      try omega
  · have Hl : Hid (_) := hl
    clear hl
    go_enter Tryz.func116, Tryz.ntmps116
    go_wp2_with (go_at_call 126; refine (isLetter_any _ _).mono ?_; rintro e w' ⟨rfl, rfl⟩; rw [Hl.out])
    go_ret
    exact ⟨ret_bool rfl, rfl⟩

theorem isAln_any (c : UInt8) (w : World) : Calls Tryz.prog 116 #[.int .u8 (c.toNat : Int)] w fun e w' => e = .returned (.bool (Thk.isAln c)) ∧ w' = w := isLetterOrDigit_any c w
theorem word_false_len (p : UInt8 → Bool) (l : Thk.Bs) (m : Nat) (h : l.length < 1 ∨ m < l.length) : Thk.word p m l = false := by
  unfold Thk.word
  rcases h with h | h
  · have : decide (1 ≤ l.length) = false := by rw [decide_eq_false_iff_not]; omega
    rw [this]; (first | done | rfl)
  · have : decide (l.length ≤ m) = false := by rw [decide_eq_false_iff_not]; omega
    rw [this]; simp
theorem word_false_at (p : UInt8 → Bool) (s : ByteArray) (m k : Nat) (hk : k < s.size) (h : p s[k] = false) : Thk.word p m (toL s) = false := by
  have : (toL s).all p = false := by
    rw [List.all_eq_false]; refine ⟨(toL s)[k]'(by rw [toL_length]; exact hk), List.getElem_mem _, ?_⟩
    rw [toL_get s k hk, h]; simp
  unfold Thk.word; rw [this]; simp
theorem word_true (p : UInt8 → Bool) (s : ByteArray) (m : Nat) (h1 : 1 ≤ s.size) (h2 : s.size ≤ m) (h : ∀ j (hj : j < s.size), p s[j] = true) : Thk.word p m (toL s) = true := by
  have : (toL s).all p = true := by
    rw [List.all_eq_true]; intro x hx
    obtain ⟨i, hi, rfl⟩ := List.getElem_of_mem hx
    rw [toL_length] at hi
    rw [toL_get s i hi]; exact h i hi
  unfold Thk.word; rw [this, toL_length]; simp [h1, h2]

set_option maxHeartbeats 400000 in
theorem isWord_letters (s : ByteArray) (m : Nat) (w : World) (hs : s.size ≤ 1048576) (hm : m ≤ 100) :
    Calls Tryz.prog 115 #[.string s, .int .i64 (m : Int), .func (.func 126) #[] #[]] w fun e w' => e = .returned (.bool (Thk.word Thk.isLow m (toL s))) ∧ w' = w := by
  by_cases hl : s.size < 1 ∨ m < s.size
  · have hfin : Hid (Thk.word Thk.isLow m (toL s) = false) := word_false_len _ _ _ (by rw [toL_length]; exact hl)
    rcases hl with hl | hl
    all_goals
      go_enter Tryz.func115, Tryz.ntmps115
      go_wp2
      all_goals first | (go_ret; exact ⟨ret_bool hfin.out.symm, rfl⟩) | (exfalso; omega)
  · have h1 : ¬ s.size < 1 := by omega
    have h2 : ¬ m < s.size := by omega
    clear hl
    go_enter Tryz.func115, Tryz.ntmps115
    go_wp2
    go_loop [19] (fun i => ∃ k : Nat, k ≤ s.size ∧ i = .int .i64 k ∧ Hid (∀ j (hj : j < s.size), j < k → Thk.isLow s[j] = true)) (fun i => s.size - (intOf i).toNat)
    case atStart => exact ⟨0, by omega, rfl, fun j _ h => by omega⟩
    case round =>
      obtain ⟨k, hk, rfl, Hall⟩ := hrel
      by_cases hlt : k < s.size
      · cases hp : Thk.isLow s[k]
        · have hfin : Hid (Thk.word Thk.isLow m (toL s) = false) := word_false_at _ s m k hlt hp
          have Hp : Hid (_) := hp
          clear hp Hall
          go_wp2_with (go_at_call 126; refine (isLetter_any _ _).mono ?_; rintro e w' ⟨rfl, rfl⟩; rw [Hp.out])
          go_ret
          exact ⟨ret_bool hfin.out.symm, rfl⟩
        · have Hn : Hid (∀ j (hj : j < s.size), j < k + 1 → Thk.isLow s[j] = true) := by
            intro j hj h
            by_cases e : j = k
            · subst e; exact hp
            · exact Hall.out j hj (by omega)
          have Hp : Hid (_) := hp
          clear hp Hall
          go_wp2_with (go_at_call 126; refine (isLetter_any _ _).mono ?_; rintro e w' ⟨rfl, rfl⟩; rw [Hp.out])
          go_round
          case rel => exact ⟨k + 1, by omega, by go_num, Hn⟩
          case measure => simp [intOf]; omega
      · have hfin : Hid (Thk.word Thk.isLow m (toL s) = true) := word_true _ s m (by omega) (by omega) (fun j hj => Hall.out j hj (by omega))
        clear Hall
        go_wp2
        go_ret
        exact ⟨ret_bool hfin.out.symm, rfl⟩

set_option maxHeartbeats 400000 in
theorem isWord_alnum (s : ByteArray) (m : Nat) (w : World) (hs : s.size ≤ 1048576) (hm : m ≤ 100) :
    Calls Tryz.prog 115 #[.string s, .int .i64 (m : Int), .func (.func 116) #[] #[]] w fun e w' => e = .returned (.bool (Thk.word Thk.isAln m (toL s))) ∧ w' = w := by
  by_cases hl : s.size < 1 ∨ m < s.size
  · have hfin : Hid (Thk.word Thk.isAln m (toL s) = false) := word_false_len _ _ _ (by rw [toL_length]; exact hl)
    rcases hl with hl | hl
    all_goals
      go_enter Tryz.func115, Tryz.ntmps115
      go_wp2
      all_goals first | (go_ret; exact ⟨ret_bool hfin.out.symm, rfl⟩) | (exfalso; omega)
  · have h1 : ¬ s.size < 1 := by omega
    have h2 : ¬ m < s.size := by omega
    clear hl
    go_enter Tryz.func115, Tryz.ntmps115
    go_wp2
    go_loop [19] (fun i => ∃ k : Nat, k ≤ s.size ∧ i = .int .i64 k ∧ Hid (∀ j (hj : j < s.size), j < k → Thk.isAln s[j] = true)) (fun i => s.size - (intOf i).toNat)
    case atStart => exact ⟨0, by omega, rfl, fun j _ h => by omega⟩
    case round =>
      obtain ⟨k, hk, rfl, Hall⟩ := hrel
      by_cases hlt : k < s.size
      · cases hp : Thk.isAln s[k]
        · have hfin : Hid (Thk.word Thk.isAln m (toL s) = false) := word_false_at _ s m k hlt hp
          have Hp : Hid (_) := hp
          clear hp Hall
          go_wp2_with (go_at_call 116; refine (isAln_any _ _).mono ?_; rintro e w' ⟨rfl, rfl⟩; rw [Hp.out])
          go_ret
          exact ⟨ret_bool hfin.out.symm, rfl⟩
        · have Hn : Hid (∀ j (hj : j < s.size), j < k + 1 → Thk.isAln s[j] = true) := by
            intro j hj h
            by_cases e : j = k
            · subst e; exact hp
            · exact Hall.out j hj (by omega)
          have Hp : Hid (_) := hp
          clear hp Hall
          go_wp2_with (go_at_call 116; refine (isAln_any _ _).mono ?_; rintro e w' ⟨rfl, rfl⟩; rw [Hp.out])
          go_round
          case rel => exact ⟨k + 1, by omega, by go_num, Hn⟩
          case measure => simp [intOf]; omega
      · have hfin : Hid (Thk.word Thk.isAln m (toL s) = true) := word_true _ s m (by omega) (by omega) (fun j hj => Hall.out j hj (by omega))
        clear Hall
        go_wp2
        go_ret
        exact ⟨ret_bool hfin.out.symm, rfl⟩


theorem index_ge (l : Thk.Bs) (c : UInt8) : -1 ≤ Lib.indexByte l c := by
  induction l with
  | nil => simp [Lib.indexByte]
  | cons b r ih => unfold Lib.indexByte; split; omega; split; omega; omega
theorem index_mem (l : Thk.Bs) (c : UInt8) : (0 ≤ Lib.indexByte l c) ↔ c ∈ l := by
  induction l with
  | nil => simp [Lib.indexByte]
  | cons b r ih =>
    have hge := index_ge r c
    unfold Lib.indexByte
    by_cases h : b = c
    · simp [h]
    · rw [if_neg (by simpa using h)]
      by_cases h2 : Lib.indexByte r c = -1
      · rw [if_pos (by simpa using h2)]
        have : ¬ c ∈ r := fun hm => by have := ih.2 hm; omega
        simp [this, Ne.symm h]
      · rw [if_neg (by simpa using h2)]
        have : c ∈ r := ih.1 (by omega)
        simp [this]; omega
theorem byte_back (c : UInt8) : ((c.toNat : Int).toNat.toUInt8) = c := by simp
theorem kinds_mem (c : UInt8) : c ∈ ([115, 102, 114, 99, 109] : Thk.Bs) ↔ Thk.isKind c = true := by
  have key : ∀ n : Nat, n < 256 → (c = UInt8.ofNat n ↔ c.toNat = n) := fun n hn => by
    constructor
    · intro h; rw [h]; simp; omega
    · intro h; rw [← h]; simp
  unfold Thk.isKind
  simp only [List.mem_cons, List.mem_nil_iff, or_false, Bool.or_eq_true, beq_iff_eq]
  have a1 := key 115 (by omega); have a2 := key 102 (by omega); have a3 := key 114 (by omega); have a4 := key 99 (by omega); have a5 := key 109 (by omega)
  constructor
  · rintro (h | h | h | h | h)
    · left; left; left; left; exact a1.1 h
    · left; left; left; right; exact a2.1 h
    · left; left; right; exact a3.1 h
    · left; right; exact a4.1 h
    · right; exact a5.1 h
  · rintro ((((h | h) | h) | h) | h)
    · left; exact a1.2 h
    · right; left; exact a2.2 h
    · right; right; left; exact a3.2 h
    · right; right; right; left; exact a4.2 h
    · right; right; right; right; exact a5.2 h

theorem seg_word (s : ByteArray) (h : 0 < s.size) : Thk.seg (toL s) = (Thk.isKind s[0] && Thk.word Thk.isLow 4 (toL (s.extract 1 s.size))) := by
  have e : toL (s.extract 1 s.size) = (toL s).tail := by rw [toL_extract, ← toL_length s, List.take_length, List.drop_one]
  unfold Thk.seg Thk.word
  rw [e, head_toL s h]
  rw [Bool.eq_iff_iff]
  simp only [Bool.and_eq_true, decide_eq_true_eq, List.length_tail, Option.map_some, Option.getD_some]
  constructor
  · rintro ⟨⟨⟨a, b⟩, c⟩, d⟩; exact ⟨d, ⟨by omega, by omega⟩, c⟩
  · rintro ⟨d, ⟨a, b⟩, c⟩; exact ⟨⟨⟨by omega, by omega⟩, c⟩, d⟩

set_option maxHeartbeats 400000 in
theorem isSegment_any (s : ByteArray) (w : World) (hs : s.size ≤ 1048576) :
    Calls Tryz.prog 76 #[.string s] w fun e w' => e = .returned (.bool (Thk.seg (toL s))) ∧ w' = w := by
  by_cases h0 : s.size = 0
  · have hfin : Hid (Thk.seg (toL s) = false) := Thk.seg_false_len _ (by rw [toL_length]; omega)
    have hem : s.toList.isEmpty = true := by rw [toList_eq]; rw [List.isEmpty_iff]; apply List.eq_nil_of_length_eq_zero; simpa using h0
    go_enter Tryz.func76, Tryz.ntmps76
    go_wp2
    go_ret
    exact ⟨ret_bool hfin.out.symm, rfl⟩
  · have hp : 0 < s.size := by omega
    have hem : s.toList.isEmpty = false := by
      rw [toList_eq, List.isEmpty_eq_false_iff]; intro h; apply h0; have := congrArg List.length h; simpa using this
    have Hsw : Hid (_) := seg_word s hp
    have hix : Hid ((0 ≤ Lib.indexByte [115, 102, 114, 99, 109] s[0]) ↔ Thk.isKind s[0] = true) := (index_mem _ _).trans (kinds_mem _)
    have Hcall : Hid (∀ wx, Calls Tryz.prog 63 #[.string ⟨#[115, 102, 114, 99, 109]⟩, .int .u8 (s[0].toNat : Int)] wx fun e w' => e = .returned (.int .i64 (Lib.indexByte [115, 102, 114, 99, 109] s[0])) ∧ w' = wx) := by
      intro wx
      refine (Tryz.strings_IndexByte ⟨#[115, 102, 114, 99, 109]⟩ (s[0].toNat : Int) wx).mono ?_
      rintro e w' ⟨rfl, rfl⟩
      rw [byte_back]; exact ⟨rfl, rfl⟩
    cases hk : Thk.isKind s[0]
    · have hfin : Hid (Thk.seg (toL s) = false) := by unfold Hid; rw [Hsw.out, hk]; (first | done | rfl)
      have hneg : ¬ 0 ≤ Lib.indexByte [115, 102, 114, 99, 109] s[0] := fun h => by have := hix.out.1 h; rw [hk] at this; cases this
      generalize Lib.indexByte [115, 102, 114, 99, 109] s[0] = ix at *
      clear hk Hsw
      go_enter Tryz.func76, Tryz.ntmps76
      go_wp2_with (go_at_call 63; refine (Hcall.out _).mono ?_; rintro e w' ⟨rfl, rfl⟩)
      all_goals
        go_ret
        exact ⟨ret_bool hfin.out.symm, rfl⟩
    · have hpos : 0 ≤ Lib.indexByte [115, 102, 114, 99, 109] s[0] := hix.out.2 hk
      have hfin : Hid (Thk.seg (toL s) = Thk.word Thk.isLow 4 (toL (s.extract 1 s.size))) := by unfold Hid; rw [Hsw.out, hk]; (first | done | rfl)
      generalize Lib.indexByte [115, 102, 114, 99, 109] s[0] = ix at *
      clear hk Hsw
      go_enter Tryz.func76, Tryz.ntmps76
      go_wp2_with (first | (go_at_call 63; refine (Hcall.out _).mono ?_; rintro e w' ⟨rfl, rfl⟩) | (go_at_call 115; refine (isWord_letters (s.extract 1 s.size) 4 _ (by simp [ByteArray.size_extract]; omega) (by omega)).mono ?_; rintro e w' ⟨rfl, rfl⟩))
      all_goals
        go_ret
        exact ⟨ret_bool hfin.out.symm, rfl⟩


theorem ix_cons (b : UInt8) (l : Thk.Bs) (c : UInt8) : Lib.indexByte (b :: l) c = if b == c then 0 else if Lib.indexByte l c == -1 then -1 else Lib.indexByte l c + 1 := rfl
theorem splitAcc_index (c : UInt8) : ∀ (l cur : Thk.Bs), Thk.splitAcc c cur l = if Lib.indexByte l c = -1 then [cur ++ l] else (cur ++ l.take (Lib.indexByte l c).toNat) :: Thk.split c (l.drop ((Lib.indexByte l c).toNat + 1)) := by
  intro l
  induction l with
  | nil => intro cur; simp [Thk.splitAcc, Lib.indexByte]
  | cons x r ih =>
    intro cur
    have hge := index_ge r c
    by_cases h : x = c
    · subst h
      rw [Thk.splitAcc_eq]
      have e : Lib.indexByte (x :: r) x = 0 := by rw [ix_cons]; simp
      rw [e]; simp [Thk.split]
    · rw [Thk.splitAcc_ne _ _ _ _ h, ih (cur ++ [x])]
      by_cases h2 : Lib.indexByte r c = -1
      · have e : Lib.indexByte (x :: r) c = -1 := by rw [ix_cons, if_neg (by simpa using h), if_pos (by simpa using h2)]
        rw [if_pos h2, if_pos e]; simp
      · have e : Lib.indexByte (x :: r) c = Lib.indexByte r c + 1 := by rw [ix_cons, if_neg (by simpa using h), if_neg (by simpa using h2)]
        rw [if_neg h2, if_neg (by rw [e]; omega), e]
        have e2 : (Lib.indexByte r c + 1).toNat = (Lib.indexByte r c).toNat + 1 := by omega
        rw [e2]; simp
theorem split_index (c : UInt8) (l : Thk.Bs) : Thk.split c l = if Lib.indexByte l c = -1 then [l] else l.take (Lib.indexByte l c).toNat :: Thk.split c (l.drop ((Lib.indexByte l c).toNat + 1)) := by
  have := splitAcc_index c l []; simpa [Thk.split] using this
theorem splitK_split (c : UInt8) : ∀ (k : Nat) (l : Thk.Bs), ((Thk.split c l).length ≤ k + 1 → Lib.splitK [c] 0 k l = Thk.split c l) ∧ (k + 1 < (Thk.split c l).length → (Lib.splitK [c] 0 k l).length = k + 1) := by
  intro k
  induction k with
  | zero =>
    intro l
    refine ⟨fun h => ?_, fun _ => rfl⟩
    rw [split_index] at h ⊢
    by_cases h2 : Lib.indexByte l c = -1
    · rw [if_pos h2]; (first | done | rfl)
    · rw [if_neg h2] at h
      have := List.length_pos_iff.2 (Thk.split_ne_nil c (l.drop ((Lib.indexByte l c).toNat + 1)))
      simp only [List.length_cons] at h; omega
  | succ k ih =>
    intro l
    obtain ⟨a, b⟩ := ih (l.drop ((Lib.indexByte l c).toNat + 1))
    unfold Lib.splitK
    rw [Lib.index_one, split_index]
    by_cases h2 : Lib.indexByte l c = -1
    · rw [if_pos h2, if_pos (by simpa using h2)]; exact ⟨fun _ => rfl, fun h => by simp at h⟩
    · rw [if_neg h2, if_neg (by simpa using h2)]
      simp only [List.length_cons, Nat.add_zero, List.length_nil, Nat.zero_add]
      exact ⟨fun h => by rw [a (by omega)], fun h => by rw [b (by omega)]⟩

theorem splitN_path (s : ByteArray) (ps : List ByteArray) (hps : ps = Lib.splitB ⟨#[47]⟩ 0 (min 4 (s.size + 1) - 1) s) :
    (ps.length ≤ 3 → ps.map toL = Thk.split 47 (toL s)) ∧ (3 < ps.length → Thk.path (toL s) = false) ∧ ps.length ≤ 4 ∧ ps ≠ [] := by
  have hd : ps.map toL = Lib.splitK [47] 0 (min 4 (s.size + 1) - 1) (toL s) := by rw [hps]; exact Lib.splitB_data ⟨#[47]⟩ 0 _ s
  have hl : (Thk.split 47 (toL s)).length ≤ s.size + 1 := by
    have := Thk.splitAcc_len 47 (toL s) []
    rw [toL_length] at this
    unfold Thk.split; simp at this; omega
  obtain ⟨a, b⟩ := splitK_split 47 (min 4 (s.size + 1) - 1) (toL s)
  have hle : ps.length ≤ min 4 (s.size + 1) - 1 + 1 := by rw [hps]; exact Lib.splitB_length_le _ _ _ _
  have hlen : ps.length = (Lib.splitK [47] 0 (min 4 (s.size + 1) - 1) (toL s)).length := by rw [← hd, List.length_map]
  have hbig : ∀ l : Thk.Bs, 3 < (Thk.split 47 l).length → Thk.path l = false := by
    intro l h
    unfold Thk.path Thk.pathL
    have : decide ((Thk.split 47 l).length ≤ 3) = false := by rw [decide_eq_false_iff_not]; omega
    rw [this]; (first | done | rfl)
  by_cases hS : (Thk.split 47 (toL s)).length ≤ min 4 (s.size + 1) - 1 + 1
  · have e := a hS
    rw [e] at hd hlen
    refine ⟨fun _ => hd, fun h => hbig _ (by omega), by omega, ?_⟩
    intro h; rw [h] at hd; exact Thk.split_ne_nil 47 (toL s) hd.symm
  · have e := b (by omega)
    rw [e] at hlen
    refine ⟨fun h => by omega, fun _ => hbig _ (by omega), by omega, ?_⟩
    intro h; rw [h] at hlen; simp at hlen

def okStr (b : Bool) (s : ByteArray) : ByteArray := match b with | true => s | false => ⟨#[]⟩
theorem splitB_size' (sep : ByteArray) (save : Nat) : ∀ (k : Nat) (s : ByteArray), ∀ p ∈ _root_.Go.Lib.splitB sep save k s, p.size ≤ s.size := by
  intro k
  induction k with
  | zero => intro s p hp; simp [_root_.Go.Lib.splitB] at hp; rw [hp]; exact Nat.le_refl _
  | succ k ih =>
    intro s p hp
    unfold _root_.Go.Lib.splitB at hp
    split at hp
    · simp at hp; rw [hp]; exact Nat.le_refl _
    · rcases List.mem_cons.1 hp with h | h
      · rw [h]; simp [ByteArray.size_extract]; omega
      · have := ih _ p h; simp [ByteArray.size_extract] at this; omega

set_option maxHeartbeats 2000000 in
theorem ReadPath_any (s : ByteArray) (m : Int) (w : World) (hs : s.size ≤ 1048576) (hm : w.cell? ⟨0, 0, none⟩ = some (.int .i64 m)) :
    Calls Tryz.prog 41 #[.string s] w fun e w' => e = .returned (.tuple #[.string (okStr (Thk.path (toL s)) s), .bool (Thk.path (toL s))]) ∧ Below w.heap.size w w' := by
  have Hcall : Hid (_) := Tryz.strings_SplitN s ⟨#[47]⟩ 4 m w (by omega) hm (by decide) (by omega) (by omega)
  obtain ⟨ps, hps⟩ : ∃ ps, ps = Lib.splitB ⟨#[47]⟩ 0 (min 4 (s.size + 1) - 1) s := ⟨_, rfl⟩
  obtain ⟨p1, p2, p3, p4⟩ := splitN_path s ps hps
  clear hm
  go_enter Tryz.func41, Tryz.ntmps41
  go_wp2_with fail
  refine Calls.mono Hcall.out ?_
  rw [← hps]
  rintro e w1 ⟨rfl, rfl⟩
  have hb1 : Below w.heap.size w (w.alloc (.cells (Lib.cellsOf ps (min 4 (s.size + 1))) 9)) := (Below.refl _ _).alloc (Nat.le_refl _) _
  have Hcell : Hid (∀ j (h : j < ps.length), (w.alloc (.cells (Lib.cellsOf ps (min 4 (s.size + 1))) 9)).cell? ⟨w.heap.size, j, none⟩ = some (.string ps[j])) := by
    intro j h
    have : (Lib.cellsOf ps (min 4 (s.size + 1)))[j]? = some (.string ps[j]) := by
      unfold Lib.cellsOf
      simp only [List.getElem?_toArray]
      rw [List.getElem?_append_left (by simpa using h), List.getElem?_map, List.getElem?_eq_getElem h]; (first | done | rfl)
    simpa using this
  have Hsz : Hid (∀ p ∈ ps, p.size ≤ 1048576) := by
    intro p hp
    have h1 := splitB_size' ⟨#[47]⟩ 0 (min 4 (s.size + 1) - 1) s p (by rw [← hps]; exact hp)
    omega
  have hcap : ps.length ≤ min 4 (s.size + 1) := by
    have := Lib.splitB_length_le ⟨#[47]⟩ 0 (min 4 (s.size + 1) - 1) s; rw [← hps] at this; omega
  clear Hcall hps
  generalize w.alloc (.cells (Lib.cellsOf ps (min 4 (s.size + 1))) 9) = w1 at *
  generalize min 4 (s.size + 1) = cp at *
  by_cases h3 : 3 < ps.length
  · have hfin : Hid (Thk.path (toL s) = false) := p2 h3
    clear p1 p2
    go_wp2
    go_ret2
    exact ⟨by rw [hfin.out]; (first | done | rfl), hb1⟩
  · have Hpath : Hid (Thk.path (toL s) = Thk.pathL (ps.map toL)) := by unfold Hid Thk.path; rw [p1 (by omega)]
    have hpos : 0 < ps.length := List.length_pos_iff.2 p4
    clear p1 p2 p3 p4
    go_wp2
    go_loop [18] (fun i => ∃ k : Nat, k ≤ ps.length ∧ i = .int .i64 k ∧ Hid (∀ j (h : j < ps.length), j < k → Thk.seg (toL ps[j]) = true ∧ (j + 1 < ps.length → (toL ps[j]).head? = some 109))) (fun i => ps.length - (intOf i).toNat)
    case atStart => exact ⟨0, by omega, rfl, fun j _ b => by omega⟩
    case round =>
      obtain ⟨k, hk, rfl, hall⟩ := hrel
      by_cases hlt : k < ps.length
      · have hck := Hcell.out k hlt
        have hqz := Hsz.out _ (List.getElem_mem hlt)
        have Hnext : Hid (Thk.seg (toL ps[k]) = true → (k + 1 < ps.length → (toL ps[k]).head? = some 109) → ∀ j (h : j < ps.length), j < k + 1 → Thk.seg (toL ps[j]) = true ∧ (j + 1 < ps.length → (toL ps[j]).head? = some 109)) := by
          intro h1 h2 j h b
          by_cases e : j = k
          · subst e; exact ⟨h1, h2⟩
          · exact hall.out j h (by omega)
        have Hf1 : Hid (Thk.seg (toL ps[k]) = false → Thk.pathL (ps.map toL) = false) := fun h => Thk.pathL_false_seg _ k (by simpa using hlt) (by simpa using h)
        have Hf2 : Hid (k + 1 < ps.length → ((toL ps[k]).head? == some 109) = false → Thk.pathL (ps.map toL) = false) := fun h1 h => Thk.pathL_false_map _ k (by simpa using h1) (by simpa using h)
        clear hall
        generalize ps[k] = q at *
        cases hseg : Thk.seg (toL q)
        · have hfin : Hid (Thk.path (toL s) = false) := Hpath.out.trans (Hf1.out hseg)
          have Hs2 : Hid (_) := hseg
          clear hseg Hnext Hf1 Hf2
          go_wp2_with (go_at_call 76; refine (isSegment_any q _ (by omega)).mono ?_; rintro e w' ⟨rfl, rfl⟩; rw [Hs2.out])
          go_ret2
          exact ⟨by rw [hfin.out]; (first | done | rfl), hb1⟩
        · have hq2 : 2 ≤ q.size := by have := Thk.seg_pos _ hseg; rwa [toL_length] at this
          have Hs2 : Hid (_) := hseg
          have Hn1 : Hid (_) := Hnext.out hseg
          clear hseg Hnext Hf1
          have hh := head_toL q (by omega)
          by_cases hl : k + 1 < ps.length
          · by_cases hm : q[0] = 109
            · have Hn2 : Hid (_) := Hn1.out (fun _ => by rw [hh, hm])
              have hd : ((q[0].toNat : Int) != 109) = false := by rw [hm]; (first | done | rfl)
              clear Hf2 Hn1 hh hm
              go_wp2_with (go_at_call 76; refine (isSegment_any q _ (by omega)).mono ?_; rintro e w' ⟨rfl, rfl⟩; rw [Hs2.out])
              go_round
              case rel => exact ⟨k + 1, by omega, by go_num, Hn2⟩
              case measure => simp [intOf]; omega
            · have hfin : Hid (Thk.path (toL s) = false) := Hpath.out.trans (Hf2.out hl (by rw [hh]; simpa using hm))
              have hd : ((q[0].toNat : Int) != 109) = true := by
                rw [bne_iff_ne]; intro h; apply hm; apply UInt8.toNat_inj.1; have : (109 : UInt8).toNat = 109 := rfl; omega
              clear Hf2 Hn1 hh hm
              go_wp2_with (go_at_call 76; refine (isSegment_any q _ (by omega)).mono ?_; rintro e w' ⟨rfl, rfl⟩; rw [Hs2.out])
              go_ret2
              exact ⟨by rw [hfin.out]; (first | done | rfl), hb1⟩
          · have Hn2 : Hid (_) := Hn1.out (fun h => absurd h hl)
            clear Hf2 Hn1 hh
            go_wp2_with (go_at_call 76; refine (isSegment_any q _ (by omega)).mono ?_; rintro e w' ⟨rfl, rfl⟩; rw [Hs2.out])
            go_round
            case rel => exact ⟨k + 1, by omega, by go_num, Hn2⟩
            case measure => simp [intOf]; omega
      · have hfin : Hid (Thk.path (toL s) = true) := by
          refine Hpath.out.trans ((Thk.pathL_eq _ (fun j h => ?_) (fun j h h2 => ?_)).trans (by simp; omega))
          · simp only [List.getElem_map]; exact (hall.out j (by simpa using h) (by simp at h; omega)).1
          · simp only [List.getElem_map]; exact (hall.out j (by simpa using h) (by simp at h; omega)).2 (by simpa using h2)
        clear hall
        go_wp2
        go_ret2
        exact ⟨by rw [hfin.out]; (first | done | rfl), hb1⟩


theorem splitAcc_none (c : UInt8) (l cur : Thk.Bs) (h : ¬ c ∈ l) : Thk.splitAcc c cur l = [cur ++ l] := by
  rw [splitAcc_index, if_pos]
  have h1 := index_ge l c
  have h2 := (not_congr (index_mem l c)).2 h
  omega
theorem splitAcc_last (c : UInt8) : ∀ (l cur : Thk.Bs) (i : Nat), l[i]? = some c → (∀ j, i < j → l[j]? ≠ some c) → (Thk.splitAcc c cur l).getLast? = some (l.drop (i + 1)) := by
  intro l
  induction l with
  | nil => intro cur i h; simp at h
  | cons x r ih =>
    intro cur i hi hj
    cases i with
    | zero =>
      have hx : x = c := by simpa using hi
      subst hx
      have hn : ¬ x ∈ r := fun hm => by
        obtain ⟨j, hj1, hj2⟩ := List.getElem_of_mem hm
        exact hj (j + 1) (by omega) (by simp [List.getElem?_eq_getElem hj1, hj2])
      rw [Thk.splitAcc_eq, splitAcc_none _ _ _ hn]; simp
    | succ i =>
      have hi' : r[i]? = some c := by simpa using hi
      have hj' : ∀ j, i < j → r[j]? ≠ some c := fun j h => by have := hj (j + 1) (by omega); simpa using this
      by_cases hx : x = c
      · subst hx
        rw [Thk.splitAcc_eq, List.getLast?_cons, ih [] i hi' hj']; simp
      · rw [Thk.splitAcc_ne _ _ _ _ hx, ih _ i hi' hj']; simp

theorem data_get (s : ByteArray) (j : Nat) (h : j < s.size) : s.data[j]! = s[j] := by
  rw [getElem!_pos s.data j h]; (first | done | rfl)

theorem kind_at (s : ByteArray) (hp : Thk.path (toL s) = true) : ∃ k : Nat, Lib.lastIndexByte s 47 + 1 = (k : Int) ∧ ∃ h : k < s.size, s[k] = Thk.kindOf (toL s) := by
  obtain ⟨hn, h2, h0⟩ := Thk.path_last _ hp
  have hl : (Thk.split 47 (toL s)).getLast? = some ((Thk.split 47 (toL s))[(Thk.split 47 (toL s)).length - 1]'(by omega)) := by
    rw [List.getLast?_eq_getElem?, List.getElem?_eq_getElem]
  have key : ∀ k : Nat, (Thk.split 47 (toL s)).getLast? = some ((toL s).drop k) → ∃ h : k < s.size, s[k] = Thk.kindOf (toL s) := by
    intro k hk
    rw [hl] at hk
    simp only [Option.some.injEq] at hk
    rw [hk] at h2 h0
    simp only [List.length_drop, toL_length] at h2
    have hks : k < s.size := by omega
    refine ⟨hks, ?_⟩
    rw [List.getElem?_drop, Nat.add_zero, List.getElem?_eq_getElem (by rw [toL_length]; exact hks), toL_get s k hks] at h0
    simpa using h0
  rcases Lib.lastIdx_spec s 47 s.size with ⟨h1, hno⟩ | ⟨i, hi, h1, hc, hno⟩
  · refine ⟨0, by unfold Lib.lastIndexByte; rw [h1]; (first | done | rfl), key 0 ?_⟩
    have hmem : ¬ (47 : UInt8) ∈ toL s := fun hm => by
      obtain ⟨j, hj1, hj2⟩ := List.getElem_of_mem hm
      rw [toL_length] at hj1
      have := hno j hj1
      rw [data_get s j hj1, ← toL_get s j hj1, hj2] at this
      exact this rfl
    unfold Thk.split; rw [splitAcc_none _ _ _ hmem]; simp
  · refine ⟨i + 1, by unfold Lib.lastIndexByte; rw [h1]; omega, key (i + 1) ?_⟩
    unfold Thk.split
    apply splitAcc_last
    · rw [List.getElem?_eq_getElem (by rw [toL_length]; exact hi), toL_get s i hi]
      rw [data_get s i hi] at hc
      congr 1
      apply UInt8.toNat_inj.1
      have : (47 : UInt8).toNat = 47 := rfl
      omega
    · intro j hj e
      have hjs : j < s.size := by
        rcases Nat.lt_or_ge j s.size with h | h
        · exact h
        · rw [List.getElem?_eq_none (by rw [toL_length]; exact h)] at e; cases e
      rw [List.getElem?_eq_getElem (by rw [toL_length]; exact hjs), toL_get s j hjs] at e
      have := hno j hj hjs
      rw [data_get s j hjs] at this
      simp only [Option.some.injEq] at e
      rw [e] at this; exact this rfl

set_option maxHeartbeats 400000 in
theorem Kind_any (s : ByteArray) (w : World) (hs : s.size ≤ 1048576) (hp : Thk.path (toL s) = true) :
    Calls Tryz.prog 65 #[.string s] w fun e w' => e = .returned (.int .u8 ((Thk.kindOf (toL s)).toNat : Int)) ∧ w' = w := by
  obtain ⟨k, h1, h2, h3⟩ := kind_at s hp
  have Hc : Hid (_) := Tryz.strings_LastIndexByte s 47 (by omega) w
  obtain ⟨ix, hix⟩ : ∃ ix, ix = Lib.lastIndexByte s 47 := ⟨_, rfl⟩
  rw [← hix] at h1
  have hixe : ix = (k : Int) - 1 := by omega
  have H3 : Hid (_) := h3
  clear h3 h1 hp
  go_enter Tryz.func65, Tryz.ntmps65
  go_wp2_with fail
  refine Calls.mono Hc.out ?_
  rintro e w' ⟨rfl, rfl⟩
  rw [← hix, hixe]
  clear hix hixe
  go_wp2
  go_ret
  exact ⟨ret_int (by rw [H3.out]), rfl⟩

def actsOf (k : UInt8) : Thk.Bs := if (k.toNat : Int) = 115 then [43, 45, 33] else if (k.toNat : Int) = 102 then [94, 95, 33] else if (k.toNat : Int) = 114 then [61, 33] else if (k.toNat : Int) = 99 then [62, 33] else [33]

set_option maxHeartbeats 400000 in
theorem actionsOf_any (k : UInt8) (w : World) :
    Calls Tryz.prog 64 #[.int .u8 (k.toNat : Int)] w fun e w' => ∃ t, e = .returned (.string t) ∧ toL t = actsOf k ∧ w' = w := by
  go_enter Tryz.func64, Tryz.ntmps64
  go_wp2
  all_goals
    go_ret
    refine ⟨_, rfl, ?_, rfl⟩
    simp only [beq_iff_eq, beq_eq_false_iff_ne] at *
    unfold actsOf
    simp [*]
    try rfl

set_option maxHeartbeats 400000 in
theorem IsEffect_any (p : ByteArray) (a : UInt8) (v : ByteArray) (n : Int) (w : World) :
    Calls Tryz.prog 72 #[.agg #[.string p, .int .u8 (a.toNat : Int), .string v, .int .i64 n]] w fun e w' => e = .returned (.bool (effB a)) ∧ Below w.heap.size w w' := by
  go_enter Tryz.func72, Tryz.ntmps72
  go_wp2
  all_goals
    go_ret
    refine ⟨ret_bool ?_, (Below.refl _ _).alloc (Nat.le_refl _) _⟩
    simp only [beq_iff_eq, beq_eq_false_iff_ne] at *
    unfold effB
    rw [Bool.eq_iff_iff]
    simp
    try omega


theorem begins_prefix (l p : Thk.Bs) : Thk.begins l p = (l == p || (p ++ [47]).isPrefixOf l) := by
  unfold Thk.begins
  cases h : (l == p)
  · simp only [Bool.false_or]
    rw [Bool.eq_iff_iff]
    simp only [Bool.and_eq_true, decide_eq_true_eq, beq_iff_eq, List.isPrefixOf_iff_prefix]
    constructor
    · rintro ⟨⟨h1, h2⟩, h3⟩
      rw [List.getElem?_eq_getElem h1] at h3
      have h4 : l[p.length] = 47 := by
        apply UInt8.toNat_inj.1
        simpa using h3
      refine ⟨l.drop (p.length + 1), ?_⟩
      conv => rhs; rw [← List.take_append_drop p.length l, h2, List.drop_eq_getElem_cons h1, h4]
      simp
    · rintro ⟨t, rfl⟩
      simp
  · rfl

def stepSeg (p l : Thk.Bs) : Thk.Bs := (Thk.split 47 (l.drop (p.length + 1))).headD []

theorem cut_head (l : Thk.Bs) : (Lib.cut l [47]).1 = (Thk.split 47 l).headD [] := by
  unfold Lib.cut
  rw [Lib.index_one, split_index]
  have hge := index_ge l 47
  by_cases h : Lib.indexByte l 47 = -1
  · rw [if_neg (by rw [h]; omega), if_pos h]; (first | done | rfl)
  · rw [if_pos (by omega), if_neg h]; (first | done | rfl)

set_option maxHeartbeats 1000000 in
theorem Step_any (p l : ByteArray) (m : Int) (w : World) (hp : p.size ≤ 1048576) (hl : l.size ≤ 1048576) (hm : w.cell? ⟨0, 0, none⟩ = some (.int .i64 m)) :
    Calls Tryz.prog 179 #[.string p, .string l] w fun e w' => ∃ t, e = .returned (.tuple #[.string t, .bool ((toL p ++ [47]).isPrefixOf (toL l))]) ∧ ((toL p ++ [47]).isPrefixOf (toL l) = true → toL t = stepSeg (toL p) (toL l)) ∧ t.size ≤ l.size ∧ Below w.heap.size w w' := by
  have Hc1 : Hid (_) := Tryz.strings_CutPrefix l (p ++ ⟨#[47]⟩) w
  have e1 : (p ++ ⟨#[47]⟩ : ByteArray).data.toList = toL p ++ [47] := toL_append p ⟨#[47]⟩
  have hsz : p.size + 1 ≤ 9223372036854775807 := by omega
  cases hx : (toL p ++ [47]).isPrefixOf (toL l)
  · have hh : Hid (Lib.hasPrefix l.data.toList (p ++ ⟨#[47]⟩ : ByteArray).data.toList = false) := by unfold Hid Lib.hasPrefix; rw [e1]; exact hx
    clear hx hm e1
    go_enter Tryz.func179, Tryz.ntmps179
    go_wp2_with fail
    refine Calls.mono Hc1.out ?_
    rw [hh.out]
    rintro e w' ⟨rfl, rfl⟩
    go_wp2
    go_ret2
    exact ⟨ByteArray.empty, rfl, (fun h => by cases h), Nat.zero_le _, Below.refl _ _⟩
  · have hh : Hid (Lib.hasPrefix l.data.toList (p ++ ⟨#[47]⟩ : ByteArray).data.toList = true) := by unfold Hid Lib.hasPrefix; rw [e1]; exact hx
    have ht : Hid (Lib.trimPrefix l.data.toList (p ++ ⟨#[47]⟩ : ByteArray).data.toList = (toL l).drop (p.size + 1)) := by
      unfold Hid Lib.trimPrefix; rw [hh.out, if_pos rfl, e1]
      congr 1; simp [toL_length]
    obtain ⟨q, hq⟩ : ∃ q : ByteArray, q = ⟨((toL l).drop (p.size + 1)).toArray⟩ := ⟨_, rfl⟩
    have hqs : q.size ≤ l.size := by
      have : q.size = ((toL l).drop (p.size + 1)).length := by rw [hq]; (first | done | rfl)
      rw [this, List.length_drop, toL_length]; omega
    have Hc2 : Hid (_) := Tryz.strings_Cut q ⟨#[47]⟩ m w (by omega) hm
    have Hq : Hid (toL q = (toL l).drop (p.size + 1)) := by unfold Hid; rw [hq]; (first | done | rfl)
    obtain ⟨t, htt⟩ : ∃ t : ByteArray, t = ⟨(Lib.cut q.data.toList [47]).1.toArray⟩ := ⟨_, rfl⟩
    have Ht : Hid (toL t = stepSeg (toL p) (toL l)) := by
      have h1 : toL t = (Lib.cut (toL q) [47]).1 := by rw [htt]; (first | done | rfl)
      unfold Hid stepSeg
      rw [h1, cut_head, Hq.out, toL_length]
    have Hts : Hid (t.size ≤ l.size) := by
      unfold Hid
      have h1 : t.size = (Lib.cut (toL q) [47]).1.length := by rw [htt]; (first | done | rfl)
      have h2 : (Lib.cut (toL q) [47]).1.length ≤ (toL q).length := by
        unfold Lib.cut; split
        · simp; omega
        · simp
      rw [toL_length] at h2; omega
    clear hx hm e1
    go_enter Tryz.func179, Tryz.ntmps179
    go_wp2_with fail
    refine Calls.mono Hc1.out ?_
    rw [hh.out, ht.out, ← hq]
    rintro e w' ⟨rfl, hw'⟩
    subst hw'
    clear hq
    go_wp2_with fail
    refine Calls.mono Hc2.out ?_
    rintro e w2 ⟨rfl, n, rfl⟩
    rw [← htt]
    clear htt
    go_wp2
    go_ret2
    exact ⟨t, rfl, (fun _ => Ht.out), Hts.out, below_drewN (Below.refl _ _) _⟩

set_option maxHeartbeats 1000000 in
theorem Holds_any (p l : ByteArray) (m : Int) (w : World) (hp : p.size ≤ 1048576) (hl : l.size ≤ 1048576) (hm : w.cell? ⟨0, 0, none⟩ = some (.int .i64 m)) :
    Calls Tryz.prog 169 #[.string p, .string l] w fun e w' => e = .returned (.bool (Thk.begins (toL l) (toL p))) ∧ Below w.heap.size w w' := by
  have Hs : Hid (_) := Step_any p l m w hp hl hm
  have Hb : Hid (Thk.begins (toL l) (toL p) = ((toL p == toL l) || (toL p ++ [47]).isPrefixOf (toL l))) := by
    unfold Hid; rw [begins_prefix]; congr 1; rw [Bool.eq_iff_iff]; simp; exact eq_comm
  clear hm
  go_enter Tryz.func169, Tryz.ntmps169
  go_wp2_with fail
  refine Calls.mono Hs.out ?_
  rintro e w1 ⟨t, rfl, _, _, hb1⟩
  generalize (toL p ++ [47]).isPrefixOf (toL l) = x at *
  cases heq : (p.toList == l.toList)
  · have h1 : (toL p == toL l) = false := by rw [toList_eq, toList_eq] at heq; exact heq
    have Hf : Hid (Thk.begins (toL l) (toL p) = x) := by unfold Hid; rw [Hb.out, h1]; (first | done | rfl)
    clear h1 Hb
    go_wp2
    go_ret
    exact ⟨ret_bool Hf.out.symm, hb1⟩
  · have h1 : (toL p == toL l) = true := by rw [toList_eq, toList_eq] at heq; exact heq
    have Hf : Hid (Thk.begins (toL l) (toL p) = true) := by unfold Hid; rw [Hb.out, h1]; (first | done | rfl)
    clear h1 Hb
    go_wp2
    go_ret
    exact ⟨ret_bool Hf.out.symm, hb1⟩

set_option maxHeartbeats 1000000 in
theorem Covers_any (dp dv ep ev : ByteArray) (da ea : UInt8) (dn en : Int) (m : Int) (w : World) (h1 : dp.size ≤ 1048576) (h2 : ep.size ≤ 1048576) (hm : w.cell? ⟨0, 0, none⟩ = some (.int .i64 m)) :
    Calls Tryz.prog 122 #[.agg #[.string dp, .int .u8 (da.toNat : Int), .string dv, .int .i64 dn], .agg #[.string ep, .int .u8 (ea.toNat : Int), .string ev, .int .i64 en]] w
      fun e w' => e = .returned (.bool (covB (toL dp) da (toL dv) (toL ep) ea (toL ev))) ∧ Below w.heap.size w w' := by
  have hmB : Hid (∀ wx, Below w.heap.size w wx → wx.cell? ⟨0, 0, none⟩ = some (.int .i64 m)) := fun wx hx => (hx.cell (p := ⟨0, 0, none⟩) (block_lt_of_cell hm)).trans hm
  clear hm
  go_enter Tryz.func122, Tryz.ntmps122
  go_wp2_with (go_at_call 169; refine (Holds_any dp ep m _ h1 h2 (hmB.out _ (((Below.refl _ _).alloc (Nat.le_refl _) _).alloc (by simp) _))).mono ?_; rintro e w1 ⟨rfl, hb1⟩)
  · go_ret
    rename_i h33
    refine ⟨ret_bool ?_, (((Below.refl _ _).alloc (Nat.le_refl _) _).alloc (by simp) _).trans (hb1.mono (by simp; omega))⟩
    unfold covB; rw [if_pos (by simpa using h33)]
  all_goals
    go_ret
    refine ⟨ret_bool ?_, ((Below.refl _ _).alloc (Nat.le_refl _) _).alloc (by simp) _⟩
    simp only [toList_eq, Bool.not_eq_true', Bool.not_eq_false', beq_iff_eq, beq_eq_false_iff_ne] at *
    unfold covB
    by_cases e1 : (ea.toNat : Int) = 43
    · simp_all [toL]
      try (rw [Bool.eq_iff_iff]; simp only [beq_iff_eq]; exact ⟨Eq.symm, Eq.symm⟩)
    · by_cases e2 : (ea.toNat : Int) = 94
      · simp_all [toL]
      · by_cases e3 : (ea.toNat : Int) = 61
        · simp_all [toL]
        · simp_all [toL]


structure Glob (w : World) : Prop where
  len : ∃ m, w.cell? ⟨0, 0, none⟩ = some (.int .i64 m)
  syn : ∃ ev, w.cell? ⟨1, 0, none⟩ = some ev ∧ (ev = .nilIface ∨ ∃ te pe, ev = .iface te pe)
  rng : ∃ ev, w.cell? ⟨2, 0, none⟩ = some ev ∧ (ev = .nilIface ∨ ∃ te pe, ev = .iface te pe)
  tab : Lib.TabIs Tryz.prog w "internal/strconv.uint64pow10" .u64 Lib.pow10Tab
  size : 3 < w.heap.size

theorem Glob.mono {w w' : World} (h : Glob w) (hb : Below w.heap.size w w') : Glob w' := by
  obtain ⟨⟨m, h1⟩, ⟨e1, h2, h2'⟩, ⟨e2, h3, h3'⟩, h4, h5⟩ := h
  refine ⟨⟨m, (hb.cell (p := ⟨0, 0, none⟩) (block_lt_of_cell h1)).trans h1⟩, ⟨e1, (hb.cell (p := ⟨1, 0, none⟩) (block_lt_of_cell h2)).trans h2, h2'⟩, ⟨e2, (hb.cell (p := ⟨2, 0, none⟩) (block_lt_of_cell h3)).trans h3, h3'⟩, ?_, Nat.lt_of_lt_of_le h5 hb.size⟩
  exact var?_below (g := 3) hb (by kernel_rfl) h5 h4

theorem grow_below {B : Nat} {a w : World} (h : Below B a w) (hB : B ≤ w.heap.size) (os : Array Obj) : Below B a (Sort.grow w os) :=
  h.trans ⟨rfl, rfl, rfl, by simp [Sort.grow], fun k hk => by simp only [Sort.grow]; rw [Array.getElem?_append_left (by omega)]⟩

theorem parse_range (l : List UInt8) (v : Int) (h : Lib.parseIntB 64 l = .ok v) : -9223372036854775808 ≤ v ∧ v ≤ 9223372036854775807 := by
  unfold Lib.parseIntB at h
  split at h
  · cases h
  · simp only at h
    split at h
    · cases h
    · cases h
    · split at h
      · cases h
      · split at h
        · cases h
        · rename_i c r _ u hu n1 n2
          simp only [Lib.NumEnd.ok.injEq] at h
          simp at n1 n2
          split at h
          · rename_i h45
            have := n2 h45; omega
          · rename_i h45
            have := n1 h45; omega

set_option maxHeartbeats 1000000 in
theorem readNumber_any (s : ByteArray) (w : World) (hs : s.size ≤ 1048576) (hG : Glob w) :
    Calls Tryz.prog 117 #[.string s] w fun e w' => ∃ v, e = .returned (.tuple #[.int .i64 v, .bool (Thk.num (toL s)).isSome]) ∧ (∀ n, Thk.num (toL s) = some n → v = n) ∧ Below w.heap.size w w' := by
  have hq : Thk.num (toL s) = Thk.progNum (toL s) := (Thk.progNum_eq _).symm
  unfold Thk.progNum at hq
  cases hp : Lib.parseIntB 64 (toL s) with
  | ok v =>
    have hr := parse_range _ _ hp
    have Hc1 : Hid (_) := Tryz.strconv_ParseInt_10_at64_ok s (by omega) v hp w
    rw [hp] at hq
    simp only at hq
    have HG : Hid (Glob w) := hG
    clear hG hp
    go_enter Tryz.func117, Tryz.ntmps117
    go_wp2_with fail
    refine Calls.mono Hc1.out ?_
    rintro e w1 ⟨rfl, hw1⟩
    have Hb1 : Hid (Below w.heap.size w w1) := by
      rcases hw1 with rfl | ⟨t, rfl⟩
      · exact Below.refl _ _
      · exact Lib.bytesWorld_below _ _ _
    clear hw1
    have Hc2 : Hid (_) := Tryz.strconv_FormatInt_10 v hr.1 hr.2 w1 (HG.out.mono Hb1.out).tab
    go_wp2_with fail
    refine Calls.mono Hc2.out ?_
    rintro e w2 ⟨rfl, hw2⟩
    have Hb2 : Hid (Below w.heap.size w w2) := by
      obtain ⟨k, os, rfl⟩ := hw2
      exact grow_below (below_drewN Hb1.out k) Hb1.out.size os
    clear hw2 Hc1 Hc2
    obtain ⟨q, hqq⟩ : ∃ q : ByteArray, q = ⟨(Lib.itoa v).toArray⟩ := ⟨_, rfl⟩
    rw [← hqq]
    have Hq : Hid (toL q = Lib.itoa v) := by rw [hqq]; (first | done | rfl)
    clear hqq
    cases heq : (q.toList == s.toList)
    · have hne : ¬ (Lib.itoa v = toL s) := by
        have h1 : (toL q == toL s) = false := by rw [toList_eq, toList_eq] at heq; exact heq
        rw [Hq.out] at h1; simpa using h1
      have Hf : Hid (Thk.num (toL s) = none) := by unfold Hid; rw [hq, if_neg (fun h => hne h.1)]
      clear hq hne
      go_wp2
      go_ret2
      refine ⟨0, ?_, ?_, Hb2.out⟩
      · rw [Hf.out]; (first | done | rfl)
      · intro n hn; rw [Hf.out] at hn; cases hn
    · have he : Lib.itoa v = toL s := by
        have h1 : (toL q == toL s) = true := by rw [toList_eq, toList_eq] at heq; exact heq
        rw [Hq.out] at h1; simpa using h1
      have Hf : Hid (Thk.num (toL s) = if -1000000000 ≤ v ∧ v ≤ 1000000000 then some v else none) := by unfold Hid; rw [hq]; simp [he]
      clear hq he
      go_wp2
      all_goals
        go_ret2
        refine ⟨v, ?_, ?_, Hb2.out⟩
        · rw [Hf.out]; split <;> simp_all <;> omega
        · intro n hn; rw [Hf.out] at hn; split at hn <;> simp_all
  | range =>
    obtain ⟨ev, hv, hev⟩ := hG.rng
    have Hc1 : Hid (_) := Tryz.strconv_ParseInt_10_at64_range s (by omega) hp ev w hv hev
    rw [hp] at hq
    have Hf : Hid (Thk.num (toL s) = none) := hq
    clear hG hp hq hv hev
    go_enter Tryz.func117, Tryz.ntmps117
    go_wp2_with fail
    refine Calls.mono Hc1.out ?_
    rintro e w1 ⟨N, rfl, _, _, hb⟩
    go_wp2
    go_ret2
    refine ⟨0, ?_, ?_, hb⟩
    · rw [Hf.out]; (first | done | rfl)
    · intro n hn; rw [Hf.out] at hn; cases hn
  | _ =>
    obtain ⟨ev, hv, hev⟩ := hG.syn
    have Hc1 : Hid (_) := Tryz.strconv_ParseInt_10_at64_syntax s (by omega) hp ev w hv hev
    rw [hp] at hq
    have Hf : Hid (Thk.num (toL s) = none) := hq
    clear hG hp hq hv hev
    go_enter Tryz.func117, Tryz.ntmps117
    go_wp2_with fail
    refine Calls.mono Hc1.out ?_
    rintro e w1 ⟨N, rfl, _, _, hb⟩
    go_wp2
    go_ret2
    refine ⟨0, ?_, ?_, hb⟩
    · rw [Hf.out]; (first | done | rfl)
    · intro n hn; rw [Hf.out] at hn; cases hn

end Go.Proofs.YtoiiaankpnhppaaGreatDoor

