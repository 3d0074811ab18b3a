import Derived.Laws.Runes
import Derived.Laws.RangeAny
import Derived.Deep.LoopGhost
import Derived.WalkMore
import Derived.BigQuiet
import Derived.Lib.OthersKept
import Derived.Deep.OwnRows
import Derived.Deep.RegionHeld3
import Derived.Test.YtmnnojekcloblaaGreatDoorPart06
set_option linter.unusedVariables false
set_option linter.unusedSimpArgs false
namespace Go.Proofs.YtmnnojekcloblaaGreatDoor
open Go.RowKit

/-- The actions' signs. -/
def actsB : ByteArray := ⟨#[43, 45, 94, 95, 61, 62, 33]⟩
theorem acts_low : ∀ b ∈ actsB.data.toList, b.toNat < 128 := by decide +kernel

theorem iter_below (w : World) (s : ByteArray) (i : Nat) : Below w.heap.size w (w.iter s i) := (Below.refl _ w).alloc (Nat.le_refl _) _

set_option maxHeartbeats 4000000 in
set_option maxRecDepth 100000 in
theorem IndexRune_bad (w : World) :
    Calls Tryz.prog 88 #[.string actsB, .int .i32 65533] w fun e w' => e = .returned (.int .i64 (-1)) ∧ Below w.heap.size w w' := by
  have hsz : actsB.size = 7 := rfl
  have Hlow : Hid (∀ i (h : i < actsB.size), (actsB[i]'h).toNat < 128) := fun i h => acts_low _ (Array.getElem_mem_toList (xs := actsB.data) h)
  generalize actsB = s at *
  go_enter Tryz.func88, Tryz.ntmps88
  go_wp2_with fail
  go_loopg [5, 6] 7 (fun g _ _ wx => ∃ i : Nat, i + g = 7 ∧ wx = w.iter s i)
  case atStart => exact ⟨0, by omega, rfl⟩
  case round =>
    obtain ⟨i, hig, rfl⟩ := hrel
    cases gk with
    | zero =>
      have hnx := fun ty => run_next_end (P := Tryz.prog) w s i ty (by omega)
      go_wp2
      go_ret
      exact ⟨rfl, iter_below _ _ _⟩
    | succ g =>
      have hi : i < s.size := by omega
      have hx := Hlow.out i hi
      have hnx := fun ty => run_next_ascii (P := Tryz.prog) w s i ty hi hx
      generalize (s[i]'hi) = x at *
      have hne : ((x.toNat : Int) == 65533) = false := beq_eq_false_iff_ne.2 (by omega)
      go_wp2
      go_roundg g
      case measure => omega
      case rel => exact ⟨i + 1, by omega, rfl⟩

theorem indexByte_none (c : UInt8) : ∀ l : Thk.Bs, (∀ b ∈ l, b ≠ c) → Lib.indexByte l c = -1 := by
  intro l
  induction l with
  | nil => intro _; rfl
  | cons x l ih =>
    intro h
    have h1 : (x == c) = false := by simpa using h x (by simp)
    have h2 := ih (fun b hb => h b (by simp [hb]))
    rw [ix_cons, h1, h2]; rfl

theorem inBlock_ret (id : Nat) (Q : Exit → Act → World → Prop) (a : Act) (w : World) : Exit.inBlock id Q .ret a w = Q .ret a w := rfl
theorem then_ret (K : Act → World → Prop) (Q : Exit → Act → World → Prop) (a : Act) (w : World) : Exit.then K Q .ret a w = Q .ret a w := rfl

def Qb (s : ByteArray) (c : UInt8) : Prop := ∀ i j wx, Calls Tryz.prog 55 #[.string (s.extract i j), .int .u8 (c.toNat : Int)] wx fun e w' => e = .returned (.int .i64 (-1)) ∧ w' = wx

set_option maxHeartbeats 4000000 in
set_option maxRecDepth 100000 in
theorem IndexRune_high (r : Int) (w : World) (h1 : 128 ≤ r) (h2 : r ≤ 2147483647) :
    Calls Tryz.prog 88 #[.string actsB, .int .i32 r] w fun e w' => e = .returned (.int .i64 (-1)) ∧ Below w.heap.size w w' := by
  by_cases hbad : r = 65533
  · subst hbad; exact IndexRune_bad w
  have hne : (r == 65533) = false := beq_eq_false_iff_ne.2 hbad
  have n128 : ¬ r < 128 := by omega
  cases hv : Lib.validRune r
  · have Hv : Hid (Lib.validRune r = false) := hv
    clear hv
    go_enter Tryz.func88, Tryz.ntmps88
    go_wp2_with (go_at_call 136; refine (Tryz.utf8_ValidRune r _).mono ?_; rintro e w1 ⟨rfl, rfl⟩; rw [Hv.out])
    go_ret
    exact ⟨rfl, Below.refl _ _⟩
  · have Hv : Hid (Lib.validRune r = true) := hv
    have hv2 : Utf8.valid r = true := by unfold Lib.validRune at hv; unfold Utf8.valid; simp at hv ⊢; omega
    obtain ⟨e1, e2, e3⟩ := encode_facts r hv2 h1
    clear hv hv2
    obtain ⟨n, hn⟩ : ∃ n, (Utf8.encode r).size = n + 1 := ⟨(Utf8.encode r).size - 1, by omega⟩
    have hsz : actsB.size = 7 := rfl
    have Hlow : Hid (∀ i (h : i < actsB.size), (actsB[i]'h).toNat < 128) := fun i h => acts_low _ (Array.getElem_mem_toList (xs := actsB.data) h)
    generalize actsB = s at *
    have hcv : ∀ wx, (convert 21 9 (.int .i32 r)).run Tryz.prog wx = .ok (.string (Utf8.encode r)) wx := fun wx => run_convert_int_string wx 21 9 .i32 r (by rw [Tryz.underlying21]; rfl) Tryz.underlying9
    generalize Utf8.encode r = rs at *
    go_enter Tryz.func88, Tryz.ntmps88
    go_wp2_with (go_at_call 136; refine (Tryz.utf8_ValidRune r _).mono ?_; rintro e w1 ⟨rfl, rfl⟩; rw [Hv.out])
    go_step3
    go_wp2_with fail
    have hns : n < s.size := by omega
    have hnr : n < rs.size := by omega
    have hx := Hlow.out n hns
    have hy : 128 ≤ (rs[n]'hnr).toNat := by
      have := e3 (by omega)
      have e : rs.size - 1 = n := by omega
      simp only [e] at this; exact this
    have hneq : (((s[n]'hns).toNat : Int) != ((rs[n]'hnr).toNat : Int)) = true := by simp; omega
    have Hc : Hid (∀ i j, Lib.indexByte (s.extract i j).data.toList (rs[n]'hnr) = -1) := fun i j => indexByte_none _ _ (fun b hb => by
      intro he
      have h1 := mem_extract hb
      obtain ⟨k, hk, hk2⟩ := List.getElem_of_mem h1
      have h2 := Hlow.out k (by simpa using hk)
      have h3 : s[k]'(by simpa using hk) = b := hk2
      rw [h3, he] at h2; omega)
    have hback : (((rs[n]'hnr).toNat : Int)).toNat.toUInt8 = rs[n]'hnr := by simp
    have Hc2 : Qb s (rs[n]'hnr) := fun i j wx => by
      refine (Tryz.strings_IndexByte _ _ _).mono ?_
      rintro e w2 ⟨rfl, rfl⟩
      rw [hback, Hc.out]
      exact ⟨rfl, rfl⟩
    have hwr : IntKind.i64.wrap ((n : Int) + 1) = (n : Int) + 1 := wrap_small _ (by omega) (by omega)
    have hle : (n : Int) + 1 ≤ 7 := by omega
    have hle0 : (0 : Int) ≤ (n : Int) + 1 := by omega
    clear e1 e2 e3 hcv hn
    go_loopg [9, 10, 11, 12] 0 (fun g v9 v10 v11 v12 wx => v9 = .int .i64 (n : Int) ∧ v10 = .int .i64 0 ∧ wx = w1)
    case atStart => exact ⟨rfl, rfl, rfl⟩
    case round =>
      obtain ⟨rfl, rfl, rfl⟩ := hrel
      go_wp2_with fail
      go_step3
      go_wp2_with fail
      go_quiet (fail)
      go_wp2_with fail
      go_quiet (first | (go_at_call 55; exact Calls.mono (Hc2 _ _ _) (fun _ _ h => ⟨h.1, _, h.2⟩)))
      go_wp2
      rw [Exit.noGoto_ret, inBlock_ret, then_ret, inBlock_ret, then_ret, Exit.noGoto_ret, inBlock_ret]
      go_ret
      exact ⟨rfl, below_drewN (Below.refl _ _) _⟩

/-- A rune takes up bytes from 128 on alone, where its first is one. -/
theorem decode_span (s : ByteArray) (i : Nat) (h : i < s.size) (ha : 128 ≤ (s[i]'h).toNat) : ∀ j, j < (Utf8.decode s i).2 → ∃ hj : i + j < s.size, 128 ≤ (s[i + j]'hj).toNat := by
  have hg : ∀ k (hk : i + k < s.size), (s.get! (i + k)).toNat / 64 = 2 → 128 ≤ (s[i + k]'hk).toNat := fun k hk h2 => by
    have e : s.get! (i + k) = s[i + k]'hk := by simp [ByteArray.get!, getElem!_pos, hk]; rfl
    rw [e] at h2; omega
  have h0 : ∃ hj : i + 0 < s.size, 128 ≤ (s[i + 0]'hj).toNat := ⟨h, ha⟩
  have hn : ¬ (s[i]'h).toNat < 128 := by omega
  intro j hj
  have hc : ∀ k, (decide (i + k < s.size) && (s.get! (i + k)).toNat / 64 == 2) = true → ∃ hj : i + k < s.size, 128 ≤ (s[i + k]'hj).toNat := fun k hk => by
    simp only [Bool.and_eq_true, decide_eq_true_eq, beq_iff_eq] at hk
    exact ⟨hk.1, hg k hk.1 hk.2⟩
  simp only [Utf8.decode, get_at s i h, hn, if_false] at hj
  split at hj
  · rename_i hx
    simp only [Bool.and_eq_true] at hx
    have c1 := hc 1 (by simpa using hx.2)
    split at hj <;> (simp only at hj; rcases j with _ | _ | j; exact h0; exact c1; omega)
  · split at hj
    · rename_i hx
      simp only [Bool.and_eq_true] at hx
      have c1 := hc 1 (by simpa using hx.1.2)
      have c2 := hc 2 (by simpa using hx.2)
      split at hj <;> (simp only at hj; rcases j with _ | _ | _ | j; exact h0; exact c1; exact c2; omega)
    · split at hj
      · rename_i hx
        simp only [Bool.and_eq_true] at hx
        have c1 := hc 1 (by simpa using hx.1.1.2)
        have c2 := hc 2 (by simpa using hx.1.2)
        have c3 := hc 3 (by simpa using hx.2)
        split at hj <;> (simp only at hj; rcases j with _ | _ | _ | _ | j; exact h0; exact c1; exact c2; exact c3; omega)
      · simp only at hj; rcases j with _ | j; exact h0; omega

end Go.Proofs.YtmnnojekcloblaaGreatDoor

namespace Go.Proofs.YtmnnojekcloblaaGreatDoor
open Go.RowKit Go.Lib

theorem acts_not (x : UInt8) (h : 128 ≤ x.toNat) : (toL actsB).contains x = false := by
  have : ∀ b ∈ toL actsB, b.toNat < 128 := acts_low
  cases hc : (toL actsB).contains x
  · rfl
  · have := this x (by simpa using hc); omega

theorem NoAny_skip {s : ByteArray} {i d : Nat} (h : Lib.NoAny (toL s) (toL actsB) i) (hd : ∀ j, j < d → ∃ hj : i + j < s.size, 128 ≤ (s[i + j]'hj).toNat) : Lib.NoAny (toL s) (toL actsB) (i + d) := by
  intro j b hj hb
  by_cases h1 : j < i
  · exact h j b h1 hb
  · obtain ⟨hj', h2⟩ := hd (j - i) (by omega)
    have e : i + (j - i) = j := by omega
    simp only [e] at hj' h2
    have e2 : (toL s)[j]? = some (s[j]'hj') := Lib.data_getElem? s j hj'
    rw [e2] at hb
    cases hb
    exact acts_not _ h2

set_option maxHeartbeats 4000000 in
set_option maxRecDepth 100000 in
theorem IndexAny_short (s : ByteArray) (w : World) (h8 : s.size ≤ 8) :
    Calls Tryz.prog 54 #[.string s, .string actsB] w fun e w' => e = .returned (.int .i64 (Lib.indexAny (toL s) (toL actsB))) ∧ Below w.heap.size w w' := by
  have hsz : actsB.size = 7 := rfl
  have hemp : actsB.toList.isEmpty = false := by rw [toList_eq]; rfl
  have h8z : decide ((8 : Int) < (s.size : Int)) = false := decide_eq_false (by omega)
  have Hr : Hid (∀ (r : Int) (wx : World), 128 ≤ r → r ≤ 2147483647 → Calls Tryz.prog 88 #[.string actsB, .int .i32 r] wx fun e w' => e = .returned (.int .i64 (-1)) ∧ Below wx.heap.size wx w') := fun r wx h1 h2 => IndexRune_high r wx h1 h2
  have Hs : Hid (∀ {i d : Nat}, Lib.NoAny (toL s) (toL actsB) i → (∀ j, j < d → ∃ hj : i + j < s.size, 128 ≤ (s[i + j]'hj).toNat) → Lib.NoAny (toL s) (toL actsB) (i + d)) := fun h hd => NoAny_skip h hd
  generalize actsB = ch at *
  go_enter Tryz.func54, Tryz.ntmps54
  go_wp2_with (go_at_call 89; refine (Tryz.strings_shouldUseASCIISet _ _).mono ?_; rintro e w' ⟨rfl, hw⟩; rw [hw, h8z])
  go_loopg [9, 10] s.size (fun g _ _ wx => ∃ i : Nat, i + g = s.size ∧ wx.heap[w.heap.size]? = some (.stringIter s i) ∧ Below w.heap.size w wx ∧ Lib.NoAny (toL s) (toL ch) i)
  case atStart => exact ⟨0, by omega, World.iter_heap _ _ _, iter_below _ _ _, Lib.NoAny.zero _ _⟩
  case round =>
    obtain ⟨i, hig, hit, hbl, hno⟩ := hrel
    have HN : Hid (Lib.NoAny (toL s) (toL ch) i) := hno
    have HB : Hid (Below w.heap.size w wr) := hbl
    have Hit : Hid (wr.heap[w.heap.size]? = some (.stringIter s i)) := hit
    clear hno hbl
    by_cases hi : i < s.size
    · by_cases hx : (s[i]'hi).toNat < 128
      · have hnx := fun ty => run_next_ascii_at (P := Tryz.prog) wr w.heap.size s i ty hit hi hx
        have Hx : Hid ((toL s)[i]? = some (s[i]'hi)) := Lib.data_getElem? s i hi
        clear hit
        generalize (s[i]'hi) = x at *
        have hcon : (toL ch).contains x = decide (0 ≤ Lib.indexByte ch.data.toList x) := Lib.contains_iff_indexByte ch.data.toList x
        have hback : ((x.toNat : Int)).toNat.toUInt8 = x := by simp
        have HW : Hid ((wr.iterAt w.heap.size s (i + 1)).heap[w.heap.size]? = some (.stringIter s (i + 1)) ∧ Below w.heap.size w (wr.iterAt w.heap.size s (i + 1))) := ⟨iterAt_heap _ _ _ _ _ Hit.out, below_iterAt HB.out (Nat.le_refl _) _ _⟩
        cases hin : (toL ch).contains x
        · rw [hin] at hcon
          have hlt : ¬ ((0 : Int) ≤ Lib.indexByte ch.data.toList x) := of_decide_eq_false hcon.symm
          clear hcon
          go_wp2_with (go_at_call 88; refine (Tryz.strings_IndexRune_ascii _ _ _ (by omega) (by omega)).mono ?_; rintro e w' ⟨rfl, hw⟩; rw [hw, hback])
          go_roundg (s.size - (i + 1))
          case measure => omega
          case rel => exact ⟨i + 1, by omega, HW.out.1, HW.out.2, HN.out.succ Hx.out hin⟩
        · rw [hin] at hcon
          have hge : (0 : Int) ≤ Lib.indexByte ch.data.toList x := of_decide_eq_true hcon.symm
          clear hcon
          go_wp2_with (go_at_call 88; refine (Tryz.strings_IndexRune_ascii _ _ _ (by omega) (by omega)).mono ?_; rintro e w' ⟨rfl, hw⟩; rw [hw, hback])
          go_ret
          exact ⟨by rw [Lib.indexAny_hit HN.out Hx.out hin]; rfl, HW.out.2⟩
      · have hnx := fun ty => run_next_any_at (P := Tryz.prog) wr w.heap.size s i ty hit hi
        have hhi := decode_high s i hi (by omega)
        have hle := decode_le s i
        have Hsp : Hid (_) := decode_span s i hi (by omega)
        clear hit
        have Hd : Hid (i + (Utf8.decode s i).2 ≤ s.size) := by
          obtain ⟨hj, _⟩ := Hsp.out ((Utf8.decode s i).2 - 1) (by omega)
          unfold Hid; omega
        generalize Utf8.decode s i = rd at *
        obtain ⟨r, d⟩ := rd
        simp only at *
        have hb1 : Hid (Below w.heap.size w (wr.iterAt w.heap.size s (i + d))) := below_iterAt HB.out (Nat.le_refl _) _ _
        have hi1 : Hid ((wr.iterAt w.heap.size s (i + d)).heap[w.heap.size]? = some (.stringIter s (i + d))) := iterAt_heap _ _ _ _ _ Hit.out
        generalize wr.iterAt w.heap.size s (i + d) = w2 at *
        go_wp2_with (go_at_call 88; refine (Hr.out _ _ (by omega) (by omega)).mono ?_; rintro e w' ⟨rfl, hb⟩)
        go_roundg (s.size - (i + d))
        case measure => omega
        case rel =>
          have hlt2 : w.heap.size < w2.heap.size := (Array.getElem?_eq_some_iff.1 hi1.out).1
          refine ⟨i + d, ?_, ?_, ?_, Hs.out HN.out Hsp.out⟩
          · have := Hd.out; omega
          · exact (hb.block _ hlt2).trans hi1.out
          · exact hb1.out.trans (hb.mono (by omega))
    · have he : i = s.size := by omega
      have hnx := fun ty => run_next_end_at (P := Tryz.prog) wr w.heap.size s i ty hit hi
      clear hit
      go_wp2
      go_ret
      exact ⟨by rw [Lib.indexAny_none (by rw [toL_length, ← he]; exact HN.out)]; rfl, HB.out⟩
end Go.Proofs.YtmnnojekcloblaaGreatDoor

namespace Go.Proofs.YtmnnojekcloblaaGreatDoor
open Go.RowKit Go.Lib

theorem IndexAny_any (s : ByteArray) (w : World) (hs : s.size ≤ 1048576) :
    Calls Tryz.prog 54 #[.string s, .string actsB] w fun e w' => e = .returned (.int .i64 (Lib.indexAny (toL s) (toL actsB))) ∧ Below w.heap.size w w' := by
  by_cases h8 : s.size ≤ 8
  · exact IndexAny_short s w h8
  · have hsz : actsB.size = 7 := rfl
    have h116 : (Tryz.prog.info? 154).map (fun i => (i.zero, i.size)) = some (some (.agg (Array.replicate 256 (.bool false))), 256) := by kernel_rfl
    refine Calls.mono (Tryz.strings_IndexAny_long ?_ s actsB w (by omega) (by omega) (by omega) (by omega) ?_) ?_
    · exact (zero_of_info h116).1
    · intro j b hj
      exact acts_low b (List.mem_of_getElem? hj)
    · rintro e w' ⟨rfl, rfl⟩
      exact ⟨rfl, ((Below.refl _ w).alloc (Nat.le_refl _) _).alloc (by simp) _⟩

theorem isAct_acts (c : UInt8) : Thk.isAct c = (toL actsB).contains c := by
  have e : toL actsB = [43, 45, 94, 95, 61, 62, 33] := rfl
  rw [e, Bool.eq_iff_iff]
  simp only [Thk.isAct, List.contains_cons, List.contains_nil, Bool.or_eq_true, beq_iff_eq, ← UInt8.toNat_inj, Bool.or_false]
  simp
  omega

theorem indexAny_acts (l : Thk.Bs) : (l.findIdx Thk.isAct = l.length ∧ Lib.indexAny l (toL actsB) = -1) ∨ (∃ h : l.findIdx Thk.isAct < l.length, Lib.indexAny l (toL actsB) = (l.findIdx Thk.isAct : Int) ∧ Thk.isAct (l[l.findIdx Thk.isAct]'h) = true) := by
  rcases Nat.lt_or_ge (l.findIdx Thk.isAct) l.length with h | h
  · right
    have ha : Thk.isAct (l[l.findIdx Thk.isAct]'h) = true := List.findIdx_getElem (w := h)
    refine ⟨h, ?_, ha⟩
    refine Lib.indexAny_hit (x := l[l.findIdx Thk.isAct]'h) ?_ (List.getElem?_eq_getElem h) (by rw [← isAct_acts]; exact ha)
    intro j b hj hb
    have hjl : j < l.length := by omega
    rw [List.getElem?_eq_getElem hjl] at hb
    cases hb
    rw [← isAct_acts]
    exact List.not_of_lt_findIdx hj
  · left
    have he : l.findIdx Thk.isAct = l.length := Nat.le_antisymm List.findIdx_le_length h
    refine ⟨he, Lib.indexAny_none ?_⟩
    intro j b hj hb
    rw [List.getElem?_eq_getElem hj] at hb
    cases hb
    rw [← isAct_acts]
    exact List.not_of_lt_findIdx (he ▸ hj)

/-- A change as the program keeps it. -/
def chV (c : Thk.Ch) : Value := .agg #[.string ⟨c.path.toArray⟩, .int .u8 (c.act.toNat : Int), .string (keptVal c.act ⟨c.val.toArray⟩), .int .i64 c.n]
def noCh : Value := .agg #[.string ⟨#[]⟩, .int .u8 0, .string ⟨#[]⟩, .int .i64 0]
def readV : Nat ⊕ Thk.Ch → Value
  | .inl m => .tuple #[noCh, .int .i64 (m : Int)]
  | .inr c => .tuple #[chV c, .int .i64 0]
theorem mk_toL (s : ByteArray) : (⟨(toL s).toArray⟩ : ByteArray) = s := by
  show (⟨s.data.toList.toArray⟩ : ByteArray) = s
  rw [Array.toArray_toList]
end Go.Proofs.YtmnnojekcloblaaGreatDoor

namespace Go.Proofs.YtmnnojekcloblaaGreatDoor
open Go.RowKit


/-- P4: what Do answers, and what is there behind it. -/
def DoOut (es : List Ev) (knowns : List (List Bool)) (i : Int) (s : Thk.Bs) (r : Int) (es' : List Ev) (kn' : List (List Bool)) : Prop :=
  (¬ (0 ≤ i ∧ i < knowns.length) ∧ r = 2 ∧ es' = es ∧ kn' = knowns) ∨
  (∃ k : Nat, (0 ≤ i ∧ i < knowns.length) ∧ Thk.read s = .inl k ∧ r = (k : Int) ∧ es' = es ∧ kn' = knowns) ∨
  (∃ c : Thk.Ch, (0 ≤ i ∧ i < knowns.length) ∧ Thk.read s = .inr c ∧ 500 ≤ es.length ∧ r = 7 ∧ es' = es ∧ kn' = knowns) ∨
  ∃ (c : Thk.Ch) (e : Ev), (0 ≤ i ∧ i < knowns.length) ∧ Thk.read s = .inr c ∧ es.length < 500 ∧ toL e.p = c.path ∧ e.a = c.act ∧ toL e.v = c.val ∧ e.n = c.n ∧ e.saw = knowns.getD i.toNat [] ∧
    r = 0 ∧ es' = es ++ [e] ∧ kn' = knowns.set i.toNat (moreOf (knowns.getD i.toNat []) es.length)
section
variable {es : List Ev} {knowns : List (List Bool)} {i : Int} {s : Thk.Bs}
theorem DoOut.rep (h : ¬ (0 ≤ i ∧ i < knowns.length)) : DoOut es knowns i s 2 es knowns := Or.inl ⟨h, rfl, rfl, rfl⟩
theorem DoOut.bad (k : Nat) (h : 0 ≤ i ∧ i < knowns.length) (hr : Thk.read s = .inl k) : DoOut es knowns i s k es knowns := Or.inr (Or.inl ⟨k, h, hr, rfl, rfl, rfl⟩)
theorem DoOut.full (c : Thk.Ch) (h : 0 ≤ i ∧ i < knowns.length) (hr : Thk.read s = .inr c) (hl : 500 ≤ es.length) : DoOut es knowns i s 7 es knowns := Or.inr (Or.inr (Or.inl ⟨c, h, hr, hl, rfl, rfl, rfl⟩))
theorem DoOut.done (c : Thk.Ch) (e : Ev) (h : 0 ≤ i ∧ i < knowns.length) (hr : Thk.read s = .inr c) (hl : es.length < 500) (h1 : toL e.p = c.path) (h2 : e.a = c.act) (h3 : toL e.v = c.val) (h4 : e.n = c.n) (h5 : e.saw = knowns.getD i.toNat []) :
    DoOut es knowns i s 0 (es ++ [e]) (knowns.set i.toNat (moreOf (knowns.getD i.toNat []) es.length)) := Or.inr (Or.inr (Or.inr ⟨c, e, h, hr, hl, h1, h2, h3, h4, h5, rfl, rfl, rfl⟩))
end

set_option maxHeartbeats 4000000 in
set_option maxRecDepth 100000 in
theorem RefDo_any (w : World) (c rb : Nat) (evv : Value) (room : Nat) (es : List Ev) (knowns : List (List Bool)) (h : RefAt w c rb evv room es es.length es.length knowns) (i : Int) (s : ByteArray) (hs : s.size ≤ 1048576) :
    Calls Tryz.prog 43 #[.pointer (some ⟨c, 0, none⟩), .int .i64 i, .string s] w fun e w' =>
      ∃ (r : Int) (evv' : Value) (es' : List Ev) (knowns' : List (List Bool)), e = .returned (.int .i64 r) ∧ DoOut es knowns i (toL s) r es' knowns' ∧ RefAt w' c rb evv' room es' es'.length es'.length knowns' ∧
        Chg (fun x => x = c ∨ x = rb ∨ evv.ownBlock = some x) w w' ∧ (evv'.ownBlock = evv.ownBlock ∨ ∃ g, evv'.ownBlock = some g ∧ w.heap.size ≤ g) := by
  have H : Hid (RefAt w c rb evv room es es.length es.length knowns) := h
  clear h
  by_cases hi : 0 ≤ i ∧ i < knowns.length
  · obtain ⟨k, rfl⟩ := Int.eq_ofNat_of_zero_le hi.1
    have hk : k < knowns.length := by omega
    go_enter Tryz.func43, Tryz.ntmps43
    go_wp2_with fail
    refine (Up_any w c rb evv room es _ _ knowns H.out (k : Int)).mono ?_
    rintro e w1 ⟨rfl, hw1⟩
    subst hw1
    rw [if_pos hi]
    go_wp2_with fail
    refine (Read_any s _ hs).mono ?_
    rintro e w2 ⟨he, hb2⟩
    have H2 : Hid (RefAt w2 c rb evv room es es.length es.length knowns) := H.out.below hb2
    cases hr : Thk.read (toL s) with
    | inl m =>
      rw [hr] at he
      have he' : e = .returned (.tuple #[zeroEv, .int .i64 (m : Int)]) := he
      subst he'
      have hm0 : Hid (0 < m ∧ m ≤ 6) := Thk.read_err _ _ hr
      have hm1 := hm0.out.1
      have hm2 := hm0.out.2
      have hmb : ((m : Int) != 0) = true := by rw [bne_iff_ne]; omega
      have Hr : Hid (_) := hr
      clear hr he
      go_wp2
      go_ret
      refine ⟨m, evv, es, knowns, rfl, .bad m hi Hr.out, ?_, ?_, Or.inl rfl⟩
      · exact H2.out.below ((Below.refl _ _).alloc (Nat.le_refl _) _)
      · exact Chg.of_below (hb2.trans (((Below.refl _ _).alloc (Nat.le_refl _) _).mono hb2.size))
    | inr ch =>
      rw [hr] at he
      obtain ⟨p, v, rfl, hp, hv⟩ := he
      have Hr : Hid (_) := hr
      have Hok : Hid (_) := Thk.read_ok _ _ hr
      have Hp : Hid (_) := hp
      have Hv : Hid (_) := hv
      clear hr hp hv
      have f3 := H2.out.f3
      obtain ⟨cap, f1, hcap⟩ := H2.out.f1
      have hn5 := H2.out.n500
      have h6 := H2.out.n6
      have hcl := H2.out.tc.lt
      have hrl := H2.out.trb.lt
      have f3A : ∀ o, (w2.alloc o).cell? ⟨c, 3, none⟩ = some (.int .i64 (es.length : Int)) := fun o => (((Below.refl _ w2).alloc (Nat.le_refl _) o).cell (p := ⟨c, 3, none⟩) hcl).trans f3
      have f1A : ∀ o, (w2.alloc o).cell? ⟨c, 1, none⟩ = some (.slice (some ⟨rb, 0, none⟩) knowns.length cap) := fun o => (((Below.refl _ w2).alloc (Nat.le_refl _) o).cell (p := ⟨c, 1, none⟩) hcl).trans f1
      by_cases hfull : 500 ≤ es.length
      · go_wp2
        go_ret
        refine ⟨7, evv, es, knowns, rfl, .full ch hi Hr.out hfull, ?_, ?_, Or.inl rfl⟩
        · exact H2.out.below ((Below.refl _ _).alloc (Nat.le_refl _) _)
        · exact Chg.of_below (hb2.trans (((Below.refl _ _).alloc (Nat.le_refl _) _).mono hb2.size))
      · go_upto_region 10 with fail
        have hb3 : Hid (Below w2.heap.size w2 (w2.alloc (.cells #[.string p, .int .u8 (ch.act.toNat : Int), .string v, .int .i64 ch.n, .slice none 0 0] 140))) := (Below.refl _ _).alloc (Nat.le_refl _) _
        have H3 : Hid (RefAt (w2.alloc (.cells #[.string p, .int .u8 (ch.act.toNat : Int), .string v, .int .i64 ch.n, .slice none 0 0] 140)) c rb evv room es es.length es.length knowns) := H2.out.below hb3.out
        have hE : Hid (Blk5 w2.heap.size (.string p) (.int .u8 (ch.act.toNat : Int)) (.string v) (.int .i64 ch.n) (.slice none 0 0) (w2.alloc (.cells #[.string p, .int .u8 (ch.act.toNat : Int), .string v, .int .i64 ch.n, .slice none 0 0] 140))) := blk5 (Below.refl (w2.heap.size + 1) _) (by omega)
        have hTe : Hid (Tagged (w2.alloc (.cells #[.string p, .int .u8 (ch.act.toNat : Int), .string v, .int .i64 ch.n, .slice none 0 0] 140)) w2.heap.size 140) := ⟨_, heap_alloc_new w2 _⟩
        have hlt3 : w2.heap.size < (w2.alloc (.cells #[.string p, .int .u8 (ch.act.toNat : Int), .string v, .int .i64 ch.n, .slice none 0 0] 140)).heap.size := by simp
        have hw23 : Hid (Chg (fun x => x = c ∨ x = rb ∨ evv.ownBlock = some x) w1 (w2.alloc (.cells #[.string p, .int .u8 (ch.act.toNat : Int), .string v, .int .i64 ch.n, .slice none 0 0] 140))) := Chg.of_below (hb2.trans (hb3.out.mono hb2.size))
        have hevlt : Hid (∀ g, evv.ownBlock = some g → g < w2.heap.size) := fun g hg => (H2.out.evLt g hg).1
        have hw1s : Hid (w1.heap.size ≤ (w2.alloc (.cells #[.string p, .int .u8 (ch.act.toNat : Int), .string v, .int .i64 ch.n, .slice none 0 0] 140)).heap.size) := hw23.out.size
        have hw1e : Hid (w1.heap.size ≤ w2.heap.size) := hb2.size
        clear f3 f1 f3A f1A hcl hrl H2 hb3 hb2
        generalize w2.alloc (.cells #[.string p, .int .u8 (ch.act.toNat : Int), .string v, .int .i64 ch.n, .slice none 0 0] 140) = W3 at *
        generalize w2.heap.size = e0 at *
        obtain ⟨⟨kv, a0, b0⟩, _⟩ := H3.out.reps k hk
        have Hkn : Hid (knowns.getD k [] = knowns[k]) := by unfold Hid; simp [List.getElem?_eq_getElem hk]
        have hkl := H3.out.kn _ (List.getElem_mem hk)
        generalize hkn : knowns[k] = kn at *
        obtain ⟨i4, hi4, hz40, hz41, hz42⟩ := info_parts Tryz.info4
        have hbl : (bools kn).length = kn.length := by simp [bools]
        have hfz := hE.out.f
        have hrl3 := H3.out.trb.lt
        have hcl3 := H3.out.tc.lt
        have a0A : ∀ o, (W3.alloc o).cell? ⟨rb, k * 13, none⟩ = some kv := fun o => (((Below.refl _ W3).alloc (Nat.le_refl _) o).cell (p := ⟨rb, k * 13, none⟩) hrl3).trans a0
        have e4A : ∀ o, (W3.alloc o).cell? ⟨e0, 4, none⟩ = some (.slice none 0 0) := fun o => (((Below.refl _ W3).alloc (Nat.le_refl _) o).cell (p := ⟨e0, 4, none⟩) hlt3).trans hE.out.c4
        have fzA : ∀ o j, (W3.alloc o).frozen? ⟨e0, j, none⟩ = false := fun o j => (((Below.refl _ W3).alloc (Nat.le_refl _) o).frozen (p := ⟨e0, j, none⟩) hlt3).trans (hfz j)
        go_cut [] from 37 to 43 (fun wx => ∃ so sc, Blk5 e0 (.string p) (.int .u8 (ch.act.toNat : Int)) (.string v) (.int .i64 ch.n) (.slice so kn.length sc) wx ∧ Chg (fun x => x = e0) W3 wx ∧ SliceT 4 wx (.slice so kn.length sc) (bools kn))
        case first =>
          rcases b0 with ⟨rfl, hnil⟩ | ⟨pb, po, pc, rfl, hpc, hpt, hpcells⟩
          · have hkn0 : kn = [] := by simpa [bools] using hnil
            subst hkn0
            have e4 := hE.out.c4
            go_wp2_with (at_builtin; refine wpList_append_own_none rfl (.tmp 37) (.tmp 41) 80 rfl W3.heap.size 4 i4 1 Tryz.underlying80 hi4 (.slice (some ⟨_, 0, none⟩) 0 0) 0 [] rfl (own_lit0 _ _ rfl (Nat.le_refl _)) rfl ?_)
            go_meet
            rw [← World.setCell_alloc_past _ e0 4 _ hlt3]
            have hbA : Below W3.heap.size W3 (W3.alloc (.cells #[] 4)) := (Below.refl _ _).alloc (Nat.le_refl _) _
            obtain ⟨z1, z2⟩ := setA hE.out hTe.out hbA (.slice (some ⟨W3.heap.size, 0, none⟩) 0 0)
            exact ⟨_, _, z1, z2, SliceT.chgT (s := 140) (own_sliceT (own_lit0 (e := 4) (base := 0) W3 _ rfl (Nat.zero_le _))) ((Chg.refl (fun x => x = e0) _).setCell (p := ⟨e0, 4, none⟩) rfl _) (hTe.out.below hbA) (by decide)⟩
          · have hsrc : Hid (∀ wx, Below W3.heap.size W3 wx → ∀ j u, (bools kn)[j]? = some u → wx.cell? ((⟨pb, po, none⟩ : Addr).add j) = some u) := by
              intro wx hwx j u hj
              have hjl : j < (bools kn).length := by
                rcases Nat.lt_or_ge j (bools kn).length with h | h
                · exact h
                · rw [List.getElem?_eq_none h] at hj; cases hj
              have he : (⟨pb, po, none⟩ : Addr).add j = ⟨pb, po + j, none⟩ := by unfold Addr.add; split <;> simp_all
              rw [he, hwx.cell (p := ⟨pb, po + j, none⟩) hpt.lt, hpcells j hjl]
              rw [List.getElem?_eq_getElem hjl] at hj; exact hj
            have hone : Hid (∀ u ∈ bools kn, u.oneCell' = true) := by intro u hu; simp [bools] at hu; rcases hu with ⟨_, rfl⟩ | ⟨_, rfl⟩ <;> rfl
            clear hpcells
            rw [hbl] at *
            go_wp2_with (at_builtin; go_loud (refine wpList_append_own _ rfl (.tmp 37) (.tmp 41) 80 rfl W3.heap.size 4 i4 (.bool false) 1 1 Tryz.underlying80 hi4 hz40 hz41 hz42 rfl (by decide) (.slice (some ⟨_, 0, none⟩) 0 0) 0 [] rfl (own_lit0 _ _ rfl (Nat.le_refl _)) ⟨pb, po, none⟩ kn.length pc (bools kn) rfl (by simp [bools]) (hsrc.out _ ((Below.refl _ _).alloc (Nat.le_refl _) _)) hone.out (by unfold maxLen; omega) (by omega) (by simp) ?_; intro v5 w5 hown5 hg5 _; have hB5 : Below W3.heap.size W3 w5 := ((Below.refl _ _).alloc (Nat.le_refl _) _).grown hg5 (by simp) (fun kk hkk => by simp [Value.ownBlock] at hkk; omega); obtain ⟨so5, sc5, rfl, _⟩ := (own_sliceT hown5).shape; have c45 := (hB5.cell (p := ⟨e0, 4, none⟩) hlt3).trans hE.out.c4; have f45 := fun j => (hB5.frozen (p := ⟨e0, j, none⟩) hlt3).trans (hfz j)))
            go_meet
            have hs5 : SliceT 4 w5 (.slice so5 (bools kn).length sc5) (bools kn) := by have := own_sliceT hown5; simpa using this
            have e : (bools kn).length = kn.length := by simp [bools]
            obtain ⟨z1, z2⟩ := setA hE.out hTe.out hB5 (.slice so5 (bools kn).length sc5)
            have z3 := SliceT.chgT (s := 140) hs5 ((Chg.refl (fun x => x = e0) _).setCell (p := ⟨e0, 4, none⟩) rfl (.slice so5 (bools kn).length sc5)) (hTe.out.below hB5) (by decide)
            rw [e] at z1 z2 z3 ⊢
            exact ⟨so5, sc5, z1, z2, z3⟩
        case rest =>
        obtain ⟨so, sc, hE5, hc5, hs5⟩ := hcut
        have hne0 : ∀ g, evv.ownBlock = some g → g ≠ e0 := fun g hg => Nat.ne_of_lt (hevlt.out g hg)
        have hce : c ≠ e0 := H3.out.tc.ne hTe.out (by decide)
        have hre : rb ≠ e0 := H3.out.trb.ne hTe.out (by decide)
        have H5 : Hid (RefAt wc c rb evv room es es.length es.length knowns) := H3.out.chg hc5 hce hre hne0 (fun b hb => hb.ne hTe.out (by decide)) (fun b hb => hb.ne hTe.out (by decide))
        have hE5s : Hid (Blk5 e0 (.string p) (.int .u8 (ch.act.toNat : Int)) (.string v) (.int .i64 ch.n) (.slice so kn.length sc) wc) := hE5
        have hs5s : Hid (SliceT 4 wc (.slice so kn.length sc) (bools kn)) := hs5
        have hw5 : Hid (Chg (fun x => x = c ∨ x = rb ∨ evv.ownBlock = some x) w1 wc) := hw23.out.trans' hc5 (fun x hx h => by subst h; have := hw1e.out; omega)
        have hw5s : Hid (w1.heap.size ≤ wc.heap.size) := hw5.out.size
        clear hE hTe hlt3 hw23 hw1s H3 a0 b0 hfz hrl3 hcl3 a0A e4A fzA hc5 hs5 hne0 hbl
        generalize wc = W5 at *
        obtain ⟨svs, hsl, hown, hsvs⟩ := H5.out.evs
        have Hsvs : Hid (∀ j (h : j < svs.length) (h' : j < es.length), SliceT 4 W5 svs[j] (bools es[j].saw)) := hsvs
        have Hown : Hid (W5.ownsRow 0 140 5 evv es.length (evCells es svs)) := hown
        have g2 := H5.out.f2
        obtain ⟨d0, d1, d2, d3, d4, df⟩ := hE5
        have htc := H5.out.tc
        have hcf := htc.frozen
        have hcl5 := htc.lt
        have Hcdisj : Hid (∀ x, evv.ownBlock = some x → x ≠ c) := fun x hx => (H5.out.evLt x hx).2.ne htc (by decide)
        obtain ⟨iE, hiE, hzE0, hzE1, hzE2⟩ := info_parts Tryz.infoEv
        have hone5 : Hid (∀ u ∈ [Value.string p, .int .u8 (ch.act.toNat : Int), .string v, .int .i64 ch.n, .slice so kn.length sc], u.oneCell' = true) := by
          intro u hu; simp at hu; rcases hu with rfl | rfl | rfl | rfl | rfl <;> rfl
        have m1 : Hid (es.length + 1 ≤ maxLen) := by unfold Hid maxLen; omega
        have m2 : Hid ((es.length + 1) * 72 ≤ 140737488355328) := by unfold Hid; omega
        clear hsvs hown htc
        go_wp2_with fail
        go_cut [] from 44 to 53 (fun wx => ∃ w6 evv', wx = w6.setCell ⟨c, 2, none⟩ evv' ∧ Chg (fun x => evv.ownBlock = some x) W5 w6 ∧ w6.ownsRow 0 140 5 evv' (es.length + 1) (evCells es svs ++ [.string p, .int .u8 (ch.act.toNat : Int), .string v, .int .i64 ch.n, .slice so kn.length sc]) ∧ (evv'.ownBlock = evv.ownBlock ∨ ∃ g, evv'.ownBlock = some g ∧ W5.heap.size ≤ g))
        case first =>
          go_region_law (refine step_append_row rfl (.tmp 48) (.tmp 50) 85 rfl 140 iE zeroEv 5 72 Tryz.underlying85 hiE hzE0 hzE1 hzE2 rfl (by decide) evv es.length (evCells es svs) rfl ?_ _ 1 1 [.string p, .int .u8 (ch.act.toNat : Int), .string v, .int .i64 ch.n, .slice so kn.length sc] rfl rfl ?_ hone5.out m1.out m2.out (Nat.succ_pos _) ?_; (exact Hown.out.alloc _); (intro j u hj; match j, hj with | 0, hj => (cases hj; simp [Addr.add]) | 1, hj => (cases hj; simp [Addr.add]) | 2, hj => (cases hj; simp [Addr.add]) | 3, hj => (cases hj; simp [Addr.add]) | 4, hj => (cases hj; simp [Addr.add])); intro g6 c6 w6 hown6 hg6 hnew6; have hC6 : Chg (fun x => evv.ownBlock = some x) W5 w6 := Chg.grown (Chg.of_below (by go_grown)) hg6 (fun k hk => Or.inl hk); have k2 := (World.cell?_of_block (w := W5) (a := ⟨c, 2, none⟩) (hC6.block c hcl5 (fun h => Hcdisj.out c h rfl))).trans g2; have kf : ∀ j, w6.frozen? ⟨c, j, none⟩ = false := fun j => (World.frozen?_of_block (w := W5) (a := ⟨c, j, none⟩) (hC6.block c hcl5 (fun h => Hcdisj.out c h rfl))).trans (hcf j))
          all_goals
            go_wp2_with fail
            go_meet
            refine ⟨_, _, rfl, hC6, hown6, ?_⟩
            rcases hnew6 with h | h
            · exact Or.inl h.symm
            · refine Or.inr ⟨g6, rfl, ?_⟩
              simp at h; omega
        case rest =>
        obtain ⟨w6, evv', rfl, hC6, hown6, hnew⟩ := hcut
        obtain ⟨g6, c6, rfl⟩ := own_some hown6 (by omega)
        have hok : EvOk ⟨p, ch.act, v, ch.n, kn⟩ := by
          have ho := Hok.out
          have h1 : p.size = ch.path.length := by rw [← toL_length, Hp.out]
          have h2 : v.size = ch.val.length := by rw [← toL_length, Hv.out]
          exact ⟨by simp only []; omega, by simp only []; omega, ho.2.2.1, ho.2.2.2.1, by simp only []; omega⟩
        have H7 : Hid (RefAt (w6.setCell ⟨c, 2, none⟩ (.slice (some ⟨g6, 0, none⟩) (es.length + 1) c6)) c rb (.slice (some ⟨g6, 0, none⟩) (es.length + 1) c6) room (es ++ [⟨p, ch.act, v, ch.n, kn⟩]) es.length es.length knowns) := H5.out.more hC6 ⟨p, ch.act, v, ch.n, kn⟩ hok (.slice so kn.length sc) hs5s.out svs hsl Hsvs.out (by omega) hown6
        have hw7 : Hid (Chg (fun x => x = c ∨ x = rb ∨ evv.ownBlock = some x) w1 (w6.setCell ⟨c, 2, none⟩ (.slice (some ⟨g6, 0, none⟩) (es.length + 1) c6))) := (hw5.out.trans' hC6 (fun x _ hx => Or.inr (Or.inr hx))).setCell (p := ⟨c, 2, none⟩) (Or.inl rfl) _
        have hnew7 : Hid ((Value.slice (some ⟨g6, 0, none⟩) (es.length + 1) c6).ownBlock = evv.ownBlock ∨ ∃ g, (Value.slice (some ⟨g6, 0, none⟩) (es.length + 1) c6).ownBlock = some g ∧ w1.heap.size ≤ g) := by
          rcases hnew with h | ⟨g, h1, h2⟩
          · exact Or.inl h
          · exact Or.inr ⟨g, h1, Nat.le_trans hw5s.out h2⟩
        clear hC6 hown6 hnew hok H5 hE5s hs5s hw5 hw5s Hsvs Hown g2 d0 d1 d2 d3 d4 df hcf hcl5 Hcdisj hone5 m1 m2 hiE hzE0 hzE1 hzE2
        generalize w6.setCell ⟨c, 2, none⟩ (.slice (some ⟨g6, 0, none⟩) (es.length + 1) c6) = W7 at *
        have q2 := H7.out.f2
        obtain ⟨⟨kv, a0, b0⟩, _⟩ := H7.out.reps k hk
        rw [hkn] at b0
        have hrl := H7.out.trb.lt
        have hcl := H7.out.tc.lt
        have a0B : ∀ wx, Below W7.heap.size W7 wx → wx.cell? ⟨rb, k * 13, none⟩ = some kv := fun wx hx => (hx.cell (p := ⟨rb, k * 13, none⟩) hrl).trans a0
        have HaB : Hid (_) := a0B
        have Hb0 : Hid (SliceT 4 W7 kv (bools kn)) := b0
        obtain ⟨ko, kc, rfl, hkc⟩ := b0.shape
        clear a0B
        have hcsl : (bools kn).length = kn.length := by simp [bools]
        have hsrc : Hid (∀ wx, Below W7.heap.size W7 wx → 0 < (bools kn).length → ∃ ad, ko = some ad ∧ ∀ j u, (bools kn)[j]? = some u → wx.cell? (ad.add j) = some u) := by
          intro wx hwx hpos
          rcases Hb0.out with ⟨h1, h2⟩ | ⟨pb, po, pc, h1, hpc, hpt, hpcells⟩
          · rw [h2] at hpos; simp at hpos
          · simp only [Value.slice.injEq] at h1
            refine ⟨⟨pb, po, none⟩, h1.1, fun j u hj => ?_⟩
            have hjl : j < (bools kn).length := by
              rcases Nat.lt_or_ge j (bools kn).length with h | h
              · exact h
              · rw [List.getElem?_eq_none h] at hj; cases hj
            have he : (⟨pb, po, none⟩ : Addr).add j = ⟨pb, po + j, none⟩ := by unfold Addr.add; split <;> simp_all
            rw [he, hwx.cell (p := ⟨pb, po + j, none⟩) hpt.lt, hpcells j hjl]
            rw [List.getElem?_eq_getElem hjl] at hj; exact hj
        have hone : Hid (∀ u ∈ bools kn, u.oneCell' = true) := by intro u hu; simp [bools] at hu; rcases hu with ⟨_, rfl⟩ | ⟨_, rfl⟩ <;> rfl
        have hmin : Hid ((bools kn).length = Nat.min kn.length (es.length + 1)) := hcsl.trans (Nat.min_eq_left (by omega)).symm
        have hsz4 : Hid ((Tryz.prog.info? 4).map (·.size) = some 1) := by unfold Hid; rw [hi4]; simp [hz41]
        have hb4 : Hid (i4.bytes * (es.length + 1) ≤ 281474976710656) := by unfold Hid; rw [hz42]; omega
        have hm4 : Hid (es.length + 1 ≤ maxLen) := by unfold Hid maxLen; omega
        have hfit : Hid (0 + (bools kn).length ≤ (List.replicate (es.length + 1) (Value.bool false)).length) := by unfold Hid; simp; omega
        go_upto_region 13 with (at_make; (refine wpList_make_full _ rfl (.tmp 58) (.tmp 58) 80 rfl W7.heap.size 4 i4 (.bool false) 1 Tryz.underlying80 hi4 hz40 hz41 .i64 .i64 _ _ (es.length + 1) rfl rfl (by first | rfl | omega) (by first | rfl | omega) hb4.out hm4.out (Nat.le_refl _) ?_; intro w8 hown8 hg8; have hB8 : Below W7.heap.size W7 w8 := (Below.refl _ _).grown hg8 (Nat.le_refl _) (fun kk hkk => by cases hkk); have a08 := HaB.out _ hB8; have hh8 : Hid (w8.heap[W7.heap.size]? = some (.cells (List.replicate (es.length + 1) (Value.bool false)).toArray 4 (0, 0))) := (by have := own_full hown8; rw [made_bool, Nat.mul_one] at this; exact this)))
        go_wp2_with (refine wpList_copy_splice rfl (.tmp 60) (.tmp 64) 80 80 rfl 4 Tryz.underlying80 hsz4.out _ _ _ _ _ _ rfl rfl W7.heap.size 0 (List.replicate (es.length + 1) (Value.bool false)) 4 hh8.out (bools kn) hmin.out (fun hp => ⟨rfl, hsrc.out _ hB8 hp⟩) hfit.out hone.out W7.heap.size W7 hB8 (Nat.le_refl _) ?_; intro w9 hg9 hB9; have hms := more_slice hkl hg9.out; have hc9 := hms.2; have hT9 : Hid (Tagged w9 W7.heap.size 4) := ⟨_, hg9.out⟩; have hf9 := hT9.out.frozen)
        have hB10 : Below W7.heap.size W7 (w9.setCell ⟨W7.heap.size, es.length, none⟩ (.bool true)) := hB9.setCell (p := ⟨W7.heap.size, es.length, none⟩) (Nat.le_refl _) _
        have H10 := H7.out.below hB10
        have HW := write_any _ c rb _ room _ _ _ knowns H10 k hk _ (moreOf kn es.length) hms.1 (by rw [moreOf_length _ _ hkl]; simp) (by omega) true
        have hw10 : Hid (Chg (fun x => x = c ∨ x = rb ∨ evv.ownBlock = some x) w1 (w9.setCell ⟨W7.heap.size, es.length, none⟩ (.bool true))) := hw7.out.below hB10
        clear hms hc9 hf9 hB9 hg9 H10 hh8 hB8 a08 a0 q2 hg8 hown8
        generalize w9.setCell ⟨W7.heap.size, es.length, none⟩ (.bool true) = W10 at *
        refine Calls.mono HW ?_
        clear HW
        rintro e w11 ⟨rfl, H11, hc11⟩
        have r3 := H11.f3
        have rf := H11.tc.frozen
        have hA : Hid (RefAt (w11.setCell ⟨c, 3, none⟩ (.int .i64 ((es.length + 1 : Nat) : Int))) c rb (.slice (some ⟨g6, 0, none⟩) (es.length + 1) c6) room (es ++ [⟨p, ch.act, v, ch.n, kn⟩]) (es.length + 1) (es.length + 1) (knowns.set k (moreOf kn es.length))) := H11.accept (es.length + 1) (by omega)
        have hW11 : Hid (Chg (fun x => x = c ∨ x = rb ∨ evv.ownBlock = some x) w1 w11) := hw10.out.trans' hc11 (fun x _ h => Or.inr (Or.inl h))
        clear hc11 H11 hw10 hB10
        go_wp2
        go_ret
        refine ⟨0, _, es ++ [⟨p, ch.act, v, ch.n, kn⟩], knowns.set k (moreOf kn es.length), rfl, ?_, ?_, ?_, hnew7.out⟩
        · have hd := DoOut.done (es := es) (knowns := knowns) (i := (k : Int)) (s := toL s) ch ⟨p, ch.act, v, ch.n, kn⟩ hi Hr.out (by omega) Hp.out rfl Hv.out rfl (by simp only [Int.toNat_natCast]; exact Hkn.out.symm)
          simp only [Int.toNat_natCast] at hd
          rw [Hkn.out] at hd
          exact hd
        · have h1 : (es ++ [(⟨p, ch.act, v, ch.n, kn⟩ : Ev)]).length = es.length + 1 := by simp
          rw [h1]; exact hA.out
        · exact hW11.out.setCell (p := ⟨c, 3, none⟩) (Or.inl rfl) _
  · go_enter Tryz.func43, Tryz.ntmps43
    go_wp2_with fail
    refine (Up_any w c rb evv room es _ _ knowns H.out i).mono ?_
    rintro e w1 ⟨rfl, hw1⟩
    subst hw1
    rw [if_neg hi]
    go_wp2
    go_ret
    exact ⟨2, evv, es, knowns, rfl, .rep hi, H.out, Chg.refl _ _, Or.inl rfl⟩

end Go.Proofs.YtmnnojekcloblaaGreatDoor

namespace Go.Proofs.YtmnnojekcloblaaGreatDoor
open Go.RowKit Go.Deep

def rcells (av : Value) : List Value := [.slice none 0 0, .bool false, .slice none 0 0, .slice none 0 0, .bool false, .int .i64 0, .int .i64 0, .bool false, .int .i64 0, .int .i64 0, .slice none 0 0, av, .int .i64 0]
def rflat (avs : List Value) : List Value := avs.flatMap rcells
theorem rflat_get : ∀ (avs : List Value) (i : Nat) (h : i < avs.length) (j : Nat), j < 13 → (rflat avs)[i * 13 + j]? = (rcells avs[i])[j]? := by
  intro avs
  induction avs with
  | nil => intro i h; simp at h
  | cons a r ih =>
    intro i h j hj
    have e : rflat (a :: r) = rcells a ++ rflat r := rfl
    have hl : (rcells a).length = 13 := rfl
    rw [e]
    cases i with
    | zero => rw [List.getElem?_append_left (by rw [hl]; omega)]; simp
    | succ i =>
      rw [List.getElem?_append_right (by rw [hl]; omega), hl, show (i + 1) * 13 + j - 13 = i * 13 + j by omega]
      exact ih i (by simpa using h) j hj
theorem rflat_snoc (avs : List Value) (av : Value) : rflat (avs ++ [av]) = rflat avs ++ rcells av := by unfold rflat; simp

theorem Tryz.infoRep : (Tryz.prog.info? 83).map (fun i => (i.zero, i.size, i.bytes)) = some (some (.agg (rcells (.slice none 0 0)).toArray), 13, 184) := by kernel_rfl

theorem Blk5.set1 {b : Nat} {v0 v1 v2 v3 v4 : Value} {w : World} (h : Blk5 b v0 v1 v2 v3 v4 w) (u : Value) (ht : ∀ j, (w.setCell ⟨b, 1, none⟩ u).frozen? ⟨b, j, none⟩ = false) : Blk5 b v0 u v2 v3 v4 (w.setCell ⟨b, 1, none⟩ u) :=
  ⟨(cs_oth (Or.inr (by omega))).trans h.c0, cs_same h.c1, (cs_oth (Or.inr (by omega))).trans h.c2, (cs_oth (Or.inr (by omega))).trans h.c3, (cs_oth (Or.inr (by omega))).trans h.c4, ht⟩

theorem fresh_ref {w : World} {c rb room r cap : Nat} {avs : List Value} (hb : Blk5 c (.int .i64 (room : Int)) (.slice (some ⟨rb, 0, none⟩) r cap) (.slice none 0 0) (.int .i64 0) (.slice none 0 0) w) (ht : Tagged w c 88)
    (base : Nat) (hown : w.ownsRow base 83 13 (.slice (some ⟨rb, 0, none⟩) r cap) r (rflat avs)) (hl : avs.length = r) (hr6 : r ≤ 6) (h50 : room ≤ 50) : RefAt w c rb (.slice none 0 0) room [] 0 0 (List.replicate r []) := by
  have hcells : ∀ i, i < r → ∀ j, j < 13 → w.cell? ⟨rb, i * 13 + j, none⟩ = (rcells (avs.getD i .nilFunc))[j]? := by
    intro i hi j hj
    rw [hown.cellAt _ (by omega), rflat_get avs i (by omega) j hj]
    congr 2
    rw [List.getD_eq_getElem?_getD, List.getElem?_eq_getElem (by omega)]; rfl
  obtain ⟨hx, ⟨h1, _⟩ | ⟨g, cp, cur, hv, _, hh, hcap, _⟩⟩ := hown
  · cases h1
  · simp only [Value.slice.injEq, Option.some.injEq, Addr.mk.injEq, true_and, and_true] at hv
    obtain ⟨rfl, rfl⟩ := hv
    refine ⟨ht, ⟨cur, hh⟩, h50, by simpa using hr6, by simp, hb.c0, ⟨cap, by simpa using hb.c1, by simpa using hcap⟩, hb.c2, by simpa using hb.c3, by omega, by omega, ⟨[], rfl, World.ownsRow_nil _ _ _ _, fun j h => by simp at h⟩, by simp, ?_, ?_⟩
    · intro i hi
      have hi' : i < r := by simpa using hi
      rw [List.getElem_replicate]
      have e0 := hcells i hi' 0 (by omega)
      rw [Nat.add_zero] at e0
      exact ⟨⟨_, e0, Or.inl ⟨rfl, rfl⟩⟩, hcells i hi' 1 (by omega), hcells i hi' 7 (by omega), ⟨0, hcells i hi' 9 (by omega), Nat.le_refl _⟩, ⟨_, [], hcells i hi' 10 (by omega), Or.inl ⟨rfl, rfl⟩, by simp⟩, ⟨0, hcells i hi' 12 (by omega), Nat.le_refl _⟩⟩
    · intro k hk; have := List.eq_of_mem_replicate hk; rw [this]; simp

set_option maxHeartbeats 400000 in
theorem Fresh_bad (r room : Int) (w : World) (h : r < 1 ∨ 6 < r ∨ room < 0 ∨ 50 < room) :
    Calls Tryz.prog 31 #[.int .i64 r, .int .i64 room] w fun e w' => e = .returned (.pointer none) ∧ w' = w := by
  have hd : (decide (r < 1) || decide (6 < r) || decide (room < 0) || decide (50 < room)) = true := by simp; omega
  go_enter Tryz.func31, Tryz.ntmps31
  go_wp2
  all_goals first | (go_ret; exact ⟨rfl, rfl⟩) | (exfalso; omega)

set_option maxHeartbeats 4000000 in
set_option maxRecDepth 100000 in
theorem Fresh_good (r room : Nat) (w : World) (h1 : 1 ≤ r) (h6 : r ≤ 6) (h50 : room ≤ 50) :
    Calls Tryz.prog 31 #[.int .i64 (r : Int), .int .i64 (room : Int)] w fun e w' => ∃ rb, e = .returned (.pointer (some ⟨w.heap.size, 0, none⟩)) ∧ RefAt w' w.heap.size rb (.slice none 0 0) room [] 0 0 (List.replicate r []) ∧ Below w.heap.size w w' ∧ w.heap.size ≤ rb := by
  obtain ⟨iR, hiR, hzR0, hzR1, hzR2⟩ := info_parts Tryz.infoRep
  have hmk : ∀ wx : World, (Instr.makeSlice 81 (.int .i64 (r : Int)) (.int .i64 (r : Int))).run Tryz.prog wx = .ok (.slice (some ⟨wx.heap.size, 0, none⟩) r r) (wx.alloc (.cells (madeCells #[.int .i64 0] r) 3)) := fun wx => run_make_row' 81 3 (.int .i64 0) 8 Tryz.underlying81 Tryz.info3 rfl .i64 .i64 r (by omega) (by omega) wx
  go_enter Tryz.func31, Tryz.ntmps31
  go_wp2
  go_loopw [6] (fun i wr => ∃ (k : Nat) (avs : List Value) (rv : Value), k ≤ r ∧ i = .int .i64 (k : Int) ∧ avs.length = k ∧ Blk5 w.heap.size (.int .i64 (room : Int)) rv (.slice none 0 0) (.int .i64 0) (.slice none 0 0) wr ∧ Tagged wr w.heap.size 88 ∧ wr.ownsRow (w.heap.size + 1) 83 13 rv k (rflat avs) ∧ Below w.heap.size w wr ∧ w.heap.size + 1 ≤ wr.heap.size) (fun i _ => r - (intOf i).toNat)
  case atStart => exact ⟨0, [], .slice none 0 0, by omega, rfl, rfl, blk5 (Below.refl (w.heap.size + 1) _) (by omega), ⟨_, heap_alloc_new w _⟩, World.ownsRow_nil _ _ _ _, (Below.refl _ _).alloc (Nat.le_refl _) _, by simp⟩
  case round =>
    obtain ⟨k, avs, rv, hk, rfl, hal, hB5, hT, hown, hnx, hsz⟩ := hrel
    by_cases hlt : k < r
    · have Hown : Hid (wr.ownsRow (w.heap.size + 1) 83 13 rv k (rflat avs)) := hown
      have HB5 : Hid (Blk5 w.heap.size (.int .i64 (room : Int)) rv (.slice none 0 0) (.int .i64 0) (.slice none 0 0) wr) := hB5
      have HT : Hid (Tagged wr w.heap.size 88) := hT
      have c1 := hB5.c1
      have hwl : w.heap.size < wr.heap.size := by omega
      have c1A : ∀ o, (wr.alloc o).cell? ⟨w.heap.size, 1, none⟩ = some rv := fun o => (((Below.refl _ wr).alloc (Nat.le_refl _) o).cell (p := ⟨w.heap.size, 1, none⟩) hwl).trans c1
      have c1B : ∀ o o', ((wr.alloc o).alloc o').cell? ⟨w.heap.size, 1, none⟩ = some rv := fun o o' => ((((Below.refl wr.heap.size wr).alloc (Nat.le_refl _) o).alloc (by simp) o').cell (p := ⟨w.heap.size, 1, none⟩) hwl).trans c1
      have m1 : Hid (k + 1 ≤ maxLen) := by unfold Hid maxLen; omega
      have m2 : Hid ((k + 1) * 184 ≤ 140737488355328) := by unfold Hid; omega
      have hone : Hid (∀ av : Value, av.oneCell' = true → ∀ u ∈ rcells av, u.oneCell' = true) := by
        intro av hav u hu; simp only [rcells, List.mem_cons, List.mem_nil_iff, or_false] at hu; rcases hu with rfl | rfl | rfl | rfl | rfl | rfl | rfl | rfl | rfl | rfl | rfl | rfl | rfl <;> first | rfl | exact hav
      clear hown hB5 hT
      go_wp2_with fail
      go_region_law (refine step_append_new rfl (.tmp 33) (.tmp 37) 84 rfl (w.heap.size + 1) 83 iR (.agg (rcells (.slice none 0 0)).toArray) 13 184 Tryz.underlying84 hiR hzR0 hzR1 hzR2 rfl (by decide) rv k (rflat avs) rfl ?_ _ 1 1 (rcells (.slice (some ⟨wr.heap.size, 0, none⟩) r r)) rfl rfl ?_ (hone.out _ rfl) m1.out m2.out (Nat.succ_pos _) wr ?_ hsz ?_; (first | exact (Hown.out.alloc _).alloc _ | exact Hown.out.alloc _); (intro j u hj; match j, hj with | 0, hj => (cases hj; simp [Addr.add]) | 1, hj => (cases hj; simp [Addr.add]) | 2, hj => (cases hj; simp [Addr.add]) | 3, hj => (cases hj; simp [Addr.add]) | 4, hj => (cases hj; simp [Addr.add]) | 5, hj => (cases hj; simp [Addr.add]) | 6, hj => (cases hj; simp [Addr.add]) | 7, hj => (cases hj; simp [Addr.add]) | 8, hj => (cases hj; simp [Addr.add]) | 9, hj => (cases hj; simp [Addr.add]) | 10, hj => (cases hj; simp [Addr.add]) | 11, hj => (cases hj; simp [Addr.add]) | 12, hj => (cases hj; simp [Addr.add])); (go_grown); intro g6 c6 w6 hown6 hB6; have k1 := (hB6.cell (p := ⟨w.heap.size, 1, none⟩) (by simp)).trans c1; have kf : ∀ j, w6.frozen? ⟨w.heap.size, j, none⟩ = false := fun j => (hB6.frozen (p := ⟨w.heap.size, j, none⟩) (by simp)).trans (HT.out.frozen j))
      all_goals
        go_wp2
        go_roundw
        case rel =>
          have hT6 : Tagged w6 w.heap.size 88 := by
            obtain ⟨cur, hh⟩ := HT.out
            exact ⟨cur, (hB6.block w.heap.size (by omega)).trans hh⟩
          have hB7 := (HB5.out.below hB6 (by omega)).set1 (.slice (some ⟨g6, 0, none⟩) (k + 1) c6) (fun j => (hT6.setCell _ _).frozen j)
          have hn6 : Below w.heap.size w (w6.setCell ⟨w.heap.size, 1, none⟩ (.slice (some ⟨g6, 0, none⟩) (k + 1) c6)) := (hnx.trans (hB6.mono (by omega))).setCell (p := ⟨w.heap.size, 1, none⟩) (Nat.le_refl _) _
          exact ⟨k + 1, avs ++ [.slice (some ⟨wr.heap.size, 0, none⟩) r r], .slice (some ⟨g6, 0, none⟩) (k + 1) c6, by omega, by go_num, by simp [hal], hB7, hT6.setCell _ _, by rw [rflat_snoc]; exact ownsRow_setCell_below hown6 (by show w.heap.size < w.heap.size + 1; omega) _, hn6, by have := hB6.size; simp; omega⟩
        case measure => simp [intOf]; omega
    · have hkr : k = r := by omega
      subst hkr
      obtain ⟨rb, cap, rfl⟩ := own_some hown (by omega)
      have HF : Hid (_) := fresh_ref hB5 hT _ hown hal h6 h50
      have hrb : w.heap.size ≤ rb := by have := (hown.lt rb rfl).1; omega
      clear hown hB5 hT
      go_wp2
      go_ret
      exact ⟨rb, rfl, HF.out, hnx, hrb⟩

end Go.Proofs.YtmnnojekcloblaaGreatDoor

namespace Go.Proofs.YtmnnojekcloblaaGreatDoor
open Go.RowKit

/-- P5: how many events a replica knows. -/
def knowsR (kn : List (List Bool)) (i : Int) : Int × Int := if 0 ≤ i ∧ i < kn.length then ((cnt (kn.getD i.toNat []) : Int), 0) else (0, 2)

/-- What the law wants of the program's cluster, at calls of kinds 1 to 4: F: a cluster that lies at block x, in the blocks S, and stands for the events and what each replica knows of them. -/
structure ProgOK (F : World → Nat → (Nat → Prop) → List Ev → List (List Bool) → Prop) : Prop where
  bad : ∀ w (r room : Int), Glob w → (r < 1 ∨ 6 < r ∨ room < 0 ∨ 50 < room) →
    Calls Tryz.prog 7 #[.int .i64 r, .int .i64 room] w fun e w' => e = .returned (.tuple #[.pointer none, .int .i64 1]) ∧ Below w.heap.size w w'
  good : ∀ w (r room : Nat), Glob w → 1 ≤ r → r ≤ 6 → room ≤ 50 →
    Calls Tryz.prog 7 #[.int .i64 (r : Int), .int .i64 (room : Int)] w fun e w' => ∃ x S, e = .returned (.tuple #[.pointer (some ⟨x, 0, none⟩), .int .i64 0]) ∧ F w' x S [] (List.replicate r []) ∧ (∀ k, S k → w.heap.size ≤ k) ∧ Below w.heap.size w w'
  does : ∀ w x S es kn i s r es' kn', Glob w → F w x S es kn → s.size ≤ 1048576 → DoOut es kn i (toL s) r es' kn' →
    Calls Tryz.prog 8 #[.pointer (some ⟨x, 0, none⟩), .int .i64 i, .string s] w fun e w' => e = .returned (.int .i64 r) ∧ ∃ S', F w' x S' es' kn' ∧ (∀ k, S' k → S k ∨ w.heap.size ≤ k) ∧ Chg S w w'
  asks : ∀ w x S es kn i s, Glob w → F w x S es kn → s.size ≤ 1048576 →
    Calls Tryz.prog 9 #[.pointer (some ⟨x, 0, none⟩), .int .i64 i, .string s] w fun e w' => ∃ t, e = .returned (.tuple #[.string t, .int .i64 (askR es kn i (toL s)).2]) ∧ toL t = (askR es kn i (toL s)).1 ∧ ∃ S', F w' x S' es kn ∧ (∀ k, S' k → S k ∨ w.heap.size ≤ k) ∧ Chg S w w'
  knows : ∀ w x S es kn i, Glob w → F w x S es kn →
    Calls Tryz.prog 10 #[.pointer (some ⟨x, 0, none⟩), .int .i64 i] w fun e w' => e = .returned (.tuple #[.int .i64 (knowsR kn i).1, .int .i64 (knowsR kn i).2]) ∧ ∃ S', F w' x S' es kn ∧ (∀ k, S' k → S k ∨ w.heap.size ≤ k) ∧ Chg S w w'

theorem chgS_below {B : Nat} {S : Nat → Prop} {a c : World} (h : Chg S a c) (hS : ∀ k, S k → B ≤ k) (hs : B ≤ a.heap.size) : Below B a c :=
  ⟨h.os, h.tape, h.output, h.size, fun k hk => h.block k (by omega) (fun hk2 => by have := hS k hk2; omega)⟩

def hE1 : Ev := ⟨⟨#[115, 120]⟩, 43, ⟨#[97]⟩, 0, []⟩
def hE2 : Ev := ⟨⟨#[115, 120]⟩, 43, ⟨#[98]⟩, 0, [true]⟩
def hE3 : Ev := ⟨⟨#[115, 120]⟩, 45, ⟨#[97]⟩, 0, [true, true]⟩
theorem hd1 : DoOut [] (List.replicate 2 []) 0 (toL ⟨#[115, 120, 43, 97]⟩) 0 [hE1] [[true], []] :=
  DoOut.done (es := []) (knowns := List.replicate 2 []) (i := 0) ⟨[115, 120], 43, [97], 0⟩ hE1 (by decide) (by kernel_rfl) (by decide) rfl rfl rfl rfl rfl
theorem hd2 : DoOut [hE1] [[true], []] 0 (toL ⟨#[115, 120, 43, 98]⟩) 0 [hE1, hE2] [[true, true], []] :=
  DoOut.done (es := [hE1]) (knowns := [[true], []]) (i := 0) ⟨[115, 120], 43, [98], 0⟩ hE2 (by decide) (by kernel_rfl) (by decide) rfl rfl rfl rfl rfl
theorem hd3 : DoOut [hE1, hE2] [[true, true], []] 0 (toL ⟨#[115, 120, 45, 97]⟩) 0 [hE1, hE2, hE3] [[true, true, true], []] :=
  DoOut.done (es := [hE1, hE2]) (knowns := [[true, true], []]) (i := 0) ⟨[115, 120], 45, [97], 0⟩ hE3 (by decide) (by kernel_rfl) (by decide) rfl rfl rfl rfl rfl
theorem hask : askR [hE1, hE2, hE3] [[true, true, true], []] 0 (toL ⟨#[115, 120]⟩) = ([98], 0) := by decide +kernel
theorem hkn : knowsR [[true, true, true], []] 0 = (3, 0) := by decide +kernel

set_option maxHeartbeats 4000000 in
set_option maxRecDepth 100000 in
theorem heads_any {F : World → Nat → (Nat → Prop) → List Ev → List (List Bool) → Prop} (hF : ProgOK F) (w : World) (hG : Glob w) :
    Calls Tryz.prog 5 #[.bool false] w fun e w' => e = .returned (.bool true) ∧ Below w.heap.size w w' := by
  have HF : Hid (ProgOK F) := hF
  have HG : Hid (Glob w) := hG
  clear hF hG
  go_enter Tryz.func5, Tryz.ntmps5
  go_wp2_with fail
  refine Calls.mono (HF.out.good w 2 10 HG.out (by decide) (by decide) (by decide)) ?_
  rintro e w1 ⟨x, S1, rfl, f1, s1, hb1⟩
  have g1 : Hid (Glob w1) := HG.out.mono hb1
  have F1 : Hid (F w1 x S1 [] (List.replicate 2 []) ∧ (∀ k, S1 k → w.heap.size ≤ k) ∧ Below w.heap.size w w1) := ⟨f1, s1, hb1⟩
  clear f1 s1 hb1
  go_wp2_with fail
  refine Calls.mono (HF.out.does w1 x S1 _ _ _ _ _ _ _ g1.out F1.out.1 (by decide) hd1) ?_
  rintro e w2 ⟨rfl, S2, f2, s2, hc2⟩
  have F2 : Hid (F w2 x S2 [hE1] [[true], []] ∧ (∀ k, S2 k → w.heap.size ≤ k) ∧ Below w.heap.size w w2) := ⟨f2, fun k hk => (s2 k hk).elim (F1.out.2.1 k) (fun h => Nat.le_trans F1.out.2.2.size h), F1.out.2.2.trans (chgS_below hc2 F1.out.2.1 F1.out.2.2.size)⟩
  have g2 : Hid (Glob w2) := HG.out.mono F2.out.2.2
  clear f2 s2 hc2 F1 g1
  go_wp2_with fail
  refine Calls.mono (HF.out.does w2 x S2 _ _ _ _ _ _ _ g2.out F2.out.1 (by decide) hd2) ?_
  rintro e w3 ⟨rfl, S3, f3, s3, hc3⟩
  have F3 : Hid (F w3 x S3 [hE1, hE2] [[true, true], []] ∧ (∀ k, S3 k → w.heap.size ≤ k) ∧ Below w.heap.size w w3) := ⟨f3, fun k hk => (s3 k hk).elim (F2.out.2.1 k) (fun h => Nat.le_trans F2.out.2.2.size h), F2.out.2.2.trans (chgS_below hc3 F2.out.2.1 F2.out.2.2.size)⟩
  have g3 : Hid (Glob w3) := HG.out.mono F3.out.2.2
  clear f3 s3 hc3 F2 g2
  go_wp2_with fail
  refine Calls.mono (HF.out.does w3 x S3 _ _ _ _ _ _ _ g3.out F3.out.1 (by decide) hd3) ?_
  rintro e w4 ⟨rfl, S4, f4, s4, hc4⟩
  have F4 : Hid (F w4 x S4 [hE1, hE2, hE3] [[true, true, true], []] ∧ (∀ k, S4 k → w.heap.size ≤ k) ∧ Below w.heap.size w w4) := ⟨f4, fun k hk => (s4 k hk).elim (F3.out.2.1 k) (fun h => Nat.le_trans F3.out.2.2.size h), F3.out.2.2.trans (chgS_below hc4 F3.out.2.1 F3.out.2.2.size)⟩
  have g4 : Hid (Glob w4) := HG.out.mono F4.out.2.2
  clear f4 s4 hc4 F3 g3
  go_wp2_with fail
  refine Calls.mono (HF.out.asks w4 x S4 _ _ 0 ⟨#[115, 120]⟩ g4.out F4.out.1 (by decide)) ?_
  rw [hask]
  rintro e w5 ⟨t, rfl, ht, S5, f5, s5, hc5⟩
  have ht2 : t = ⟨#[98]⟩ := by rw [← mk_toL t, ht]
  subst ht2
  have F5 : Hid (F w5 x S5 [hE1, hE2, hE3] [[true, true, true], []] ∧ (∀ k, S5 k → w.heap.size ≤ k) ∧ Below w.heap.size w w5) := ⟨f5, fun k hk => (s5 k hk).elim (F4.out.2.1 k) (fun h => Nat.le_trans F4.out.2.2.size h), F4.out.2.2.trans (chgS_below hc5 F4.out.2.1 F4.out.2.2.size)⟩
  have g5 : Hid (Glob w5) := HG.out.mono F5.out.2.2
  clear f5 s5 hc5 F4 g4 ht
  go_wp2_with fail
  refine Calls.mono (HF.out.knows w5 x S5 _ _ 0 g5.out F5.out.1) ?_
  rw [hkn]
  rintro e w6 ⟨rfl, S6, f6, s6, hc6⟩
  have F6 : Hid (Below w.heap.size w w6) := F5.out.2.2.trans (chgS_below hc6 F5.out.2.1 F5.out.2.2.size)
  clear f6 s6 hc6 F5 g5
  go_wp2
  go_ret
  exact ⟨rfl, F6.out⟩
end Go.Proofs.YtmnnojekcloblaaGreatDoor

namespace Go.Proofs.YtmnnojekcloblaaGreatDoor
open Go.RowKit

/-- The program's cluster lies in blocks of its own. -/
structure ProgFrame (F : World → Nat → (Nat → Prop) → List Ev → List (List Bool) → Prop) : Prop where
  stable : ∀ {M : Nat → Prop} {w w' : World} {x : Nat} {S : Nat → Prop} {es : List Ev} {kn : List (List Bool)}, F w x S es kn → Chg M w w' → (∀ k, S k → ¬ M k) → F w' x S es kn
  tags : ∀ {w : World} {x : Nat} {S : Nat → Prop} {es : List Ev} {kn : List (List Bool)} {k : Nat} {t : TypeId}, F w x S es kn → S k → Tagged w k t →
    t ≠ 88 ∧ t ≠ 83 ∧ t ≠ 140 ∧ t ≠ 4 ∧ t ≠ 3 ∧ t ≠ 75 ∧ t ≠ 29 ∧ t ≠ 43
  lt : ∀ {w : World} {x : Nat} {S : Nat → Prop} {es : List Ev} {kn : List (List Bool)} {k : Nat}, F w x S es kn → S k → k < w.heap.size

/-- A cluster of the program beside the document's. -/
structure PairAt (F : World → Nat → (Nat → Prop) → List Ev → List (List Bool) → Prop) (w : World) (pb x : Nat) (S : Nat → Prop) (c rb : Nat) (evv : Value) (room : Nat) (es : List Ev) (kn : List (List Bool)) : Prop where
  tag : Tagged w pb 75
  c0 : w.cell? ⟨pb, 0, none⟩ = some (.pointer (some ⟨x, 0, none⟩))
  c1 : w.cell? ⟨pb, 1, none⟩ = some (.pointer (some ⟨c, 0, none⟩))
  f : F w x S es kn
  r : RefAt w c rb evv room es es.length es.length kn

variable {F : World → Nat → (Nat → Prop) → List Ev → List (List Bool) → Prop}

theorem PairAt.below (hP : ProgFrame F) {w w' : World} {pb x : Nat} {S : Nat → Prop} {c rb : Nat} {evv : Value} {room : Nat} {es : List Ev} {kn : List (List Bool)} (h : PairAt F w pb x S c rb evv room es kn) (hb : Below w.heap.size w w') : PairAt F w' pb x S c rb evv room es kn :=
  ⟨h.tag.below hb, (hb.cell (p := ⟨pb, 0, none⟩) h.tag.lt).trans h.c0, (hb.cell (p := ⟨pb, 1, none⟩) h.tag.lt).trans h.c1, hP.stable h.f (Chg.of_below (M := fun _ => False) hb) (fun _ _ h => h), h.r.below hb⟩

/-- The program has written in its own blocks. -/
theorem PairAt.prog (hP : ProgFrame F) {w w' : World} {pb x : Nat} {S S' : Nat → Prop} {c rb : Nat} {evv : Value} {room : Nat} {es : List Ev} {kn : List (List Bool)} (h : PairAt F w pb x S c rb evv room es kn) (hc : Chg S w w') (hf : F w' x S' es kn) : PairAt F w' pb x S' c rb evv room es kn := by
  have hpb : ¬ S pb := fun hs => (hP.tags h.f hs h.tag).2.2.2.2.2.1 rfl
  have hcell : ∀ i, w'.cell? ⟨pb, i, none⟩ = w.cell? ⟨pb, i, none⟩ := fun i => World.cell?_of_block (w := w) (hc.block pb h.tag.lt hpb)
  refine ⟨h.tag.chg hc hpb, (hcell 0).trans h.c0, (hcell 1).trans h.c1, hf, h.r.chg hc ?_ ?_ ?_ ?_ ?_⟩
  · exact fun hs => (hP.tags h.f hs h.r.tc).1 rfl
  · exact fun hs => (hP.tags h.f hs h.r.trb).2.1 rfl
  · exact fun g hg hs => (hP.tags h.f hs (h.r.evLt g hg).2).2.2.1 rfl
  · exact fun b hb hs => (hP.tags h.f hs hb).2.2.2.1 rfl
  · exact fun b hb hs => (hP.tags h.f hs hb).2.2.2.2.1 rfl

/-- In the midst of a question: the pair stands, the step's own block bx too, what was written since w2 lay in S. -/
structure Amid (F : World → Nat → (Nat → Prop) → List Ev → List (List Bool) → Prop) (S : Nat → Prop) (w2 : World) (bx : Nat) (o : StepD) (pb x c rb : Nat) (evv : Value) (room : Nat) (es : List Ev) (kn : List (List Bool)) (wx : World) : Prop where
  pair : ∃ S', PairAt F wx pb x S' c rb evv room es kn ∧ ∀ k, S' k → S k ∨ w2.heap.size ≤ k
  chg : Chg S w2 wx
  glob : Glob wx
  b0 : wx.cell? ⟨bx, 0, none⟩ = some (.int .i64 o.kind)
  b2 : wx.cell? ⟨bx, 2, none⟩ = some (.int .i64 o.n)
  b4 : wx.cell? ⟨bx, 4, none⟩ = some (.string o.s)
  bS : ¬ S bx
  bl : bx < w2.heap.size

theorem Amid.p0 {S : Nat → Prop} {w2 : World} {bx : Nat} {o : StepD} {pb x c rb : Nat} {evv : Value} {room : Nat} {es : List Ev} {kn : List (List Bool)} {wx : World} (h : Amid F S w2 bx o pb x c rb evv room es kn wx) : wx.cell? ⟨pb, 0, none⟩ = some (.pointer (some ⟨x, 0, none⟩)) := h.pair.elim fun _ h => h.1.c0
theorem Amid.p1 {S : Nat → Prop} {w2 : World} {bx : Nat} {o : StepD} {pb x c rb : Nat} {evv : Value} {room : Nat} {es : List Ev} {kn : List (List Bool)} {wx : World} (h : Amid F S w2 bx o pb x c rb evv room es kn wx) : wx.cell? ⟨pb, 1, none⟩ = some (.pointer (some ⟨c, 0, none⟩)) := h.pair.elim fun _ h => h.1.c1

theorem Amid.below (hP : ProgFrame F) {S : Nat → Prop} {w2 : World} {bx : Nat} {o : StepD} {pb x c rb : Nat} {evv : Value} {room : Nat} {es : List Ev} {kn : List (List Bool)} {wx wy : World} (h : Amid F S w2 bx o pb x c rb evv room es kn wx) (hb : Below wx.heap.size wx wy) : Amid F S w2 bx o pb x c rb evv room es kn wy := by
  obtain ⟨S', h1, h2⟩ := h.pair
  have hl : bx < wx.heap.size := Nat.lt_of_lt_of_le h.bl h.chg.size
  exact ⟨⟨S', h1.below hP hb, h2⟩, h.chg.below hb, h.glob.mono hb, (hb.cell (p := ⟨bx, 0, none⟩) hl).trans h.b0, (hb.cell (p := ⟨bx, 2, none⟩) hl).trans h.b2, (hb.cell (p := ⟨bx, 4, none⟩) hl).trans h.b4, h.bS, h.bl⟩

/-- The program's cluster has been asked. -/
theorem Amid.prog (hP : ProgFrame F) {S : Nat → Prop} {w2 : World} {bx : Nat} {o : StepD} {pb x c rb : Nat} {evv : Value} {room : Nat} {es : List Ev} {kn : List (List Bool)} {wx wy : World} (h : Amid F S w2 bx o pb x c rb evv room es kn wx) (h4 : ∀ k, S k → 4 ≤ k) (h42 : 4 ≤ w2.heap.size)
    {S1 S2 : Nat → Prop} (h1 : PairAt F wx pb x S1 c rb evv room es kn) (hs1 : ∀ k, S1 k → S k ∨ w2.heap.size ≤ k) (hf : F wy x S2 es kn) (hs2 : ∀ k, S2 k → S1 k ∨ wx.heap.size ≤ k) (hc : Chg S1 wx wy) : Amid F S w2 bx o pb x c rb evv room es kn wy := by
  have hl : bx < wx.heap.size := Nat.lt_of_lt_of_le h.bl h.chg.size
  have hbx : ¬ S1 bx := fun hs => (hs1 bx hs).elim h.bS (fun h2 => by have := h.bl; omega)
  have hcell : ∀ i, wy.cell? ⟨bx, i, none⟩ = wx.cell? ⟨bx, i, none⟩ := fun i => World.cell?_of_block (w := wx) (hc.block bx hl hbx)
  refine ⟨⟨S2, h1.prog hP hc hf, fun k hk => (hs2 k hk).elim (hs1 k) (fun h2 => Or.inr (Nat.le_trans h.chg.size h2))⟩, ?_, ?_, (hcell 0).trans h.b0, (hcell 2).trans h.b2, (hcell 4).trans h.b4, h.bS, h.bl⟩
  · refine ⟨hc.os.trans h.chg.os, hc.tape.trans h.chg.tape, hc.output.trans h.chg.output, Nat.le_trans h.chg.size hc.size, fun k hk hn => ?_⟩
    exact (hc.block k (Nat.lt_of_lt_of_le hk h.chg.size) (fun hs => (hs1 k hs).elim hn (fun h2 => by omega))).trans (h.chg.block k hk hn)
  · have hb4 : Below 4 wx wy := chgS_below hc (fun k hk => (hs1 k hk).elim (h4 k) (fun h2 => Nat.le_trans h42 h2)) (Nat.le_trans h42 h.chg.size)
    obtain ⟨⟨m, g1⟩, ⟨e1, g2, g2'⟩, ⟨e2, g3, g3'⟩, g4, g5⟩ := h.glob
    refine ⟨⟨m, (hb4.cell (p := ⟨0, 0, none⟩) (by decide)).trans g1⟩, ⟨e1, (hb4.cell (p := ⟨1, 0, none⟩) (by decide)).trans g2, g2'⟩, ⟨e2, (hb4.cell (p := ⟨2, 0, none⟩) (by decide)).trans g3, g3'⟩, ?_, Nat.lt_of_lt_of_le g5 hb4.size⟩
    exact var?_below (g := 3) hb4 (by kernel_rfl) (by decide) g4
end Go.Proofs.YtmnnojekcloblaaGreatDoor

namespace Go.Proofs.YtmnnojekcloblaaGreatDoor
open Go.RowKit
variable {F : World → Nat → (Nat → Prop) → List Ev → List (List Bool) → Prop}

/-- Is the replica one, and up? -/
def upR (kn : List (List Bool)) (i : Int) : Int := if 0 ≤ i ∧ i < kn.length then 0 else 2

theorem Amid.drew (hP : ProgFrame F) {S : Nat → Prop} {w2 : World} {bx : Nat} {o : StepD} {pb x c rb : Nat} {evv : Value} {room : Nat} {es : List Ev} {kn : List (List Bool)} {wx : World} (h : Amid F S w2 bx o pb x c rb evv room es kn wx) : Amid F S w2 bx o pb x c rb evv room es kn wx.drew := h.below hP (Below.refl _ _).drew

set_option maxHeartbeats 4000000 in
set_option maxRecDepth 100000 in
theorem tells_ask (hF : ProgOK F) (hP : ProgFrame F) (w : World) (hG : Glob w) (pb x : Nat) (S : Nat → Prop) (hS4 : ∀ k, S k → 4 ≤ k) (c rb : Nat) (evv : Value) (room : Nat) (es : List Ev) (kn : List (List Bool)) (h : PairAt F w pb x S c rb evv room es kn)
    (o : StepD) (ho : o.ok) (hk : o.kind = 3) :
    Calls Tryz.prog 15 #[.pointer (some ⟨pb, 0, none⟩), o.val] w fun e w' => e = .returned (.bool true) ∧ ∃ S', PairAt F w' pb x S' c rb evv room es kn ∧ (∀ k, S' k → S k ∨ w.heap.size ≤ k) ∧ Chg S w w' := by
  have HF : Hid (ProgOK F) := hF
  have HP : Hid (ProgFrame F) := hP
  have HG : Hid (Glob w) := hG
  have H : Hid (PairAt F w pb x S c rb evv room es kn) := h
  have hs : o.s.size ≤ 1048576 := ho.2.2.2.2
  unfold StepD.val
  have hbS : ¬ S w.heap.size := fun hk => by have := hP.lt h.f hk; omega
  have HA0 : Hid (∀ q, Amid F S (w.alloc (.cells #[.int .i64 o.kind, .int .i64 o.a, .int .i64 o.n, .int .i64 o.m, .string o.s] 31)) w.heap.size o pb x c rb evv room es kn ((w.alloc (.cells #[.int .i64 o.kind, .int .i64 o.a, .int .i64 o.n, .int .i64 o.m, .string o.s] 31)).drewN q)) := fun q => by
    have hb : Below w.heap.size w (w.alloc (.cells #[.int .i64 o.kind, .int .i64 o.a, .int .i64 o.n, .int .i64 o.m, .string o.s] 31)) := (Below.refl _ w).alloc (Nat.le_refl _) _
    refine Amid.below hP (wx := w.alloc (.cells #[.int .i64 o.kind, .int .i64 o.a, .int .i64 o.n, .int .i64 o.m, .string o.s] 31)) ?_ (below_drewN (Below.refl _ _) q)
    exact ⟨⟨S, h.below hP hb, fun k hk => Or.inl hk⟩, Chg.refl _ _, hG.mono hb, World.cell?_alloc_at _ _ _ _ rfl, World.cell?_alloc_at _ _ _ _ rfl, World.cell?_alloc_at _ _ _ _ rfl, hbS, by simp⟩
  have bz : Hid (∀ ob, Below w.heap.size w (w.alloc ob)) := fun ob => (Below.refl _ w).alloc (Nat.le_refl _) ob
  have hz : ∀ ob, PairAt F (w.alloc ob) pb x S c rb evv room es kn := fun ob => h.below hP (bz.out ob)
  have y0 := fun ob => (hz ob).c0
  have y1 := fun ob => (hz ob).c1
  have Hu : Hid (∀ wx, Below w.heap.size w wx → Calls Tryz.prog 33 #[.pointer (some ⟨c, 0, none⟩), .int .i64 o.n] wx fun e w' => e = .returned (.int .i64 (upR kn o.n)) ∧ w' = wx) := fun wx hx => Up_any _ _ _ _ _ _ _ _ _ (h.below hP hx).r o.n
  have hw4 : 4 ≤ (w.alloc (.cells #[.int .i64 o.kind, .int .i64 o.a, .int .i64 o.n, .int .i64 o.m, .string o.s] 31)).heap.size := by have := hG.size; simp; omega
  have HX : Hid (∀ wx, Amid F S (w.alloc (.cells #[.int .i64 o.kind, .int .i64 o.a, .int .i64 o.n, .int .i64 o.m, .string o.s] 31)) w.heap.size o pb x c rb evv room es kn wx → Calls Tryz.prog 9 #[.pointer (some ⟨x, 0, none⟩), .int .i64 o.n, .string o.s] wx fun e w' => ∃ t, e = .returned (.tuple #[.string t, .int .i64 (askR es kn o.n (toL o.s)).2]) ∧ toL t = (askR es kn o.n (toL o.s)).1 ∧ Amid F S (w.alloc (.cells #[.int .i64 o.kind, .int .i64 o.a, .int .i64 o.n, .int .i64 o.m, .string o.s] 31)) w.heap.size o pb x c rb evv room es kn w') := fun wx hx => by
    obtain ⟨S1, h1, h2⟩ := hx.pair
    refine Calls.mono (hF.asks wx x S1 es kn o.n o.s hx.glob h1.f hs) ?_
    rintro e w' ⟨t, rfl, ht, S2, f2, s2, hc⟩
    exact ⟨t, rfl, ht, hx.prog hP hS4 hw4 h1 h2 f2 s2 hc⟩
  have HY : Hid (∀ wx, Amid F S (w.alloc (.cells #[.int .i64 o.kind, .int .i64 o.a, .int .i64 o.n, .int .i64 o.m, .string o.s] 31)) w.heap.size o pb x c rb evv room es kn wx → Calls Tryz.prog 34 #[.pointer (some ⟨c, 0, none⟩), .int .i64 o.n, .string o.s] wx fun e w' => ∃ t, e = .returned (.tuple #[.string t, .int .i64 (askR es kn o.n (toL o.s)).2]) ∧ toL t = (askR es kn o.n (toL o.s)).1 ∧ Amid F S (w.alloc (.cells #[.int .i64 o.kind, .int .i64 o.a, .int .i64 o.n, .int .i64 o.m, .string o.s] 31)) w.heap.size o pb x c rb evv room es kn w') := fun wx hx => by
    obtain ⟨S1, h1, h2⟩ := hx.pair
    refine Calls.mono (RefAsk_any wx c rb evv room es _ _ kn h1.r o.n o.s hs) ?_
    rintro e w' ⟨t, rfl, ht, hb⟩
    exact ⟨t, rfl, ht, hx.below hP hb⟩
  have hfin : Hid (∀ wx, Amid F S (w.alloc (.cells #[.int .i64 o.kind, .int .i64 o.a, .int .i64 o.n, .int .i64 o.m, .string o.s] 31)) w.heap.size o pb x c rb evv room es kn wx → ∃ S', PairAt F wx pb x S' c rb evv room es kn ∧ (∀ k, S' k → S k ∨ w.heap.size ≤ k) ∧ Chg S w wx) := fun wx hx => by
    obtain ⟨S1, h1, h2⟩ := hx.pair
    exact ⟨S1, h1, fun k hk => (h2 k hk).imp id (fun h3 => by simp at h3; omega), (Chg.of_below (bz.out _)).trans hx.chg⟩
  obtain ⟨k, a, n, m, s⟩ := o
  simp only at *
  subst hk
  clear hF hP hG h ho hz hbS hw4 hS4
  go_enter Tryz.func15, Tryz.ntmps15
  go_wp2_with fail
  go_quiet (first | (go_at_call 33; exact Calls.mono (Hu.out _ (below_drewN (bz.out _) _)) (fun _ _ h => ⟨h.1, _, h.2⟩)))
  go_wp2_with fail
  have hA := HA0.out nq
  clear HA0 Hu y0 y1
  generalize hW1 : w.alloc (.cells #[.int .i64 3, .int .i64 a, .int .i64 n, .int .i64 m, .string s] 31) = W1 at *
  clear hW1
  generalize W1.drewN nq = w2 at *
  have q0 := hA.p0
  have q2 := hA.b2
  have q4 := hA.b4
  simp only at q2 q4
  go_region_held3 (fun w' => Amid F S W1 w.heap.size ⟨3, a, n, m, s⟩ pb x c rb evv room es kn w' ∧ w'.cell? ⟨pb, 0, none⟩ = some (.pointer (some ⟨x, 0, none⟩)) ∧ w'.cell? ⟨w.heap.size, 2, none⟩ = some (.int .i64 n) ∧ w'.cell? ⟨w.heap.size, 4, none⟩ = some (.string s)) ((refine ⟨?_, ?_, ?_, ?_⟩ <;> (first | assumption | (exact Amid.drew HP.out (by assumption)) | (exact Amid.p0 (by assumption)) | (exact Amid.b2 (by assumption)) | (exact Amid.b4 (by assumption))))) (first | (go_at_call 9; refine Calls.mono (HX.out _ ?_) ?_; (exact hA.drew HP.out); rintro e w3 ⟨t, rfl, ht, hA3⟩))
  have HA3 : Hid (Amid F S W1 w.heap.size ⟨3, a, n, m, s⟩ pb x c rb evv room es kn w3) := hA3
  have Ht : Hid (toL t = (askR es kn n (toL s)).1) := ht
  clear hA q0 q2 q4 ht
  go_wp2_with fail
  have r1 := hA3.p1
  have r2 := hA3.b2
  have r4 := hA3.b4
  simp only at r2 r4
  go_region_held3 (fun w' => Amid F S W1 w.heap.size ⟨3, a, n, m, s⟩ pb x c rb evv room es kn w' ∧ w'.cell? ⟨pb, 1, none⟩ = some (.pointer (some ⟨c, 0, none⟩)) ∧ w'.cell? ⟨w.heap.size, 2, none⟩ = some (.int .i64 n) ∧ w'.cell? ⟨w.heap.size, 4, none⟩ = some (.string s)) ((refine ⟨?_, ?_, ?_, ?_⟩ <;> (first | assumption | (exact Amid.drew HP.out (by assumption)) | (exact Amid.p1 (by assumption)) | (exact Amid.b2 (by assumption)) | (exact Amid.b4 (by assumption))))) (first | (go_at_call 34; refine Calls.mono (HY.out _ ?_) ?_; (exact hA3.drew HP.out); rintro e w4 ⟨t', rfl, ht', hA4⟩))
  have htt : t' = t := by rw [← mk_toL t', ← mk_toL t, ht', Ht.out]
  subst htt
  have HA4 : Hid (Amid F S W1 w.heap.size ⟨3, a, n, m, s⟩ pb x c rb evv room es kn w4) := hA4
  clear hA3 hA4 r1 r2 r4 ht'
  generalize (askR es kn n (toL s)).2 = g at *
  go_wp2_with (first | (go_at_call 32; refine (num_any _ _).mono ?_; rintro e w5 ⟨rfl, rfl⟩))
  go_ret
  exact ⟨rfl, hfin.out _ HA4.out⟩
end Go.Proofs.YtmnnojekcloblaaGreatDoor

