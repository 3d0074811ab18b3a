import Derived.Lib.ParseIntB
import Derived.Lib.ItoaNum
import Derived.Deep.RegionLawGrows
import Derived.Laws.AppendOwnNone
import Derived.WalkKit
import Derived.Test.YtoiiaankpnhppaaGreatDoorPart01
import Derived.Test.YtoiiaankpnhppaaGreatDoorPart03
set_option linter.unusedVariables false
set_option linter.unusedSimpArgs false
namespace Go.Proofs.YtoiiaankpnhppaaGreatDoor
open Go.RowKit

theorem toL_get (t : ByteArray) (k : Nat) (h : k < t.size) : (toL t)[k]'(by rw [toL_length]; exact h) = t[k] := byte_at t k h

def NumEnd (neg : Bool) (t : ByteArray) (e : Ending) : Prop := ∃ m : Int, e = .returned (.tuple #[.int .i64 m, .bool (Thk.numAbs neg (toL t)).isSome]) ∧ ∀ x, Thk.numAbs neg (toL t) = some x → m = x

end Go.Proofs.YtoiiaankpnhppaaGreatDoor
namespace Go.Proofs.YtoiiaankpnhppaaGreatDoor
namespace Thk
open Go

theorem foldl_ge (r : Bs) : ∀ n, n ≤ r.foldl (fun n c => 10 * n + dgt c) n := by
  induction r with
  | nil => intro n; exact Nat.le_refl _
  | cons x r ih => intro n; simp only [List.foldl_cons]; have := ih (10 * n + dgt x); omega

theorem parse_ok (M : Nat) (hM : 1000000000 ≤ M) : ∀ (r : Bs) (acc : Nat), r.all isDig = true → r.foldl (fun n c => 10 * n + dgt c) acc ≤ 1000000000 →
    Lib.parseUintM M acc r = .ok (r.foldl (fun n c => 10 * n + dgt c) acc) := by
  intro r
  induction r with
  | nil => intro acc _ _; rfl
  | cons x r ih =>
    intro acc hd hf
    simp only [List.all_cons, Bool.and_eq_true] at hd
    simp only [List.foldl_cons] at hf ⊢
    have hg := foldl_ge r (10 * acc + dgt x)
    have hx := hd.1
    unfold isDig at hx
    simp only [Bool.and_eq_true, decide_eq_true_eq] at hx
    have e : acc * 10 + (x.toNat - 48) = 10 * acc + dgt x := by unfold dgt; omega
    rw [Lib.parseUintM, if_pos hx, if_neg (by omega), e, if_neg (by omega)]
    exact ih _ hd.2 hf

theorem numv_pos (l : Bs) (h0 : l ≠ []) (hd : l.all isDig = true) (hh : l.head? ≠ some 48) : 1 ≤ numv l := by
  cases l with
  | nil => exact absurd rfl h0
  | cons x r =>
    unfold numv
    simp only [List.foldl_cons]
    have hg := foldl_ge r (10 * 0 + dgt x)
    simp only [List.all_cons, Bool.and_eq_true] at hd
    have hx := hd.1
    unfold isDig at hx
    simp only [Bool.and_eq_true, decide_eq_true_eq] at hx
    have h48 : x.toNat ≠ 48 := by
      intro h; apply hh; simp only [List.head?_cons, Option.some.injEq]
      exact UInt8.toNat_inj.1 h
    unfold dgt at hg ⊢
    omega

theorem ofNat_dgt (c : UInt8) (h : isDig c = true) : UInt8.ofNat (48 + dgt c) = c := by
  unfold isDig at h
  simp only [Bool.and_eq_true, decide_eq_true_eq] at h
  apply UInt8.toNat_inj.1
  unfold dgt
  rw [show 48 + (c.toNat - 48) = c.toNat by omega]
  simp

theorem dgt_le (c : UInt8) (h : isDig c = true) : dgt c ≤ 9 := by
  unfold isDig at h
  simp only [Bool.and_eq_true, decide_eq_true_eq] at h
  unfold dgt; omega

theorem dec_numv : ∀ (n : Nat) (l : Bs), l.length = n → l ≠ [] → l.all isDig = true → (l.head? ≠ some 48 ∨ l.length = 1) → Lib.decDigits (numv l) = l := by
  intro n
  induction n with
  | zero => intro l h0 h1; cases l with
    | nil => exact absurd rfl h1
    | cons => simp at h0
  | succ n ih =>
    intro l hl h1 hd hh
    obtain ⟨i, c, rfl⟩ : ∃ i c, l = i ++ [c] := ⟨l.dropLast, l.getLast h1, (List.dropLast_concat_getLast h1).symm⟩
    simp only [List.all_append, List.all_cons, List.all_nil, Bool.and_true, Bool.and_eq_true] at hd
    simp only [List.length_append, List.length_cons, List.length_nil] at hl hh
    have hc := dgt_le c hd.2
    rw [numv_snoc]
    by_cases hi : i = []
    · subst hi
      have : numv [] = 0 := rfl
      rw [this, Lib.decDigits, dif_pos (by omega), show 48 + (10 * 0 + dgt c) = 48 + dgt c by omega, ofNat_dgt c hd.2]; (first | done | rfl)
    · have hil : 0 < i.length := List.length_pos_iff.2 hi
      have hih : i.head? ≠ some 48 := by
        rcases hh with hh | hh
        · cases i with
          | nil => exact absurd rfl hi
          | cons => simpa using hh
        · omega
      have hp := numv_pos i hi hd.1 hih
      rw [Lib.decDigits, dif_neg (by omega), show (10 * numv i + dgt c) / 10 = numv i by omega, show (10 * numv i + dgt c) % 10 = dgt c by omega, ofNat_dgt c hd.2,
        ih i (by omega) hi hd.1 (.inl hih)]

theorem dig_of (d : Nat) (h : d < 10) : isDig (UInt8.ofNat (48 + d)) = true ∧ dgt (UInt8.ofNat (48 + d)) = d := by
  have : (UInt8.ofNat (48 + d)).toNat = 48 + d := by simp; omega
  unfold isDig dgt
  rw [this]
  simp; omega

theorem dec_facts (u : Nat) : (Lib.decDigits u).all isDig = true ∧ numv (Lib.decDigits u) = u ∧ Lib.decDigits u ≠ [] ∧ (1 ≤ u → (Lib.decDigits u).head? ≠ some 48) := by
  induction u using Nat.strongRecOn with
  | ind u ih =>
    rw [Lib.decDigits]
    by_cases h : u < 10
    · rw [dif_pos h]
      have hd := dig_of u h
      refine ⟨by rw [List.all_cons, hd.1]; rfl, by unfold numv; rw [List.foldl_cons, hd.2]; simp, by simp, ?_⟩
      intro h1 h2
      simp only [List.head?_cons, Option.some.injEq] at h2
      have := hd.2
      rw [h2] at this
      have h3 : dgt 48 = 0 := rfl
      omega
    · rw [dif_neg h]
      obtain ⟨h1, h2, h3, h4⟩ := ih (u / 10) (by omega)
      have hd := dig_of (u % 10) (by omega)
      refine ⟨by rw [List.all_append, h1, List.all_cons, hd.1]; rfl, by rw [numv_snoc, h2, hd.2]; omega, by simp, ?_⟩
      intro _
      have h5 := h4 (by omega)
      cases hi : Lib.decDigits (u / 10) with
      | nil => exact absurd hi h3
      | cons => rw [hi] at h5; simpa using h5

theorem nD_le : ∀ (k u : Nat), u < 10 ^ (k + 1) → Lib.nDigits u ≤ k + 1 := by
  intro k
  induction k with
  | zero => intro u h; rw [Lib.nDigits_small (by simpa using h)]; omega
  | succ k ih =>
    intro u h
    by_cases h1 : u < 10
    · rw [Lib.nDigits_small h1]; omega
    · rw [Lib.nDigits_big h1]
      have := ih (u / 10) (by rw [Nat.pow_succ] at h; omega)
      omega

theorem dec_len (u : Nat) (h : u ≤ 1000000000) : (Lib.decDigits u).length ≤ 10 := by
  rw [Lib.decDigits_length]; exact nD_le 9 u (by omega)

theorem numAbs_dec (neg : Bool) (u : Nat) (h : u ≤ 1000000000) (hn : neg = true → 1 ≤ u) :
    numAbs neg (Lib.decDigits u) = some (if neg then -(u : Int) else (u : Int)) := by
  obtain ⟨h1, h2, h3, h4⟩ := dec_facts u
  have hl := dec_len u h
  have hl0 : 0 < (Lib.decDigits u).length := List.length_pos_iff.2 h3
  have hb : numBad neg (Lib.decDigits u) = false := by
    unfold numBad
    by_cases hu : 1 ≤ u
    · have := h4 hu
      have e1 : ((Lib.decDigits u).head? == some 48) = false := by simpa using this
      rw [e1, Bool.false_and, Bool.or_false]; simp only [Bool.or_eq_false_iff, decide_eq_false_iff_not]; omega
    · have hneg : neg = false := by cases neg <;> simp_all
      have hu0 : u = 0 := by omega
      subst hu0 hneg
      rw [Lib.decDigits, dif_pos (by omega)]; simp
  unfold numAbs
  rw [hb, h1, h2]
  simp [h]

def progNum (l : Bs) : Option Int := match Lib.parseIntB 64 l with
  | .ok v => if Lib.itoa v = l ∧ -1000000000 ≤ v ∧ v ≤ 1000000000 then some v else none
  | _ => none

theorem num_itoa (v : Int) (h1 : -1000000000 ≤ v) (h2 : v ≤ 1000000000) : num (Lib.itoa v) = some v := by
  unfold num Lib.itoa
  by_cases h : v < 0
  · rw [if_pos h]
    simp only [List.head?_cons, List.tail_cons, if_true]
    rw [numAbs_dec true v.natAbs (by omega) (by omega)]
    simp; omega
  · rw [if_neg h]
    obtain ⟨e1, e2, e3, e4⟩ := dec_facts v.toNat
    have : (Lib.decDigits v.toNat).head? ≠ some 45 := by
      cases hd : Lib.decDigits v.toNat with
      | nil => exact absurd hd e3
      | cons x r =>
        rw [hd] at e1
        simp only [List.all_cons, Bool.and_eq_true] at e1
        intro hx
        simp only [List.head?_cons, Option.some.injEq] at hx
        rw [hx] at e1
        exact absurd e1.1 (by decide)
    rw [if_neg this, numAbs_dec false v.toNat (by omega) (by simp)]
    simp; omega

theorem numAbs_inv (neg : Bool) (l : Bs) (v : Int) (h : numAbs neg l = some v) :
    l ≠ [] ∧ l.all isDig = true ∧ (l.head? ≠ some 48 ∨ (l.length = 1 ∧ neg = false)) ∧ numv l ≤ 1000000000 ∧ v = (if neg then -(numv l : Int) else (numv l : Int)) := by
  unfold numAbs at h
  split at h
  · cases h
  · rename_i hb
    split at h
    · rename_i hd
      simp only [Bool.and_eq_true, decide_eq_true_eq] at hd
      simp only [Option.some.injEq] at h
      unfold numBad at hb
      simp only [Bool.or_eq_true, Bool.and_eq_true, decide_eq_true_eq, beq_iff_eq, not_or, not_and] at hb
      refine ⟨?_, hd.1, ?_, hd.2, h.symm⟩
      · intro h0; rw [h0] at hb; simp at hb
      · by_cases hh : l.head? = some 48
        · right
          have := hb.2 hh
          refine ⟨by omega, by simpa using this.2⟩
        · exact .inl hh
    · cases h

theorem prog_of_num (l : Bs) (v : Int) (h : num l = some v) : Lib.parseIntB 64 l = .ok v ∧ Lib.itoa v = l ∧ -1000000000 ≤ v ∧ v ≤ 1000000000 := by
  unfold num at h
  split at h
  · rename_i h45
    cases l with
    | nil => simp at h45
    | cons x r =>
      simp only [List.head?_cons, Option.some.injEq] at h45
      subst h45
      simp only [List.tail_cons] at h
      obtain ⟨e1, e2, e3, e4, e5⟩ := numAbs_inv _ _ _ h
      have e3' : r.head? ≠ some 48 := by rcases e3 with e3 | e3; exact e3; simp at e3
      have hp := numv_pos r e1 e2 e3'
      have hpar : Lib.parseUintB 64 r = .ok (numv r) := by
        unfold Lib.parseUintB; rw [if_neg e1, parse_ok _ (by decide) r 0 e2 e4]; (first | done | rfl)
      simp only [if_true] at e5
      refine ⟨?_, ?_, by omega, by omega⟩
      · unfold Lib.parseIntB
        have c45 : (45 : UInt8).toNat = 45 := rfl
        simp only [c45]
        rw [if_pos (Or.inr trivial), hpar]
        simp only [not_true, false_and, if_false, true_and]
        rw [if_neg (by omega), if_pos trivial, e5]
      · unfold Lib.itoa
        rw [if_pos (by omega), e5, show (-(numv r : Int)).natAbs = numv r by omega, dec_numv _ r rfl e1 e2 (.inl e3')]
  · rename_i h45
    obtain ⟨e1, e2, e3, e4, e5⟩ := numAbs_inv _ _ _ h
    have hpar : Lib.parseUintB 64 l = .ok (numv l) := by
      unfold Lib.parseUintB; rw [if_neg e1, parse_ok _ (by decide) l 0 e2 e4]; (first | done | rfl)
    simp only [Bool.false_eq_true, if_false] at e5
    refine ⟨?_, ?_, by omega, by omega⟩
    · cases l with
      | nil => exact absurd rfl e1
      | cons x r =>
        simp only [List.all_cons, Bool.and_eq_true] at e2
        have hx := e2.1
        unfold isDig at hx
        simp only [Bool.and_eq_true, decide_eq_true_eq] at hx
        have n45 : ¬ (x.toNat = 45) := by omega
        unfold Lib.parseIntB
        have n43 : ¬ (x.toNat = 43) := by omega
        simp only [n45, n43, or_self, if_false, hpar, not_false_eq_true, true_and, false_and]
        rw [if_neg (by omega), e5]
    · unfold Lib.itoa
      rw [if_neg (by omega), e5, show (numv l : Int).toNat = numv l by omega, dec_numv _ l rfl e1 e2 ?_]
      rcases e3 with e3 | e3
      · exact .inl e3
      · exact .inr e3.1

theorem progNum_eq (l : Bs) : progNum l = num l := by
  cases hn : num l with
  | some v =>
    obtain ⟨h1, h2, h3, h4⟩ := prog_of_num l v hn
    unfold progNum; rw [h1]; simp [h2, h3, h4]
  | none =>
    unfold progNum
    cases hp : Lib.parseIntB 64 l with
    | ok v =>
      simp only
      by_cases hc : Lib.itoa v = l ∧ -1000000000 ≤ v ∧ v ≤ 1000000000
      · have := num_itoa v hc.2.1 hc.2.2
        rw [hc.1, hn] at this
        cases this
      · rw [if_neg hc]
    | range => rfl
    | _ => rfl

end Thk
end Go.Proofs.YtoiiaankpnhppaaGreatDoor
namespace Go.Proofs.YtoiiaankpnhppaaGreatDoor
open Go.RowKit

theorem step_append_own {P : Program} {ops : Array Oper} {o : Oper} {a : Act} {w : World} {K : Act → World → Prop} {Q : Exit → Act → World → Prop} {E : Prop}
    (hg : o.guard = none) (s x : Operand) (t : TypeId) (hop : o.op = Op.call { callee := Callee.builtin Builtin.append, args := #[s, x], argTypes := #[t, t] })
    (base : Nat) (e : TypeId) (i : TypeInfo) (z : Value) (size bytes : Nat) (h1 : P.underlying t = some (.slice e)) (h2 : P.info? e = some i) (h3 : i.zero = some z) (h4 : i.size = size) (h5 : i.bytes = bytes) (h6 : z.cells.size = size) (h7 : 0 < size)
    (v : Value) (n : Nat) (xs : List Value) (hs : a.eval s = v) (hown : w.ownsRow base e size v n xs)
    (ad : Addr) (m c : Nat) (news : List Value) (hx : a.eval x = .slice (some ad) m c) (hn : news.length = m * size) (hc : ∀ j u, news[j]? = some u → w.cell? (ad.add j) = some u) (h1c : ∀ u ∈ news, u.oneCell' = true)
    (b1 : n + m ≤ maxLen) (b2 : (n + m) * bytes ≤ 140737488355328) (hbase : base ≤ w.heap.size)
    (hK : ∀ v' w', w'.ownsRow base e size v' (n + m) (xs ++ news) → w.grownBy w' v.ownBlock → K (a.put o.dst v') w') :
    if Region.wanted o (yielded ops a.tmps) = true then Oper.wp P o a w K Q else E := by
  have hw : Region.wanted o (yielded ops a.tmps) = true := by simp [Region.wanted, hg]
  rw [if_pos hw]
  obtain ⟨v', w', hrun, r1, r2, _⟩ := run_append_own (P := P) w base t o.type e i z size bytes h1 h2 h3 h4 h5 h6 h7 v n xs hown ad m c news hn hc h1c b1 b2 hbase
  unfold Oper.wp
  simp [execOp, hop, resolve, invoke, builtin, hs, hx, hrun, Result.andThen]
  exact hK v' w' r1 r2

theorem ownsRow_base {w : World} {base base' : Nat} {e : TypeId} {size : Nat} {v : Value} {n : Nat} {xs : List Value} (h : w.ownsRow base e size v n xs) (hb : base' ≤ base) : w.ownsRow base' e size v n xs := by
  obtain ⟨h1, h2 | ⟨g, cap, cur, hv, hg, r⟩⟩ := h
  · exact ⟨h1, Or.inl h2⟩
  · exact ⟨h1, Or.inr ⟨g, cap, cur, hv, Nat.le_trans hb hg, r⟩⟩

theorem step_append_row {P : Program} {ops : Array Oper} {o : Oper} {a : Act} {w : World} {K : Act → World → Prop} {Q : Exit → Act → World → Prop} {E : Prop}
    (hg : o.guard = none) (s x : Operand) (t : TypeId) (hop : o.op = Op.call { callee := Callee.builtin Builtin.append, args := #[s, x], argTypes := #[t, t] })
    (e : TypeId) (i : TypeInfo) (z : Value) (size bytes : Nat) (h1 : P.underlying t = some (.slice e)) (h2 : P.info? e = some i) (h3 : i.zero = some z) (h4 : i.size = size) (h5 : i.bytes = bytes) (h6 : z.cells.size = size) (h7 : 0 < size)
    (v : Value) (n : Nat) (xs : List Value) (hs : a.eval s = v) (hown : w.ownsRow 0 e size v n xs)
    (ad : Addr) (m c : Nat) (news : List Value) (hx : a.eval x = .slice (some ad) m c) (hn : news.length = m * size) (hc : ∀ j u, news[j]? = some u → w.cell? (ad.add j) = some u) (h1c : ∀ u ∈ news, u.oneCell' = true)
    (b1 : n + m ≤ maxLen) (b2 : (n + m) * bytes ≤ 140737488355328) (hpos : 0 < n + m)
    (hK : ∀ g cap w', w'.ownsRow 0 e size (.slice (some ⟨g, 0, none⟩) (n + m) cap) (n + m) (xs ++ news) → w.grownBy w' v.ownBlock → (v.ownBlock = some g ∨ w.heap.size ≤ g) → K (a.put o.dst (.slice (some ⟨g, 0, none⟩) (n + m) cap)) w') :
    if Region.wanted o (yielded ops a.tmps) = true then Oper.wp P o a w K Q else E := by
  have wide : ∀ w', w.grownBy w' none → w.grownBy w' v.ownBlock := fun w' h => ⟨h.os, h.tape, h.output, h.size, fun k hk _ => h.block k hk (by simp)⟩
  have fin : ∀ v' w', w'.ownsRow w.heap.size e size v' (n + m) (xs ++ news) → w.grownBy w' none → K (a.put o.dst v') w' := by
    intro v' w' ho hgr
    have ho2 := ho
    obtain ⟨_, h | ⟨g, cap, cur, rfl, hgb, _⟩⟩ := ho2
    · omega
    · exact hK g cap w' (ownsRow_base ho (Nat.zero_le _)) (wide w' hgr) (Or.inr hgb)
  have ho := hown
  obtain ⟨hx1, ⟨hv, hn0⟩ | ⟨g, cap, cur, hv, hgb, hh, hnc, hcm, hcs, htk⟩⟩ := ho
  · subst hv
    subst hn0
    have hxs : xs = [] := List.eq_nil_of_length_eq_zero (by rw [hx1]; simp)
    subst hxs
    exact step_append_grows hg s x t hop e i z size bytes h1 h2 h3 h4 h5 h6 h7 none 0 0 [] hs (fun _ => ⟨rfl, rfl⟩) (by simp) (fun b hb => by cases hb) ad m c news hx hn hc h1c (by omega) b1 b2 fin
  · subst hv
    by_cases hroom : n + m ≤ cap
    · have hw : Region.wanted o (yielded ops a.tmps) = true := by simp [Region.wanted, hg]
      rw [if_pos hw]
      obtain ⟨w', hrun, r1, r2⟩ := run_append_fits (P := P) w 0 t o.type e i size h1 h2 h4 g n cap xs hown ad m c news hn hc h1c hroom
      unfold Oper.wp
      simp [execOp, hop, resolve, invoke, builtin, hs, hx, hrun, Result.andThen]
      exact hK g cap w' r1 r2 (Or.inl rfl)
    · refine step_append_grows hg s x t hop e i z size bytes h1 h2 h3 h4 h5 h6 h7 (some ⟨g, 0, none⟩) n cap xs hs (fun h => by cases h) hx1 ?_ ad m c news hx hn hc h1c (by omega) b1 b2 fin
      intro b hb j u hj
      cases hb
      exact hown.cells rfl j u hj


end Go.Proofs.YtoiiaankpnhppaaGreatDoor

