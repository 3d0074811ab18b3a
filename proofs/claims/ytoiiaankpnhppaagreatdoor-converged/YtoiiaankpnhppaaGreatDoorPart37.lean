import Derived.Test.YtoiiaankpnhppaaGreatDoorPart36
set_option linter.unusedVariables false
set_option linter.unusedSimpArgs false
namespace Go.Proofs.YtoiiaankpnhppaaGreatDoor
open Go.RowKit
variable {F : Stt}

structure ExTo (s : St) (i j : Nat) (s' : St) : Prop where
  es : s'.es = s.es
  kn : s'.kn = s.kn.set j (delK (s.kn.getD j []) (s.kn.getD i []))
  fs : ∃ b c, s'.fs = s.fs ++ [⟨i, j, 0, s.kn.getD i [], b⟩, ⟨j, i, s.fs.length + 1, [], c⟩]

theorem sendR_ok {s : St} {i j : Nat} (hi : i < s.kn.length) (hj : j < s.kn.length) (hne : i ≠ j) (hl : s.fs.length < 500) : sendR s (i : Int) (j : Int) = ((s.fs.length : Int) + 1, 0) := by
  unfold sendR
  rw [if_pos ⟨⟨by omega, by omega⟩, by omega, by omega⟩, if_neg (by omega), if_neg (by omega)]
theorem frNo_last (s : St) (g : FrD) (fs : List FrD) (h : s.fs = fs ++ [g]) : frNo s ((fs.length : Int) + 1) = some g := by
  unfold frNo
  rw [h, if_pos ⟨by omega, by simp⟩, show ((fs.length : Int) + 1).toNat - 1 = fs.length by omega]
  simp
theorem delR_new {s : St} {f : Int} {g : FrD} (h : frNo s f = some g) (ha : g.ack = 0) (hl : s.fs.length < 500) : delR s f = ((s.fs.length : Int) + 1, 0) := by
  unfold delR; rw [h]; simp only; rw [if_neg (by omega), if_neg (by omega)]
theorem delR_ack {s : St} {f : Int} {g : FrD} (h : frNo s f = some g) (ha : 0 < g.ack) : delR s f = (0, 0) := by
  unfold delR; rw [h]; simp only; rw [if_pos ha]
theorem DelTo.new {s s' : St} {f : Int} {g : FrD} (h : DelTo s f s') (hf : frNo s f = some g) (ha : g.ack = 0) (hl : s.fs.length < 500) : s'.es = s.es ∧ s'.kn = s.kn.set g.dst (delK (s.kn.getD g.dst []) g.known) ∧ ∃ b, s'.fs = s.fs ++ [⟨g.dst, g.src, f.toNat, [], b⟩] := by
  obtain ⟨h1, h2⟩ := h
  rw [hf] at h2
  simp only at h2
  rw [if_neg (by omega)] at h2
  exact ⟨h1, h2.1, h2.2⟩
theorem DelTo.old {s s' : St} {f : Int} {g : FrD} (h : DelTo s f s') (hf : frNo s f = some g) (ha : 0 < g.ack) : s' = s := by
  obtain ⟨h1, h2⟩ := h
  rw [hf] at h2
  simp only at h2
  rw [if_pos (Or.inl ha)] at h2
  obtain ⟨a, b, c⟩ := s
  obtain ⟨a', b', c'⟩ := s'
  simp only at h1 h2
  rw [h1, h2.1, h2.2]

set_option maxHeartbeats 4000000 in
set_option maxRecDepth 100000 in
theorem exchange_any (hF : ProgOK F) (T : Nat → Prop) (w w0 : World) (x : Nat) (s : St) (h : KAt F T w x s w0) (i j : Nat) (hi : i < s.kn.length) (hj : j < s.kn.length) (hne : i ≠ j) (hl : s.fs.length + 2 ≤ 500) :
    Calls Tryz.prog 32 #[.pointer (some ⟨x, 0, none⟩), .int .i64 (i : Int), .int .i64 (j : Int)] w0 fun e w' => e = .returned (.bool true) ∧ ∃ s', ExTo s i j s' ∧ KTo F T w x s' w0 w' := by
  have Hs : Hid (Calls Tryz.prog 29 #[.pointer (some ⟨x, 0, none⟩), .int .i64 (i : Int), .int .i64 (j : Int)] w0 fun e w' => e = .returned (.tuple #[.int .i64 ((s.fs.length : Int) + 1), .int .i64 0]) ∧ ∃ b, KTo F T w x ⟨s.es, s.kn, s.fs ++ [⟨i, j, 0, s.kn.getD i [], b⟩]⟩ w0 w') := by
    refine Calls.mono (h.sends hF (i : Int) (j : Int)) ?_
    rw [sendR_ok hi hj hne (by omega)]
    rintro e w' ⟨rfl, s', ⟨t1, t2, t3⟩, hk⟩
    rw [sendR_ok hi hj hne (by omega), if_pos rfl] at t3
    obtain ⟨b, t3⟩ := t3
    obtain ⟨a1, a2, a3⟩ := s'
    simp only at t1 t2 t3
    subst t1 t2 t3
    exact ⟨rfl, b, hk⟩
  have Hd : Hid (∀ wx b, KTo F T w x ⟨s.es, s.kn, s.fs ++ [⟨i, j, 0, s.kn.getD i [], b⟩]⟩ w0 wx → Calls Tryz.prog 23 #[.pointer (some ⟨x, 0, none⟩), .int .i64 ((s.fs.length : Int) + 1)] wx fun e w' => e = .returned (.tuple #[.int .i64 ((s.fs.length : Int) + 2), .int .i64 0]) ∧ ∃ s', ExTo s i j s' ∧ KTo F T w x s' w0 w') := fun wx b hk => by
    refine Calls.mono (hk.1.dels hF ((s.fs.length : Int) + 1)) ?_
    have hf := frNo_last ⟨s.es, s.kn, s.fs ++ [⟨i, j, 0, s.kn.getD i [], b⟩]⟩ _ s.fs rfl
    have hl2 : (⟨s.es, s.kn, s.fs ++ [⟨i, j, 0, s.kn.getD i [], b⟩]⟩ : St).fs.length = s.fs.length + 1 := by simp
    rw [delR_new hf rfl (by omega), hl2]
    rintro e w' ⟨rfl, s', hd, hk2⟩
    obtain ⟨t1, t2, c, t3⟩ := hd.new hf rfl (by omega)
    refine ⟨by congr 4, s', ⟨t1, t2, b, c, ?_⟩, hk.trans hk2⟩
    rw [t3, show ((s.fs.length : Int) + 1).toNat = s.fs.length + 1 by omega]
    simp
  have Ha : Hid (∀ wx s', ExTo s i j s' → KTo F T w x s' w0 wx → Calls Tryz.prog 23 #[.pointer (some ⟨x, 0, none⟩), .int .i64 ((s.fs.length : Int) + 2)] wx fun e w' => e = .returned (.tuple #[.int .i64 0, .int .i64 0]) ∧ KTo F T w x s' w0 w') := fun wx s' hx hk => by
    refine Calls.mono (hk.1.dels hF ((s.fs.length : Int) + 2)) ?_
    obtain ⟨b, c, hfs⟩ := hx.fs
    have hf := frNo_last s' ⟨j, i, s.fs.length + 1, [], c⟩ (s.fs ++ [⟨i, j, 0, s.kn.getD i [], b⟩]) (by rw [hfs]; simp)
    rw [show (((s.fs ++ [(⟨i, j, 0, s.kn.getD i [], b⟩ : FrD)]).length : Nat) : Int) + 1 = (s.fs.length : Int) + 2 by simp; omega] at hf
    rw [delR_ack hf (by simp)]
    rintro e w' ⟨rfl, s2, hd, hk2⟩
    have := hd.old hf (by simp)
    subst this
    exact ⟨rfl, hk.trans hk2⟩
  have hl64 : s.fs.length ≤ 500 := by omega
  clear hF h hi hj hne hl
  generalize s.fs.length = N at Hs Hd Ha hl64
  go_enter Tryz.func32, Tryz.ntmps32
  go_wp2_with fail
  refine Calls.mono Hs.out ?_
  rintro e w1 ⟨rfl, b, h1⟩
  have H1 : Hid (_) := h1
  clear h1 Hs
  go_wp2_with fail
  refine Calls.mono (Hd.out w1 b H1.out) ?_
  rintro e w2 ⟨rfl, s', hx, h2⟩
  have H2 : Hid (KTo F T w x s' w0 w2) := h2
  have HX : Hid (ExTo s i j s') := hx
  clear h2 hx Hd H1
  go_wp2_with fail
  refine Calls.mono (Ha.out w2 s' HX.out H2.out) ?_
  rintro e w3 ⟨rfl, h3⟩
  have H3 : Hid (KTo F T w x s' w0 w3) := h3
  clear h3 Ha H2
  go_wp2
  go_ret
  exact ⟨rfl, s', HX.out, H3.out⟩
end Go.Proofs.YtoiiaankpnhppaaGreatDoor
namespace Go.Proofs.YtoiiaankpnhppaaGreatDoor
open Go.RowKit
variable {F : Stt}

def KK (s : St) (q m : Nat) : Prop := (s.kn.getD q []).getD m false = true
theorem getD_set' {α : Type} (l : List (List α)) (j : Nat) (v : List α) (q : Nat) : (l.set j v).getD q [] = if j = q ∧ j < l.length then v else l.getD q [] := by
  rw [List.getD_eq_getElem?_getD, List.getElem?_set, List.getD_eq_getElem?_getD]
  by_cases h : j = q
  · subst h
    by_cases h2 : j < l.length
    · simp [h2]
    · simp [h2]
  · simp [h]
theorem KK_ex {s s' : St} {i j : Nat} (h : ExTo s i j s') (hj : j < s.kn.length) (q m : Nat) : KK s' q m ↔ (KK s q m ∨ (q = j ∧ KK s i m)) := by
  unfold KK
  rw [h.kn, getD_set']
  by_cases e : j = q
  · subst e
    rw [if_pos ⟨rfl, hj⟩, delK_getD, bothL_getD, Bool.or_eq_true]
    simp
  · rw [if_neg (fun h => e h.1)]
    constructor
    · exact Or.inl
    · rintro (h | ⟨h, _⟩)
      · exact h
      · exact absurd h.symm e
theorem kl_get {s : St} {N : Nat} (h : ∀ l ∈ s.kn, l.length ≤ N) (q : Nat) : (s.kn.getD q []).length ≤ N := by
  rw [List.getD_eq_getElem?_getD]
  cases hk : s.kn[q]? with
  | none => simp
  | some y => exact h y (List.mem_of_getElem? hk)

structure RndI (n : Nat) (s0 : St) (g i j : Nat) (s : St) : Prop where
  es : s.es = s0.es
  len : s.kn.length = n
  kl : ∀ l ∈ s.kn, l.length ≤ s0.es.length
  up : ∀ q m, KK s0 q m → KK s q m
  dn : ∀ q m, KK s q m → ∃ q', q' < n ∧ KK s0 q' m
  all : 1 ≤ g → ∀ p q, p < n → q < n → ∀ m, KK s0 p m → KK s q m
  a : ∀ p q, p < i → q < n → ∀ m, KK s0 p m → KK s q m
  b : ∀ q, q < j → ∀ m, KK s0 i m → KK s q m
  fl : s.fs.length ≤ s0.fs.length + 2 * (g * 16 + i * 4 + j)
theorem KK_lt {s : St} {q m : Nat} (h : KK s q m) : q < s.kn.length := by
  refine Classical.byContradiction fun h2 => ?_
  have e : s.kn.getD q [] = [] := by rw [List.getD_eq_getElem?_getD, List.getElem?_eq_none (by omega)]; (first | done | rfl)
  unfold KK at h
  rw [e] at h
  simp at h
theorem RndI.start {n : Nat} {s0 : St} (hl : s0.kn.length = n) (hk : ∀ l ∈ s0.kn, l.length ≤ s0.es.length) : RndI n s0 0 0 0 s0 :=
  ⟨rfl, hl, hk, fun _ _ h => h, fun q m h => ⟨q, by rw [← hl]; exact KK_lt h, h⟩, fun h => by omega, fun _ _ h => by omega, fun _ h => by omega, by omega⟩
theorem RndI.skip {n : Nat} {s0 s : St} {g i : Nat} (h : RndI n s0 g i i s) : RndI n s0 g i (i + 1) s :=
  ⟨h.es, h.len, h.kl, h.up, h.dn, h.all, h.a, fun q hq m hm => by
    by_cases e : q = i
    · subst e; exact h.up _ _ hm
    · exact h.b q (by omega) m hm, by have := h.fl; omega⟩
theorem RndI.step {n : Nat} {s0 s s' : St} {g i j : Nat} (h : RndI n s0 g i j s) (hj : j < n) (hx : ExTo s i j s') : RndI n s0 g i (j + 1) s' := by
  have hk := KK_ex hx (by rw [h.len]; exact hj)
  refine ⟨hx.es.trans h.es, by rw [hx.kn, List.length_set, h.len], ?_, fun q m hm => (hk q m).2 (Or.inl (h.up q m hm)), fun q m hm => ?_, fun hg p q hp hq m hm => (hk q m).2 (Or.inl (h.all hg p q hp hq m hm)), fun p q hp hq m hm => (hk q m).2 (Or.inl (h.a p q hp hq m hm)), fun q hq m hm => ?_, ?_⟩
  · intro l hl
    rw [hx.kn] at hl
    rcases List.mem_or_eq_of_mem_set hl with h2 | rfl
    · exact h.kl l h2
    · exact delK_len _ _ _ (kl_get h.kl j) (kl_get h.kl i)
  · rcases (hk q m).1 hm with h2 | ⟨_, h2⟩
    · exact h.dn q m h2
    · exact h.dn i m h2
  · by_cases e : q = j
    · exact (hk q m).2 (Or.inr ⟨e, h.up _ _ hm⟩)
    · exact (hk q m).2 (Or.inl (h.b q (by omega) m hm))
  · obtain ⟨b, c, hf⟩ := hx.fs
    have := h.fl
    rw [hf]
    simp
    omega
theorem RndI.nextI {n : Nat} {s0 s : St} {g i : Nat} (h : RndI n s0 g i n s) (hn : n ≤ 4) : RndI n s0 g (i + 1) 0 s :=
  ⟨h.es, h.len, h.kl, h.up, h.dn, h.all, fun p q hp hq m hm => by
    by_cases e : p = i
    · subst e; exact h.b q hq m hm
    · exact h.a p q (by omega) hq m hm, fun _ h => by omega, by have := h.fl; omega⟩
theorem RndI.nextG {n : Nat} {s0 s : St} {g : Nat} (h : RndI n s0 g n 0 s) (hn : n ≤ 4) : RndI n s0 (g + 1) 0 0 s :=
  ⟨h.es, h.len, h.kl, h.up, h.dn, fun _ p q hp hq m hm => h.a p q hp hq m hm, fun _ _ h => by omega, fun _ h => by omega, by have := h.fl; omega⟩

set_option maxHeartbeats 8000000 in
set_option maxRecDepth 100000 in
theorem round_any (hF : ProgOK F) (T : Nat → Prop) (w w0 : World) (x : Nat) (n : Nat) (hn : 2 ≤ n ∧ n ≤ 4) (s : St) (h : KAt F T w x s w0) (hl : s.kn.length = n) (hk : ∀ l ∈ s.kn, l.length ≤ s.es.length) (hf : s.fs.length ≤ 400) :
    Calls Tryz.prog 16 #[.pointer (some ⟨x, 0, none⟩), .int .i64 (n : Int)] w0 fun e w' => e = .returned (.bool true) ∧ ∃ s', RndI n s 2 0 0 s' ∧ KTo F T w x s' w0 w' := by
  have H0 : Hid (RndI n s 0 0 0 s ∧ KTo F T w x s w0 w0) := ⟨RndI.start hl hk, h, Chg.refl _ _⟩
  have He : Hid (∀ g i j wx s', g < 2 → i < n → j < n → i ≠ j → RndI n s g i j s' ∧ KTo F T w x s' w0 wx → Calls Tryz.prog 32 #[.pointer (some ⟨x, 0, none⟩), .int .i64 (i : Int), .int .i64 (j : Int)] wx fun e w' => e = .returned (.bool true) ∧ ∃ s'', RndI n s g i (j + 1) s'' ∧ KTo F T w x s'' w0 w') := fun g i j wx s' hg hi hj hne hx => by
    have hfl := hx.1.fl
    refine Calls.mono (exchange_any hF T w wx x s' hx.2.1 i j (by rw [hx.1.len]; exact hi) (by rw [hx.1.len]; exact hj) hne (by omega)) ?_
    rintro e w' ⟨rfl, s'', hex, hk2⟩
    exact ⟨rfl, s'', hx.1.step hj hex, hx.2.trans hk2⟩
  obtain ⟨hn1, hn2⟩ := hn
  clear hF h hl hk hf
  go_enter Tryz.func16, Tryz.ntmps16
  go_wp2
  go_loopw [5] (fun v5 wr => ∃ g : Nat, v5 = .int .i64 (g : Int) ∧ g ≤ 2 ∧ Hid (∃ s', RndI n s g 0 0 s' ∧ KTo F T w x s' w0 wr)) (fun v5 _ => 2 - (intOf v5).toNat)
  case atStart => exact ⟨0, rfl, by omega, s, H0.out⟩
  case round =>
    obtain ⟨g, rfl, hg, HG⟩ := hrel
    by_cases hg2 : g < 2
    · have hgI : (g : Int) < 2 := by omega
      go_wp2
      go_loopw [6] (fun v6 wr => ∃ i : Nat, v6 = .int .i64 (i : Int) ∧ i ≤ n ∧ Hid (∃ s', RndI n s g i 0 s' ∧ KTo F T w x s' w0 wr)) (fun v6 _ => n - (intOf v6).toNat)
      case atStart => exact ⟨0, rfl, by omega, HG⟩
      case round =>
        clear HG
        obtain ⟨i, rfl, hi, HI⟩ := hrel
        by_cases hi2 : i < n
        · go_wp2
          go_loopw [7] (fun v7 wr => ∃ j : Nat, v7 = .int .i64 (j : Int) ∧ j ≤ n ∧ Hid (∃ s', RndI n s g i j s' ∧ KTo F T w x s' w0 wr)) (fun v7 _ => n - (intOf v7).toNat)
          case atStart => exact ⟨0, rfl, by omega, HI⟩
          case round =>
            clear HI
            obtain ⟨j, rfl, hj, HJ⟩ := hrel
            by_cases hj2 : j < n
            · by_cases hij : i = j
              · have HJ2 : Hid (∃ s', RndI n s g i (j + 1) s' ∧ KTo F T w x s' w0 wr) := by
                  obtain ⟨s', h1, h2⟩ := HJ.out
                  subst hij
                  exact ⟨s', h1.skip, h2⟩
                clear HJ
                have hij' : (i : Int) = (j : Int) := by omega
                go_wp2
                go_roundw
                case rel => exact ⟨j + 1, by first | rfl | go_num, by omega, HJ2⟩
                case measure => simp [intOf] <;> omega
              · obtain ⟨s', HS⟩ : ∃ s', Hid (RndI n s g i j s' ∧ KTo F T w x s' w0 wr) := HJ.out
                clear HJ
                have hij' : ¬ (i : Int) = (j : Int) := by omega
                go_wp2_with fail
                refine Calls.mono (He.out g i j _ s' hg2 hi2 hj2 hij HS.out) ?_
                rintro e w1 ⟨rfl, h1⟩
                have H1 : Hid (∃ s'', RndI n s g i (j + 1) s'' ∧ KTo F T w x s'' w0 w1) := h1
                clear h1 HS
                go_wp2
                go_roundw
                case rel => exact ⟨j + 1, by first | rfl | go_num, by omega, H1⟩
                case measure => simp [intOf] <;> omega
            · have hjn : j = n := by omega
              subst hjn
              have HJ2 : Hid (∃ s', RndI j s g (i + 1) 0 s' ∧ KTo F T w x s' w0 wr) := by
                obtain ⟨s', h1, h2⟩ := HJ.out
                exact ⟨s', h1.nextI hn2, h2⟩
              clear HJ
              go_wp2
              go_roundw
              case rel => exact ⟨i + 1, by first | rfl | go_num, by omega, HJ2⟩
              case measure => simp [intOf] <;> omega
        · have hin : i = n := by omega
          subst hin
          have HI2 : Hid (∃ s', RndI i s (g + 1) 0 0 s' ∧ KTo F T w x s' w0 wr) := by
            obtain ⟨s', h1, h2⟩ := HI.out
            exact ⟨s', h1.nextG hn2, h2⟩
          clear HI
          go_wp2
          go_roundw
          case rel => exact ⟨g + 1, by first | rfl | go_num, by omega, HI2⟩
          case measure => simp [intOf] <;> omega
    · have hg3 : g = 2 := by omega
      subst hg3
      go_wp2
      go_ret
      exact ⟨rfl, HG.out⟩
end Go.Proofs.YtoiiaankpnhppaaGreatDoor
namespace Go.Proofs.YtoiiaankpnhppaaGreatDoor
open Go.RowKit

structure ProgTick (F : Stt) : Prop where
  crash : ∀ w x S s i, F w x S s → Calls Tryz.prog 30 #[.pointer (some ⟨x, 0, none⟩), .int .i64 i] w fun e w' => e = .returned (.int .i64 (if 0 ≤ i ∧ i < s.kn.length then 0 else 2)) ∧ ∃ S', F w' x S' s ∧ (∀ k, S' k → S k ∨ w.heap.size ≤ k) ∧ Chg S w w'
  tick : ∀ w x S s i, F w x S s → Calls Tryz.prog 31 #[.pointer (some ⟨x, 0, none⟩), .int .i64 i] w fun e w' => e = .returned (.int .i64 (if 0 ≤ i ∧ i < s.kn.length then 0 else 2)) ∧ ∃ S', F w' x S' s ∧ (∀ k, S' k → S k ∨ w.heap.size ≤ k) ∧ Chg S w w'
  waiting : ∀ w x S s i, F w x S s → Calls Tryz.prog 45 #[.pointer (some ⟨x, 0, none⟩), .int .i64 i] w fun e w' => e = .returned (.tuple #[.int .i64 0, .int .i64 (if 0 ≤ i ∧ i < s.kn.length then 0 else 2)]) ∧ ∃ S', F w' x S' s ∧ (∀ k, S' k → S k ∨ w.heap.size ≤ k) ∧ Chg S w w'
structure KOk (n c : Nat) (s : St) : Prop where
  n2 : 2 ≤ n
  n4 : n ≤ 4
  len : s.kn.length = n
  ev : s.es.length ≤ 4 + c
  evs : ∀ e ∈ s.es, EvOk e
  kl : ∀ l ∈ s.kn, l.length ≤ s.es.length
  kn : ∀ m, m < s.es.length → ∃ q, KK s q m
  fl : s.fs.length ≤ c
  fr : ∀ g ∈ s.fs, g.dst < n ∧ g.src < n ∧ g.known.length ≤ s.es.length
theorem KOk.up {n c c' : Nat} {s : St} (h : KOk n c s) (hc : c ≤ c') : KOk n c' s := ⟨h.n2, h.n4, h.len, by have := h.ev; omega, h.evs, h.kl, h.kn, by have := h.fl; omega, h.fr⟩
theorem KOk.did {n c : Nat} {s : St} (h : KOk n c s) {i : Nat} (hi : i < n) {e : Ev} (he : EvOk e) : KOk n (c + 1) ⟨s.es ++ [e], s.kn.set i (moreOf (s.kn.getD i []) s.es.length), s.fs⟩ := by
  have hil : i < s.kn.length := by rw [h.len]; exact hi
  have hk := kl_get h.kl i
  refine ⟨h.n2, h.n4, by simp [h.len], by have := h.ev; simp; omega, ?_, ?_, ?_, by have := h.fl; simp only; omega, ?_⟩
  · intro e' he'
    rcases List.mem_append.1 he' with h1 | h1
    · exact h.evs e' h1
    · simp at h1; subst h1; exact he
  · intro l hl
    simp only [List.length_append, List.length_singleton]
    rcases List.mem_or_eq_of_mem_set hl with h2 | rfl
    · have := h.kl l h2; omega
    · rw [moreOf_length _ _ hk]; omega
  · intro m hm
    simp only [List.length_append, List.length_singleton] at hm
    by_cases e1 : m = s.es.length
    · refine ⟨i, ?_⟩
      unfold KK
      simp only
      rw [getD_set', if_pos ⟨rfl, hil⟩, moreOf_getD _ _ hk]
      simp [e1]
    · obtain ⟨q, hq⟩ := h.kn m (by omega)
      refine ⟨q, ?_⟩
      unfold KK at hq ⊢
      simp only
      rw [getD_set']
      by_cases e2 : i = q
      · subst e2
        rw [if_pos ⟨rfl, hil⟩, moreOf_getD _ _ hk, hq]; (first | done | rfl)
      · rw [if_neg (fun h => e2 h.1)]; exact hq
  · intro g hg
    have := h.fr g hg
    simp only [List.length_append, List.length_singleton]
    exact ⟨this.1, this.2.1, by omega⟩
theorem KOk.sent {n c : Nat} {s s' : St} (h : KOk n c s) {i j : Nat} (hi : i < n) (hj : j < n) {b : ByteArray} (h1 : s'.es = s.es) (h2 : s'.kn = s.kn) (h3 : s'.fs = s.fs ++ [⟨i, j, 0, s.kn.getD i [], b⟩]) : KOk n (c + 1) s' := by
  obtain ⟨a1, a2, a3⟩ := s'
  simp only at h1 h2 h3
  subst h1 h2 h3
  refine ⟨h.n2, h.n4, h.len, by have := h.ev; simp only; omega, h.evs, h.kl, h.kn, by have := h.fl; simp; omega, ?_⟩
  intro g hg
  rcases List.mem_append.1 hg with h1 | h1
  · exact h.fr g h1
  · simp at h1; subst h1; exact ⟨hj, hi, kl_get h.kl i⟩
theorem KK_set {s s' : St} {j : Nat} {l : List Bool} (h : s'.kn = s.kn.set j (delK (s.kn.getD j []) l)) (hj : j < s.kn.length) (q m : Nat) : KK s' q m ↔ (KK s q m ∨ (q = j ∧ l.getD m false = true)) := by
  unfold KK
  rw [h, getD_set']
  by_cases e : j = q
  · subst e
    rw [if_pos ⟨rfl, hj⟩, delK_getD, bothL_getD, Bool.or_eq_true]
    simp
  · rw [if_neg (fun h => e h.1)]
    constructor
    · exact Or.inl
    · rintro (h | ⟨h, _⟩)
      · exact h
      · exact absurd h.symm e
theorem KOk.came {n c : Nat} {s s' : St} (h : KOk n c s) {g : FrD} (hg : g ∈ s.fs) {b : ByteArray} {k : Nat} (h1 : s'.es = s.es) (h2 : s'.kn = s.kn.set g.dst (delK (s.kn.getD g.dst []) g.known)) (h3 : s'.fs = s.fs ++ [⟨g.dst, g.src, k, [], b⟩]) : KOk n (c + 1) s' := by
  have hf := h.fr g hg
  have hk := KK_set h2 (by rw [h.len]; exact hf.1)
  have hes : s'.es.length = s.es.length := by rw [h1]
  refine ⟨h.n2, h.n4, by rw [h2, List.length_set, h.len], by have := h.ev; omega, by rw [h1]; exact h.evs, ?_, fun m hm => ?_, by have := h.fl; rw [h3]; simp; omega, ?_⟩
  · intro l hl
    rw [h2] at hl
    rw [hes]
    rcases List.mem_or_eq_of_mem_set hl with h4 | rfl
    · exact h.kl l h4
    · exact delK_len _ _ _ (kl_get h.kl _) hf.2.2
  · obtain ⟨q, hq⟩ := h.kn m (by omega)
    exact ⟨q, (hk q m).2 (Or.inl hq)⟩
  · intro g' hg'
    rw [h3] at hg'
    rw [hes]
    rcases List.mem_append.1 hg' with h4 | h4
    · exact h.fr g' h4
    · simp at h4; subst h4; exact ⟨hf.2.1, hf.1, by simp⟩

theorem all_true {l : List Bool} {N : Nat} (h1 : l.length ≤ N) (h2 : ∀ m, m < N → l.getD m false = true) : l = List.replicate N true := by
  have hl : l.length = N := by
    refine Nat.le_antisymm h1 (Classical.byContradiction fun h => ?_)
    have := h2 l.length (by omega)
    rw [getD_len (Nat.le_refl _)] at this
    cases this
  refine List.ext_getElem (by simp [hl]) fun m hm1 hm2 => ?_
  have := h2 m (by omega)
  rw [List.getD_eq_getElem?_getD, List.getElem?_eq_getElem hm1] at this
  simpa using this
theorem KOk.full {n c : Nat} {s s' : St} (h : KOk n c s) (hr : RndI n s 2 0 0 s') {q : Nat} (hq : q < n) : s'.kn.getD q [] = List.replicate s'.es.length true := by
  rw [hr.es]
  refine all_true (kl_get hr.kl q) fun m hm => ?_
  obtain ⟨p, hp⟩ := h.kn m hm
  exact hr.all (by omega) p q (by rw [← h.len]; exact KK_lt hp) hq m hp
theorem cnt_rep (N : Nat) : cnt (List.replicate N true) = N := by unfold cnt; simp
theorem tells_same {s : St} {i j : Nat} (hi : i < s.kn.length) (hj : j < s.kn.length) (h : s.kn.getD i [] = s.kn.getD j []) : tellsL s (i : Int) = tellsL s (j : Int) := by
  have ha : ∀ p, askR s.es s.kn (i : Int) p = askR s.es s.kn (j : Int) p := fun p => by
    have h1 : 0 ≤ (i : Int) ∧ (i : Int) < s.kn.length := ⟨by omega, by omega⟩
    have h2 : 0 ≤ (j : Int) ∧ (j : Int) < s.kn.length := ⟨by omega, by omega⟩
    unfold askR
    rw [if_pos h1, if_pos h2, Int.toNat_natCast, Int.toNat_natCast, h]
  have hk : knowsR s.kn (i : Int) = knowsR s.kn (j : Int) := by
    have h1 : 0 ≤ (i : Int) ∧ (i : Int) < s.kn.length := ⟨by omega, by omega⟩
    have h2 : 0 ≤ (j : Int) ∧ (j : Int) < s.kn.length := ⟨by omega, by omega⟩
    unfold knowsR
    rw [if_pos h1, if_pos h2, Int.toNat_natCast, Int.toNat_natCast, h]
  have ht : ∀ k, tellsTo s (i : Int) k = tellsTo s (j : Int) k := fun k => by
    induction k with
    | zero => rfl
    | succ k ih => unfold tellsTo; rw [ih]; unfold tellOne; rw [ha]
  unfold tellsL
  rw [ht, hk]

def chOk (a b : Nat) : Bool := match Thk.read (changeL a b) with
  | .inl _ => false
  | .inr c => decide (c.path.length ≤ 20) && decide (c.val.length ≤ 20) && decide (c.n ≤ 1000000000) && decide (-1000000000 ≤ c.n)
theorem chOk_all : ∀ a, a < 12 → ∀ b, b < 40 → chOk a b = true := by decide +kernel
structure EvFor (s : St) (i : Nat) (a b : Nat) (e : Ev) : Prop where
  ex : ∃ c, Thk.read (changeL a b) = .inr c ∧ toL e.p = c.path ∧ e.a = c.act ∧ toL e.v = c.val ∧ e.n = c.n
  saw : e.saw = s.kn.getD i []
  ok : EvOk e
theorem evFor {n c : Nat} {s : St} (h : KOk n c s) (hc : c ≤ 400) (i : Nat) {a b : Nat} (ha : a < 12) (hb : b < 40) : ∃ e, EvFor s i a b e := by
  have h1 := chOk_all a ha b hb
  unfold chOk at h1
  cases hr : Thk.read (changeL a b) with
  | inl k => rw [hr] at h1; cases h1
  | inr ch =>
    rw [hr] at h1
    simp only [Bool.and_eq_true, decide_eq_true_eq] at h1
    obtain ⟨⟨⟨h2, h3⟩, h4⟩, h5⟩ := h1
    have hk := kl_get h.kl i
    have hev := h.ev
    exact ⟨⟨⟨ch.path.toArray⟩, ch.act, ⟨ch.val.toArray⟩, ch.n, s.kn.getD i []⟩, ⟨ch, hr, rfl, rfl, rfl, rfl⟩, rfl, ⟨h2, h3, h4, h5, by show (s.kn.getD i []).length ≤ 1000; omega⟩⟩
theorem EvFor.out {n c : Nat} {s : St} (h : KOk n c s) (hc : c ≤ 400) {i : Nat} (hi : i < n) {a b : Nat} {e : Ev} (he : EvFor s i a b e) {t : ByteArray} (ht : toL t = changeL a b) :
    DoOut s.es s.kn (i : Int) (toL t) 0 (s.es ++ [e]) (s.kn.set i (moreOf (s.kn.getD i []) s.es.length)) := by
  obtain ⟨ch, hr, h1, h2, h3, h4⟩ := he.ex
  have hev := h.ev
  have := DoOut.done (es := s.es) (knowns := s.kn) (i := (i : Int)) (s := toL t) ch e ⟨by omega, by rw [h.len]; omega⟩ (by rw [ht]; exact hr) (by omega) h1 h2 h3 h4 (by rw [Int.toNat_natCast]; exact he.saw)
  rw [Int.toNat_natCast] at this
  exact this

structure ActD where
  kd : Int
  i : Int
  j : Int
  k : Int
  v : Int
def ActD.ok (a : ActD) : Prop := i64B a.kd ∧ i64B a.i ∧ i64B a.j ∧ i64B a.k ∧ i64B a.v
def ActD.val (a : ActD) : Value := .agg #[.int .i64 a.kd, .int .i64 a.i, .int .i64 a.j, .int .i64 a.k, .int .i64 a.v]
def PlayTo (n : Nat) (s : St) (a : ActD) (s' : St) : Prop :=
  if pickN a.kd 8 < 3 then ∃ e, EvFor s (pickN a.i n) (pickN a.k 12) (pickN a.v 40) e ∧ s' = ⟨s.es ++ [e], s.kn.set (pickN a.i n) (moreOf (s.kn.getD (pickN a.i n) []) s.es.length), s.fs⟩
  else if pickN a.kd 8 < 5 then (if pickN a.i n = pickN a.j n then s' = s else SendTo s (pickN a.i n : Int) (pickN a.j n : Int) s')
  else if pickN a.kd 8 < 7 then (if s.fs.length = 0 then s' = s else DelTo s (1 + (pickN a.k s.fs.length : Int)) s')
  else s' = s
def evMore (a : ActD) : Nat := if pickN a.kd 8 < 3 then 1 else 0
theorem frNo_pick {s : St} {k : Int} (h : s.fs.length ≠ 0) : ∃ g, g ∈ s.fs ∧ frNo s (1 + (pickN k s.fs.length : Int)) = some g := by
  have hl := pickN_lt k (show 1 ≤ s.fs.length by omega)
  unfold frNo
  rw [if_pos ⟨by omega, by omega⟩, show (1 + (pickN k s.fs.length : Int)).toNat - 1 = pickN k s.fs.length by omega, List.getElem?_eq_getElem hl]
  exact ⟨_, List.getElem_mem hl, rfl⟩
theorem KOk.play {n c : Nat} {s s' : St} {a : ActD} (h : KOk n c s) (hc : c ≤ 400) (hp : PlayTo n s a s') : KOk n (c + 1) s' := by
  have hi := pickN_lt a.i (show 1 ≤ n by have := h.n2; omega)
  have hj := pickN_lt a.j (show 1 ≤ n by have := h.n2; omega)
  have hfl := h.fl
  unfold PlayTo at hp
  split at hp
  · obtain ⟨e, he, rfl⟩ := hp
    exact h.did hi he.ok
  · split at hp
    · split at hp
      · rw [hp]; exact h.up (by omega)
      · rename_i hne
        obtain ⟨h1, h2, h3⟩ := hp
        rw [sendR_ok (by rw [h.len]; exact hi) (by rw [h.len]; exact hj) hne (by omega), if_pos rfl, Int.toNat_natCast, Int.toNat_natCast] at h3
        obtain ⟨b, h3⟩ := h3
        exact h.sent hi hj h1 h2 h3
    · split at hp
      · split at hp
        · rw [hp]; exact h.up (by omega)
        · rename_i hne
          obtain ⟨g, hg, hf⟩ := frNo_pick (k := a.k) hne
          by_cases ha : g.ack = 0
          · obtain ⟨h1, h2, b, h3⟩ := hp.new hf ha (by omega)
            exact h.came hg h1 h2 h3
          · rw [hp.old hf (by omega)]; exact h.up (by omega)
      · rw [hp]; exact h.up (by omega)
theorem KOk.start {n : Nat} (h2 : 2 ≤ n) (h4 : n ≤ 4) : KOk n 0 (zS n) := by
  refine ⟨h2, h4, by unfold zS; simp; omega, by unfold zS; simp, ?_, ?_, ?_, by unfold zS; simp, by unfold zS; simp⟩
  · intro e he
    unfold zS at he
    simp at he
    rcases he with rfl | rfl
    · exact ⟨by decide, by decide, by decide, by decide, by decide⟩
    · exact ⟨by decide, by decide, by decide, by decide, by decide⟩
  · intro l hl
    unfold zS at hl ⊢
    simp at hl ⊢
    rcases hl with rfl | ⟨_, rfl⟩ <;> simp
  · intro m hm
    refine ⟨0, ?_⟩
    unfold zS at hm
    simp at hm
    obtain rfl | rfl : m = 0 ∨ m = 1 := by omega
    · rfl
    · rfl
variable {F : Stt}

section
variable {T : Nat → Prop} {w wx wy : World} {x : Nat} {s : St}
theorem KAt.box (hP : ProgFrame F) (h : KAt F T w x s wx) (o : Obj) : KAt F (fun k => T k ∨ k = wx.heap.size) w x s (wx.alloc o) := by
  have hb : Below wx.heap.size wx (wx.alloc o) := (Below.refl _ _).alloc (Nat.le_refl _) _
  have hs : (wx.alloc o).heap.size = wx.heap.size + 1 := by simp
  refine h.more hb (fun S f => hP.below f hb) (fun S f k hk => hP.lt f hk) (fun k hk => hk.imp id (fun e => by omega)) (fun k hk => ?_)
  rcases hk with hk | rfl
  · have := h.tl k hk; omega
  · omega
theorem KAt.less {T' : Nat → Prop} (h : KAt F T w x s wx) (hT : ∀ k, T' k → T k) : KAt F T' w x s wx := by
  obtain ⟨S, f1, s1⟩ := h.f
  exact ⟨⟨S, f1, fun k hk => ⟨(s1 k hk).1, fun h9 => (s1 k hk).2 (hT k h9)⟩⟩, fun k hk => h.tl k (hT k hk), h.bel, h.gw⟩
theorem KAt.store (hP : ProgFrame F) (h : KAt F T w x s wx) {p : Addr} (hp : T p.block) (hB : w.heap.size ≤ p.block) (u : Value) : KAt F T w x s (wx.setCell p u) := by
  obtain ⟨S, f1, s1⟩ := h.f
  have hc : Chg (fun k => k = p.block) wx (wx.setCell p u) := Chg.setCell (M := fun k => k = p.block) (Chg.refl _ wx) rfl u
  refine ⟨⟨S, hP.stable f1 hc (fun k hk e => (s1 k hk).2 (by rw [e]; exact hp)), s1⟩, fun k hk => Nat.lt_of_lt_of_le (h.tl k hk) hc.size, ?_, h.gw⟩
  exact h.bel.trans (chgS_below hc (fun k hk => by rw [hk]; exact hB) h.bel.size)
end

theorem Blk.set {w : World} {b : Nat} {cs : Array Value} {t : TypeId} (h : Blk w b cs t) (j : Nat) (v : Value) : Blk (w.setCell ⟨b, j, none⟩ v) b (cs.setIfInBounds j v) t := by
  have h1 : w.heap[b]? = some (.cells cs t (0, 0)) := h
  have hl : b < w.heap.size := Blk.lt h
  have h2 : w.heap[b] = .cells cs t (0, 0) := by
    rw [Array.getElem?_eq_getElem hl] at h1; exact Option.some.inj h1
  unfold Blk
  simp [World.setCell, hl, Array.getElem_modify, h2]
def TalAt (w : World) (tb fr ev : Nat) : Prop := Blk w tb #[.int .i64 (fr : Int), .int .i64 (ev : Int)] 32
def ActB (w : World) (ab : Nat) (a : ActD) : Prop := Blk w ab #[.int .i64 a.kd, .int .i64 a.i, .int .i64 a.j, .int .i64 a.k, .int .i64 a.v] 35

structure Pl (F : Stt) (T : Nat → Prop) (w w0 : World) (x tb ab fr ev : Nat) (a : ActD) (s : St) (wx : World) : Prop where
  k : KAt F (fun k => T k ∨ k = ab) w x s wx
  t : TalAt wx tb fr ev
  a : ActB wx ab a
  c : Chg (fun k => Mk w.heap.size T k ∨ k = tb) w0 wx
  ht : T tb
  tB : w.heap.size ≤ tb
  ne : tb ≠ ab
  aB : w0.heap.size ≤ ab
section
variable {T : Nat → Prop} {w w0 wx wy : World} {x tb ab fr ev : Nat} {a : ActD} {s s' : St}
theorem Pl.start (hP : ProgFrame F) (h : KAt F T w x s w0) (ht : TalAt w0 tb fr ev) (hT : T tb) (hB : w.heap.size ≤ tb) : Pl F T w w0 x tb w0.heap.size fr ev a s (w0.alloc (.cells #[.int .i64 a.kd, .int .i64 a.i, .int .i64 a.j, .int .i64 a.k, .int .i64 a.v] 35)) :=
  ⟨h.box hP _, Blk.alloc ht _, Blk.new _ _ _, Chg.of_below ((Below.refl _ _).alloc (Nat.le_refl _) _), hT, hB, by have := Blk.lt ht; omega, Nat.le_refl _⟩
theorem Pl.calls (h : Pl F T w w0 x tb ab fr ev a s wx) (hk : KTo F (fun k => T k ∨ k = ab) w x s' wx wy) : Pl F T w w0 x tb ab fr ev a s' wy := by
  refine ⟨hk.1, Blk.chg h.t hk.2 (fun e => e.2 (Or.inl h.ht)), Blk.chg h.a hk.2 (fun e => e.2 (Or.inr rfl)), ?_, h.ht, h.tB, h.ne, h.aB⟩
  exact h.c.trans (chg_wide hk.2 (fun k hk => Or.inl ⟨hk.1, fun e => hk.2 (Or.inl e)⟩))
theorem Pl.below (hP : ProgFrame F) (h : Pl F T w w0 x tb ab fr ev a s wx) (hb : Below wx.heap.size wx wy) : Pl F T w w0 x tb ab fr ev a s wy := h.calls (h.k.below hP hb)
end
end Go.Proofs.YtoiiaankpnhppaaGreatDoor

