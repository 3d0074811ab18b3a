import Derived.RangeFuncNested
import Derived.RangeFuncBound
import Derived.RangeFuncCalls
import Derived.RangeFuncLeaves
import Derived.RangeFuncBox
import Derived.Shelf.Abstract
import Derived.OwnWalkIn
import Derived.TacticsInMore
import Derived.LoopNIn
import Derived.LoopIn
import Derived.Maps.AppendAt
import Derived.Maps.OwnIn
import Derived.Shelf.SlSortCmp.NoneTotal
import Derived.Test.YtoiiaankpnhppaaGreatDoorPart03
import Derived.Test.YtoiiaankpnhppaaGreatDoorPart08
import Derived.Test.YtoiiaankpnhppaaGreatDoorPart12
set_option linter.unusedVariables false
set_option linter.unusedSimpArgs false
namespace Go.Proofs.YtoiiaankpnhppaaGreatDoor
open Go.RowKit

def KeepT (E : Nat → Prop) (W W' : World) : Prop := W.heap.size ≤ W'.heap.size ∧ ∀ k, E k → W'.heap[k]? = W.heap[k]?
theorem KeepT.refl (E : Nat → Prop) (W : World) : KeepT E W W := ⟨Nat.le_refl _, fun _ _ => rfl⟩
theorem KeepT.trans {E : Nat → Prop} {A B C : World} (h : KeepT E A B) (k : KeepT E B C) : KeepT E A C := ⟨Nat.le_trans h.1 k.1, fun i hi => (k.2 i hi).trans (h.2 i hi)⟩
theorem KeepT.mono {E E' : Nat → Prop} {A B : World} (h : KeepT E A B) (hE : ∀ k, E' k → E k) : KeepT E' A B := ⟨h.1, fun k hk => h.2 k (hE k hk)⟩
theorem KeepT.of_chg {M E : Nat → Prop} {A B : World} (h : Chg M A B) (hE : ∀ k, E k → k < A.heap.size ∧ ¬ M k) : KeepT E A B := ⟨h.size, fun k hk => h.block k (hE k hk).1 (hE k hk).2⟩

def Stab {α : Type} (J : (Nat → Prop) → List α → World → Prop) : Prop :=
  ∀ T T' pre W W', J T pre W → Chg T W W' → (∀ k, T' k → (T k ∨ W.heap.size ≤ k) ∧ k < W'.heap.size) → J T' pre W'

def Iter {α : Type} (P : Program) (gf : Nat) (lb : Array Value) (encs : α → Array Value) (S : List α → Prop) (E : Nat → Prop) (w0 : World) : Prop :=
  ∀ (l : Nat) (J Jx : (Nat → Prop) → List α → World → Prop) (W : World), KeepT E w0 W → Stab J → Stab Jx →
    (∀ T pre x W1, J T pre W1 → (∃ ys, S ys ∧ pre ++ [x] <+: ys) → YieldAt Fence.wide 3 P l (encs x) W1 fun e W' =>
      (e = .returned (.bool true) ∧ J T (pre ++ [x]) W' ∧ KeepT (fun k => E k ∨ T k) W1 W') ∨ (e = .returned (.bool false) ∧ Jx T (pre ++ [x]) W' ∧ KeepT (fun k => E k ∨ T k) W1 W')) →
    J (fun _ => False) [] W →
    CallsIn Fence.wide 3 P gf (#[.func (.yield l) #[] #[]] ++ lb) W fun e W' => (∃ v, e = .returned v) ∧ ((∃ xs, S xs ∧ ∃ T, J T xs W') ∨ ∃ pre T, Jx T pre W')

theorem callsIn_wide_any {n m : Nat} {P : Program} {f : FuncId} {args : Array Value} {w : World} {R : Ending → World → Prop} (h : CallsIn Fence.wide n P f args w R) : CallsIn Fence.wide m P f args w R := callsIn_wide.2 (callsIn_wide.1 h)
theorem roundIn_wide_any {n m : Nat} {P : Program} {l : Nat} {f : FuncId} {tmps : Array Value} {assign body : Code} {w : World} {R : Ending → World → Prop} (h : RoundIn Fence.wide n P l f tmps assign body w R) : RoundIn Fence.wide m P l f tmps assign body w R := ⟨h.1, fun c cs _ => h.2 c cs (room_wide _)⟩
theorem roundIn_inRound {n : Nat} {P : Program} {l l' : Nat} {f : FuncId} {tmps : Array Value} {assign body : Code} {w : World} {R : Ending → World → Prop} (h : RoundIn Fence.wide n P l f tmps assign body w R) : RoundIn (Fence.wide.inRound l') n P l f tmps assign body w R := h

def iterPost {α : Type} (E T : Nat → Prop) (I : (Nat → Prop) → List α → World → Prop) (Ix : Code → (Nat → Prop) → List α → World → Prop) (xs : List α) (W : World) : Exit → Act → World → Prop
  | .normal, _, W' => I T xs W' ∧ KeepT (fun k => E k ∨ T k) W W'
  | .ret, _, W' => Ix .ret T xs W' ∧ KeepT (fun k => E k ∨ T k) W W'
  | .exit id, _, W' => Ix (.exit id) T xs W' ∧ KeepT (fun k => E k ∨ T k) W W'
  | .goto t, _, W' => Ix (.goto t) T xs W' ∧ KeepT (fun k => E k ∨ T k) W W'
  | .panic _, _, _ => False
  | .outgrown, _, _ => False

theorem chg_putObj {T : Nat → Prop} (W : World) (l : Nat) (o : Obj) (hl : T l) : Chg T W (W.putObj l o) :=
  ⟨rfl, rfl, rfl, by simp [World.putObj], fun k _ hk => World.putObj_heap_other (fun e => hk (e ▸ hl))⟩
theorem keepT_putObj {E : Nat → Prop} (W : World) (l : Nat) (o : Obj) (hl : ¬ E l) : KeepT E W (W.putObj l o) :=
  ⟨by simp [World.putObj], fun k hk => World.putObj_heap_other (fun e => hl (e ▸ hk))⟩
theorem size_putObj (W : World) (l : Nat) (o : Obj) : (W.putObj l o).heap.size = W.heap.size := by simp [World.putObj]

set_option maxHeartbeats 1000000 in
theorem range_iter {α : Type} {P : Program} {g : Operand} {ps : Array Tmp} {assign body : Code} {Q : Exit → Act → World → Prop} {a : Act} {w : World}
    {gf : Nat} {lb : Array Value} (hg : a.eval g = .func (.func gf) #[] lb) (eg : ∀ args w, (callFunc gf args).run P w = .ok (.enter gf args) w)
    {encs : α → Array Value} {S : List α → Prop} {E : Nat → Prop} {w0 : World} (hit : Iter P gf lb encs S E w0) (hE : KeepT E w0 w) (hElt : ∀ k, E k → k < w.heap.size) (hps : ∀ x, (encs x).size = ps.size)
    (I : (Nat → Prop) → List α → World → Prop) (Ix : Code → (Nat → Prop) → List α → World → Prop) (hI : Stab I) (hIx : ∀ c, Stab (Ix c)) (h0 : I (fun _ => False) [] w)
    (hround : ∀ (l : Nat) (T : Nat → Prop) (pre : List α) (x : α) (W : World), T l → (∀ k, T k → w.heap.size ≤ k ∧ k < W.heap.size) → I T pre W → KeepT E w0 W → (∃ ys, S ys ∧ pre ++ [x] <+: ys) →
      assign.wpIn (Fence.wide.inRound l) 3 P (Exit.then (fun a₁ W₁ => KeepT (fun k => E k ∨ T k) W W₁ ∧ ∀ W₂, Chg T W₁ W₂ → W₂.heap.size = W₁.heap.size → KeepT E w0 W₂ → body.wpIn (Fence.wide.inRound l) 3 P (iterPost E T I Ix (pre ++ [x]) W₂) a₁ W₂) (fun _ _ _ => False))
        { tmps := (ps.zip (encs x)).foldl (fun t (p, v) => t.setIfInBounds p v) a.tmps, defers := [] } W)
    (hdone : ∀ (D : Nat) (T : Nat → Prop) (xs : List α) (W : World), w.heap.size ≤ D → T D → S xs → I T xs W → (∀ k, T k → w.heap.size ≤ k ∧ k < W.heap.size) → W.heap[D]? = some (.deferred (some [])) → Q .normal { a with defers := { target := .collected D, args := #[] } :: a.defers } W)
    (hstop : ∀ (D : Nat) (T : Nat → Prop) (c : Code) (pre : List α) (W : World), w.heap.size ≤ D → T D → Ix c T pre W → (∀ k, T k → w.heap.size ≤ k ∧ k < W.heap.size) → W.heap[D]? = some (.deferred (some [])) → c.wpIn Fence.wide 3 P Q { a with defers := { target := .collected D, args := #[] } :: a.defers } W) :
    (Code.rangeFunc g ps assign body).wpIn Fence.wide 3 P Q a w := by
  refine wpIn_rangeFunc ?_
  intro fn hfn
  show ∃ _ _ _ _ _ _ _ _, (Instr.enterLoop fn a.tmps ps assign body none).run P w = _ ∧ _
  obtain ⟨rec, hrec⟩ : ∃ rec : LoopState → Option Code → Loop, rec = fun st pe => { state := st, pending := pe, fn, tmps := a.tmps, params := ps, assign, body, defers := w.heap.size } := ⟨_, rfl⟩
  obtain ⟨W1, hW1⟩ : ∃ W1, (w.alloc (.deferred (some []))).alloc (.loop (rec .ready none)) = W1 := ⟨_, rfl⟩
  have hL1 : W1.heap[w.heap.size + 1]? = some (.loop (rec .ready none)) := by
    rw [← hW1]; have := World.alloc_heap_new (w.alloc (.deferred (some []))) (.loop (rec .ready none)); rwa [World.size_alloc] at this
  have hK1 : W1.heap[w.heap.size]? = some (.deferred (some [])) := by
    rw [← hW1]; exact (Below.heap_alloc _ _ _ (by simp)).trans (World.alloc_heap_new w _)
  have hb1 : Below w.heap.size w W1 := by rw [← hW1]; exact ((Below.refl _ w).alloc (Nat.le_refl _) _).alloc (by simp) _
  have hs1 : W1.heap.size = w.heap.size + 2 := by rw [← hW1]; simp
  obtain ⟨LD, hLD⟩ : ∃ LD : Nat → Prop, LD = fun k => k = w.heap.size ∨ k = w.heap.size + 1 := ⟨_, rfl⟩
  have hI1 : I LD [] W1 := hI _ _ _ _ _ h0 (Chg.of_below hb1) (fun k hk => ⟨Or.inr (by rw [hLD] at hk; omega), by rw [hLD] at hk; omega⟩)
  have hE1 : KeepT E w0 W1 := hE.trans ⟨hb1.size, fun k hk => hb1.block k (hElt k hk)⟩
  have hEn : ∀ k, E k → k < w.heap.size := hElt
  refine ⟨w.heap.size + 1, [{ target := .collected w.heap.size, args := #[] }], W1, { target := .fn (.func gf) lb, args := #[.func (.yield (w.heap.size + 1)) #[] #[]] }, W1, gf,
    #[.func (.yield (w.heap.size + 1)) #[] #[]] ++ lb, W1, ?_, ?_, ?_, ?_, fun _ => by omega, ?_⟩
  · rw [← hW1, hrec]; exact run_enterLoop_outer _ _ _ _ _
  · simp only [resolve, hg]
    simp [go_sem]
  · intro f' hf'; exact trivial
  · simp [invoke, go_sem, eg]
  · -- the iterator's contract, at the caller's invariant with the book-keeping beside it
    obtain ⟨Bk, hBk⟩ : ∃ Bk : (Nat → Prop) → World → Prop, Bk = fun T W => (∀ k, T k → w.heap.size + 2 ≤ k ∧ k < W.heap.size) ∧ w.heap.size + 2 ≤ W.heap.size ∧ KeepT E w0 W := ⟨_, rfl⟩
    have hstb : ∀ (K : (Nat → Prop) → List α → World → Prop) (o : Obj), Stab K → Stab (fun T pre W => K (fun k => T k ∨ LD k) pre W ∧ W.heap[w.heap.size + 1]? = some o ∧ W.heap[w.heap.size]? = some (.deferred (some [])) ∧ Bk T W) := by
      intro K o hK T T' pre A B hs hc hT
      obtain ⟨h1, h2, h3, h4⟩ := hs
      rw [hBk] at h4
      obtain ⟨h4, h5, h6⟩ := h4
      have nT : ∀ k, k < w.heap.size + 2 → ¬ T k := fun k hk ht => by have := (h4 k ht).1; omega
      refine ⟨hK _ _ _ _ _ h1 (hc.mono (fun k _ hk => Or.inl hk)) ?_, (hc.block _ (by omega) (nT _ (by omega))).trans h2, (hc.block _ (by omega) (nT _ (by omega))).trans h3, ?_⟩
      · intro k hk
        rcases hk with hk | hk
        · exact ⟨(hT k hk).1.elim (fun h => Or.inl (Or.inl h)) Or.inr, (hT k hk).2⟩
        · refine ⟨Or.inl (Or.inr hk), ?_⟩
          have := hc.size
          rw [hLD] at hk
          omega
      · rw [hBk]
        refine ⟨fun k hk => ⟨?_, (hT k hk).2⟩, Nat.le_trans h5 hc.size, h6.trans (KeepT.of_chg hc (fun k hk => ⟨by have := hEn k hk; omega, nT k (by have := hEn k hk; omega)⟩))⟩
        rcases (hT k hk).1 with h | h
        · exact (h4 k h).1
        · omega
    have hbk : ∀ {T : Nat → Prop} {W : World}, Bk T W → (∀ k, T k → w.heap.size + 2 ≤ k ∧ k < W.heap.size) ∧ w.heap.size + 2 ≤ W.heap.size ∧ KeepT E w0 W := fun h => by rw [hBk] at h; exact h
    have hTL : ∀ {T : Nat → Prop} {W : World}, Bk T W → ∀ k, (T k ∨ LD k) → w.heap.size ≤ k ∧ k < W.heap.size := by
      intro T W h k hk
      obtain ⟨h4, h5, _⟩ := hbk h
      rcases hk with hk | hk
      · have := h4 k hk; omega
      · rw [hLD] at hk; omega
    refine (callsIn_wide_any (hit (w.heap.size + 1)
      (fun T pre W => I (fun k => T k ∨ LD k) pre W ∧ W.heap[w.heap.size + 1]? = some (.loop (rec .ready none)) ∧ W.heap[w.heap.size]? = some (.deferred (some [])) ∧ Bk T W)
      (fun T pre W => ∃ c, Ix c (fun k => T k ∨ LD k) pre W ∧ W.heap[w.heap.size + 1]? = some (.loop (rec .done (some c))) ∧ W.heap[w.heap.size]? = some (.deferred (some [])) ∧ Bk T W)
      W1 hE1 (hstb I _ hI)
      (fun T T' pre A B hs hc hT => by
        obtain ⟨c, hs⟩ := hs
        exact ⟨c, hstb (Ix c) _ (hIx c) T T' pre A B hs hc hT⟩)
      ?_ ⟨?_, hL1, hK1, ?_⟩)).mono ?_
    · -- one round
      rintro T pre x W ⟨hi, hl, hk, hB⟩ hpre
      obtain ⟨h4, h5, h6⟩ := hbk hB
      have hlt : w.heap.size + 1 < W.heap.size := by omega
      have hTl : (fun k => T k ∨ LD k) (w.heap.size + 1) := Or.inr (by rw [hLD]; exact Or.inr rfl)
      have hTd : (fun k => T k ∨ LD k) w.heap.size := Or.inr (by rw [hLD]; exact Or.inl rfl)
      have hEl : ¬ E (w.heap.size + 1) := fun h => by have := hEn _ h; omega
      have hy := run_yield (P := P) (args := encs x) hl (by rw [hrec]; exact hps x)
      rw [hrec] at hy
      have hr := hround (w.heap.size + 1) (fun k => T k ∨ LD k) pre x W hTl (hTL hB) hi h6 hpre
      refine ⟨fn, _, assign, body, hy, roundIn_wide_any (n := 3) (roundIn_of_wpIn hfn (wpIn_mono hr ?_))⟩
      rintro e a₁ W₁ hq
      cases e with
      | normal =>
        obtain ⟨hk1, hbody⟩ := hq
        have hl1 : W₁.heap[w.heap.size + 1]? = some (.loop (rec .ready none)) := (hk1.2 _ (Or.inr hTl)).trans hl
        have hd1 : W₁.heap[w.heap.size]? = some (.deferred (some [])) := (hk1.2 _ (Or.inr hTd)).trans hk
        have hE1' : KeepT E w0 W₁ := h6.trans (hk1.mono (fun k h => Or.inl h))
        refine ⟨_, run_beginRound hl1 (by rw [hrec]), ?_⟩
        have hlt1 : w.heap.size + 1 < W₁.heap.size := by have := hk1.1; omega
        have hl2 : (W₁.putObj (w.heap.size + 1) (.loop { rec .ready none with state := .busy })).heap[w.heap.size + 1]? = some (.loop { rec .ready none with state := .busy }) := World.putObj_heap_same hlt1
        have hd2 : (W₁.putObj (w.heap.size + 1) (.loop { rec .ready none with state := .busy })).heap[w.heap.size]? = some (.deferred (some [])) := (World.putObj_heap_other (by omega)).trans hd1
        have hE2' : KeepT E w0 (W₁.putObj (w.heap.size + 1) (.loop { rec .ready none with state := .busy })) := hE1'.trans (keepT_putObj _ _ _ hEl)
        refine wpIn_mono (hbody _ (chg_putObj _ _ _ hTl) (size_putObj _ _ _) hE2') ?_
        have keepB : ∀ (o : Obj) (W3 W4 : World), KeepT (fun k => E k ∨ (T k ∨ LD k)) (W₁.putObj (w.heap.size + 1) (.loop { rec .ready none with state := .busy })) W3 → W4 = W3.putObj (w.heap.size + 1) o → KeepT (fun k => E k ∨ T k) W W4 ∧ Bk T W4 ∧ W4.heap[w.heap.size + 1]? = some o ∧ W4.heap[w.heap.size]? = some (.deferred (some [])) := by
          rintro o W3 W4 hk3 rfl
          have hnl : ∀ k, E k ∨ T k → k ≠ w.heap.size + 1 := fun k hk e => hk.elim (fun h => by have := hEn k h; omega) (fun h => by have := (h4 k h).1; omega)
          have e1 : KeepT (fun k => E k ∨ T k) W W₁ := hk1.mono (fun k h => h.imp id Or.inl)
          have e2 : KeepT (fun k => E k ∨ T k) W₁ (W₁.putObj (w.heap.size + 1) (.loop { rec .ready none with state := .busy })) := keepT_putObj _ _ _ (fun h => hnl _ h rfl)
          have e3 : KeepT (fun k => E k ∨ T k) _ W3 := hk3.mono (fun k h => h.imp id Or.inl)
          have e4 : KeepT (fun k => E k ∨ T k) W3 (W3.putObj (w.heap.size + 1) o) := keepT_putObj _ _ _ (fun h => hnl _ h rfl)
          have e5 := ((e1.trans e2).trans e3).trans e4
          have hlt3 : w.heap.size + 1 < W3.heap.size := by have := hk3.1; rw [size_putObj] at this; omega
          refine ⟨e5, ?_, World.putObj_heap_same hlt3, ?_⟩
          · rw [hBk]
            exact ⟨fun k hk => ⟨(h4 k hk).1, Nat.lt_of_lt_of_le (h4 k hk).2 e5.1⟩, Nat.le_trans h5 e5.1, h6.trans (e5.mono (fun k h => Or.inl h))⟩
          · exact (World.putObj_heap_other (by omega)).trans ((hk3.2 _ (Or.inr hTd)).trans hd2)
        have fin : ∀ (jump : Option Code) (W3 : World), KeepT (fun k => E k ∨ (T k ∨ LD k)) (W₁.putObj (w.heap.size + 1) (.loop { rec .ready none with state := .busy })) W3 →
            (Instr.endRound (w.heap.size + 1) jump).run P W3 = .ok (.bool jump.isNone) (W3.putObj (w.heap.size + 1) (.loop (rec (if jump.isNone then .ready else .done) jump))) := fun jump W3 hk3 => by
          have hl3 := (hk3.2 _ (Or.inr hTl)).trans hl2
          have := run_endRound (P := P) jump hl3
          rw [hrec] at this ⊢
          exact this
        have stI : ∀ (K : (Nat → Prop) → List α → World → Prop) (ys : List α) (o : Obj) (W3 : World), Stab K → K (fun k => T k ∨ LD k) ys W3 → Bk T (W3.putObj (w.heap.size + 1) o) → K (fun k => T k ∨ LD k) ys (W3.putObj (w.heap.size + 1) o) := fun K ys o W3 hK h hb => hK _ _ _ _ _ h (chg_putObj _ _ _ hTl) (fun k hk => ⟨Or.inl hk, (hTL hb k hk).2⟩)
        rintro e a3 W3 hp
        cases e with
        | normal =>
          obtain ⟨hi3, hk3⟩ := hp
          obtain ⟨k5, kB, kl, kd⟩ := keepB _ W3 _ hk3 rfl
          exact ⟨_, _, fin none W3 hk3, .inl ⟨rfl, ⟨stI I _ _ _ hI hi3 kB, kl, kd, kB⟩, k5⟩⟩
        | ret =>
          obtain ⟨hi3, hk3⟩ := hp
          obtain ⟨k5, kB, kl, kd⟩ := keepB _ W3 _ hk3 rfl
          exact ⟨_, _, fin (some .ret) W3 hk3, .inr ⟨rfl, ⟨.ret, stI _ _ _ _ (hIx _) hi3 kB, kl, kd, kB⟩, k5⟩⟩
        | exit id =>
          obtain ⟨hi3, hk3⟩ := hp
          obtain ⟨k5, kB, kl, kd⟩ := keepB _ W3 _ hk3 rfl
          exact ⟨_, _, fin (some (.exit id)) W3 hk3, .inr ⟨rfl, ⟨.exit id, stI _ _ _ _ (hIx _) hi3 kB, kl, kd, kB⟩, k5⟩⟩
        | goto t =>
          obtain ⟨hi3, hk3⟩ := hp
          obtain ⟨k5, kB, kl, kd⟩ := keepB _ W3 _ hk3 rfl
          exact ⟨_, _, fin (some (.goto t)) W3 hk3, .inr ⟨rfl, ⟨.goto t, stI _ _ _ _ (hIx _) hi3 kB, kl, kd, kB⟩, k5⟩⟩
        | panic ch => exact hp.elim
        | outgrown => exact hp.elim
      | ret => exact hq.elim
      | exit id => exact hq.elim
      | goto t => exact hq.elim
      | panic ch => exact hq.elim
      | outgrown => exact hq.elim
    · exact hI _ _ _ _ _ hI1 (Chg.refl _ _) (fun k hk => ⟨Or.inl (hk.resolve_left (fun h => h)), by rcases hk with h | h; exact h.elim; rw [hLD] at h; omega⟩)
    · rw [hBk]; exact ⟨fun k h => h.elim, by omega, hE1⟩
    · -- behind the iterator
      have hDl : ∀ (T : Nat → Prop), (fun k => T k ∨ LD k) w.heap.size := fun T => Or.inr (by rw [hLD]; exact Or.inl rfl)
      have hLl : ∀ (T : Nat → Prop), (fun k => T k ∨ LD k) (w.heap.size + 1) := fun T => Or.inr (by rw [hLD]; exact Or.inr rfl)
      rintro e W2 ⟨⟨v, rfl⟩, (⟨xs, hS, T, hi, hl, hk, hB⟩ | ⟨pre, T, c, hi, hl, hk, hB⟩)⟩
      · refine ⟨none, _, by have := run_endLoop (P := P) hl (by rw [hrec]; simp); rw [hrec] at this; exact this, ?_⟩
        refine hdone _ _ xs _ (Nat.le_refl _) (hDl T) hS (hI _ (fun k => T k ∨ LD k) _ _ _ hi (chg_putObj _ _ _ (hLl T)) (fun k hk => ⟨Or.inl hk, by rw [size_putObj]; exact (hTL hB k hk).2⟩)) (fun k hk => by rw [size_putObj]; exact hTL hB k hk) ((World.putObj_heap_other (by omega)).trans hk)
      · refine ⟨some c, _, by have := run_endLoop (P := P) hl (by rw [hrec]; simp); rw [hrec] at this; exact this, ?_⟩
        refine hstop _ _ c pre _ (Nat.le_refl _) (hDl T) (hIx c _ (fun k => T k ∨ LD k) _ _ _ hi (chg_putObj _ _ _ (hLl T)) (fun k hk => ⟨Or.inl hk, by rw [size_putObj]; exact (hTL hB k hk).2⟩)) (fun k hk => by rw [size_putObj]; exact hTL hB k hk) ((World.putObj_heap_other (by omega)).trans hk)
end Go.Proofs.YtoiiaankpnhppaaGreatDoor
namespace Go.Proofs.YtoiiaankpnhppaaGreatDoor
open Go.RowKit Go.Maps Go.WideMaps Go.Shelf

section
variable {P : Program} {k : TypeId} {w : World} {v : Value} {r N cnt : Nat} {m : Value → Option Value} {left : Value → Prop}
variable {F : Fence} {nF : Nat} {ops : Array Oper} {rest : List Oper} {o : Oper} {a : Act} {Q : Exit → Act → World → Prop}
theorem RangeO.nextO (h : RangeO P k w v r N m left cnt) (K : Keyed P k) (ty : TypeId) :
    ((∀ key, ¬ left key) ∧ (Instr.next (.pointer (some ⟨r, 0, none⟩)) false ty).run P w = .ok (.tuple #[.bool false]) w) ∨
    ∃ key x w' cnt', left key ∧ m key = some x ∧ (Instr.next (.pointer (some ⟨r, 0, none⟩)) false ty).run P w = .ok (.tuple #[.bool true, key, x]) w' ∧
      RangeO P k w' v r N m (fun y => left y ∧ y ≠ key) cnt' ∧ cnt' < cnt ∧ w.grownBy w' (some r) ∧ w'.heap.size = w.heap.size ∧ (Instr.entry (.pointer (some ⟨r, 0, none⟩))).run P w' = .ok (.tuple #[key, x]) w' := by
  rcases h with ⟨h1, ⟨s, seen, c, h2⟩, h3, h4, h5⟩ | ⟨b, h1, h2⟩
  · exact Or.inl ⟨h5, run_next_nil h2⟩
  · rcases h2.next K ty with ⟨_, hl, hrun⟩ | ⟨key, x, w', cnt', g1, g2, g3, g4, g5, g6, g7, g8⟩
    · exact Or.inl ⟨hl, hrun⟩
    · exact Or.inr ⟨key, x, w', cnt', g1, g2, g3, Or.inr ⟨b, h1, g4⟩, g5, g6, g7, g8⟩
theorem MapO.rangeO {t e : TypeId} (h : MapO P k w v N m) (K : Keyed P k) (ht : P.underlying t = some (.map k e)) :
    ∃ w', (Instr.range t v).run P w = .ok (.pointer (some ⟨w.heap.size, 0, none⟩)) w' ∧ RangeO P k w' v w.heap.size N m (fun key => (m key).isSome = true) N ∧ w.grownBy w' none ∧ w'.heap.size = w.heap.size + 1 := by
  rcases h with ⟨rfl, rfl, rfl⟩ | ⟨b, rfl, h2⟩
  · exact ⟨_, run_range_nilMap w t k e ht, Or.inl ⟨rfl, ⟨0, #[], 0, heap_alloc_new w _⟩, rfl, rfl, fun key h => by cases h⟩, World.grownBy_alloc w _ none, by simp⟩
  · obtain ⟨w', hrun, r1, r2, r3⟩ := h2.range K ht
    exact ⟨w', hrun, Or.inr ⟨b, rfl, r1⟩, r2, r3⟩

theorem wpListIn_rangeO (hg : o.guard = none) (mo : Operand) (t : TypeId) (hop : o.op = Op.range t mo) (e : TypeId) (K : Keyed P k) (ht : P.underlying t = some (.map k e))
    (hm : a.eval mo = v) (h : MapO P k w v N m)
    (hK : ∀ w', RangeO P k w' v w.heap.size N m (fun key => (m key).isSome = true) N → w.grownBy w' none → w'.heap.size = w.heap.size + 1 → wpListIn F nF P ops Q rest (a.put o.dst (.pointer (some ⟨w.heap.size, 0, none⟩))) w') : wpListIn F nF P ops Q (o :: rest) a w := by
  refine wpListIn_plain hg fun K' hK' => ?_
  obtain ⟨w', hrun, r1, r2, r3⟩ := h.rangeO K ht
  unfold Oper.wpIn
  refine ⟨by simp [Oper.about, hop], ?_⟩
  rw [Oper.semAt_plain F _ _ (by rw [hop]; intro c hc'; cases hc')]
  simp [execOp, hop, hm, hrun, Result.andThen]
  exact hK' _ _ (hK w' r1 r2 r3)
theorem wpListIn_nextO {α : Type} (hg : o.guard = none) (it : Operand) (hop : o.op = Op.next it false) (K : Keyed P k) (mk mv : α → Value) (hit : a.eval it = .pointer (some ⟨r, 0, none⟩)) (h : RangeO P k w v r N m left cnt)
    (hsh : ∀ key v, left key → m key = some v → ∃ x, key = mk x ∧ v = mv x)
    (hDone : (∀ key, ¬ left key) → wpListIn F nF P ops Q rest (a.put o.dst (.tuple #[.bool false])) w)
    (hMore : ∀ (x : α) (w' : World) (cnt' : Nat), left (mk x) → m (mk x) = some (mv x) → RangeO P k w' v r N m (fun y => left y ∧ y ≠ mk x) cnt' → cnt' < cnt → w.grownBy w' (some r) → w'.heap.size = w.heap.size →
      (Instr.entry (.pointer (some ⟨r, 0, none⟩))).run P w' = .ok (.tuple #[mk x, mv x]) w' → wpListIn F nF P ops Q rest (a.put o.dst (.tuple #[.bool true, mk x, mv x])) w') : wpListIn F nF P ops Q (o :: rest) a w := by
  refine wpListIn_plain hg fun K' hK' => ?_
  unfold Oper.wpIn
  refine ⟨by simp [Oper.about, hop], ?_⟩
  rw [Oper.semAt_plain F _ _ (by rw [hop]; intro c hc'; cases hc')]
  rcases h.nextO K o.type with ⟨hl, hrun⟩ | ⟨key, v, w', cnt', hlk, hv, hrun, hrg, hlt, hgr, hsz, hen⟩
  · simp [execOp, hop, hit, hrun, Result.andThen]
    exact hK' _ _ (hDone hl)
  · obtain ⟨x, rfl, rfl⟩ := hsh key v hlk hv
    simp [execOp, hop, hit, hrun, Result.andThen]
    exact hK' _ _ (hMore x w' cnt' hlk hv hrg hlt hgr hsz hen)
end

def leftO (v : Value) (r : Nat) (w : World) : Nat := match v with | .map (some b) => w.rangeLeft b r | _ => 0
theorem RangeO.leftO {P : Program} {k : TypeId} {w : World} {v : Value} {r N cnt : Nat} {m : Value → Option Value} {left : Value → Prop} (h : RangeO P k w v r N m left cnt) : leftO v r w = cnt := by
  rcases h with ⟨rfl, _, h3, _⟩ | ⟨b, rfl, h2⟩
  · exact h3.symm
  · exact h2.left_eq

set_option maxHeartbeats 1000000 in
theorem Keys_any (w : World) (io : Option Nat) : Calls Tryz.prog 167 #[.map io] w fun e w' => e = .returned (.func (.func 211) #[] #[.pointer (some ⟨w.heap.size, 0, none⟩)]) ∧ w' = w.alloc (.cells #[.map io] 100) := by
  go_enter Tryz.func167, Tryz.ntmps167
  go_wp2
  go_ret
  exact ⟨rfl, rfl⟩

attribute [local go_sem] Oper.semAt_some

def AllOf (It : Nat → Option Value) (ns : List Nat) : Prop := ns.Nodup ∧ ∀ n, n ∈ ns ↔ It n ≠ none

theorem allOf_more {It : Nat → Option Value} {n : Nat} {left : Value → Prop} {pre : List Nat} (h501 : ∀ n, It n ≠ none → okD n) (hp : pre.Nodup) (h1 : ∀ k, k ∈ pre ↔ It k ≠ none ∧ ¬ left (dotE k)) (hn : left (dotE n)) (hI : It n ≠ none) :
    ∃ ys, AllOf It ys ∧ pre ++ [n] <+: ys := by
  have dec : ∀ k, Decidable (It k ≠ none ∧ left (dotE k) ∧ k ≠ n) := fun k => Classical.propDecidable _
  refine ⟨pre ++ [n] ++ (List.range 3072).filter (fun k => @decide _ (dec k)), ⟨?_, ?_⟩, List.prefix_append _ _⟩
  · rw [List.append_assoc, List.nodup_append]
    refine ⟨hp, ?_, ?_⟩
    · rw [List.singleton_append, List.nodup_cons]
      refine ⟨fun h => ?_, List.Pairwise.filter _ List.nodup_range⟩
      simp only [List.mem_filter, decide_eq_true_eq] at h
      exact h.2.2.2 rfl
    · intro x hx y hy e
      subst e
      simp only [List.singleton_append, List.mem_cons, List.mem_filter, decide_eq_true_eq] at hy
      rcases hy with rfl | hy
      · exact ((h1 _).1 hx).2 hn
      · exact ((h1 x).1 hx).2 hy.2.2.1
  · intro k
    simp only [List.mem_append, List.mem_singleton, List.mem_filter, List.mem_range, decide_eq_true_eq]
    constructor
    · rintro ((h | h) | h)
      · exact ((h1 k).1 h).1
      · subst h; exact hI
      · exact h.2.1
    · intro h
      by_cases e : k = n
      · exact Or.inl (Or.inr e)
      · by_cases hl : left (dotE k)
        · exact Or.inr ⟨okD_lt (h501 k h), h, hl, e⟩
        · exact Or.inl (Or.inl ((h1 k).2 ⟨h, hl⟩))

theorem RangeO.keep {P : Program} {k : TypeId} {w w' : World} {v : Value} {r N cnt : Nat} {m : Value → Option Value} {left : Value → Prop} (h : RangeO P k w v r N m left cnt) (hb : ∀ b, v = .map (some b) → w'.heap[b]? = w.heap[b]?) (hr : w'.heap[r]? = w.heap[r]?) : RangeO P k w' v r N m left cnt := by
  rcases h with ⟨h1, ⟨s, seen, c, h2⟩, h3⟩ | ⟨b, h1, h2⟩
  · exact Or.inl ⟨h1, ⟨s, seen, c, hr.trans h2⟩, h3⟩
  · exact Or.inr ⟨b, h1, h2.block (hb b h1) hr⟩

set_option maxRecDepth 100000 in
set_option maxHeartbeats 4000000 in
theorem Keys1_iter (w0 : World) (kb : Nat) (io : Option Nat) (It : Nat → Option Value) (N : Nat) (hk : Blk w0 kb #[.map io] 100) (hM : MapO Tryz.prog 121 w0 (.map io) N (im It)) (h501 : ∀ n, It n ≠ none → okD n) :
    Iter Tryz.prog 211 #[.pointer (some ⟨kb, 0, none⟩)] (fun n : Nat => #[Value.agg #[.int .i64 (who n : Int), .int .i64 (nth n : Int)]]) (AllOf It) (fun k => k = kb ∨ io = some k) w0 := by
  intro l J Jx W hE hJ hJx hY h0
  have hkb : Blk W kb #[.map io] 100 := (hE.2 kb (Or.inl rfl)).trans hk
  have c0 : W.cell? ⟨kb, 0, none⟩ = some (.map io) := (hkb.cell 0).trans rfl
  have hMW : MapO Tryz.prog 121 W (.map io) N (im It) := by
    rcases hM with h | ⟨b, hb, h⟩
    · exact Or.inl h
    · exact Or.inr ⟨b, hb, h.block (hE.2 b (Or.inr (by cases hb; rfl)))⟩
  have hlt : ∀ k, (k = kb ∨ io = some k) → k < W.heap.size := by
    rintro k (rfl | h)
    · exact hkb.lt
    · exact hMW.lt k (by rw [h])
  clear hM hk
  refine callsIn_of_wp Tryz.func211 rfl trivial ?_ rfl
  simp only [Tryz.ntmps211, List.size_toArray, List.length_cons, List.length_nil, Nat.reduceAdd, Nat.reduceSub, Array.replicate_succ, Array.replicate_zero, List.push_toArray, List.append_toArray, List.nil_append, List.cons_append]
  gi_wp2_with (first | (gi_at_range; refine wpListIn_rangeO rfl (.tmp 4) 100 rfl 81 kDot Tryz.underlying100 rfl hMW ?_; intro w1 hr1 hg1 hs1; go_frame))
  obtain ⟨T, hT⟩ : ∃ T : Nat → Prop, T = fun k => k = W.heap.size := ⟨_, rfl⟩
  have hJ1 : J T [] w1 := hJ _ _ _ _ _ h0 ((Chg.refl _ W).grown hg1 (fun k e => by cases e)) (fun k hk => by rw [hT] at hk; subst hk; exact ⟨Or.inr (Nat.le_refl _), by omega⟩)
  gi_loopw [3] (fun _ wx => ∃ (left : Value → Prop) (q : Nat) (pre : List Nat), RangeO Tryz.prog 121 wx (.map io) W.heap.size N (im It) left q ∧ J T pre wx ∧ pre.Nodup ∧ ∀ k, k ∈ pre ↔ It k ≠ none ∧ ¬ left (dotE k)) (fun _ wx => leftO (.map io) W.heap.size wx)
  case atStart =>
    refine ⟨_, _, [], hr1, hJ1, List.Pairwise.nil, fun k => ?_⟩
    simp only [List.not_mem_nil, false_iff, im_dot]
    rintro ⟨h1, h2⟩
    exact h2 (Option.isSome_iff_ne_none.2 h1)
  case round =>
    obtain ⟨left, q, pre, hR, hJp, hnd, hmem⟩ := hrel
    clear hr1 hJ1
    have HR : Hid (RangeO Tryz.prog 121 wr (.map io) W.heap.size N (im It) left q) := hR
    have Hsh : Hid (∀ key v, left key → im It key = some v → ∃ x : Nat × Value, key = (fun x : Nat × Value => dotE x.1) x ∧ v = (fun x : Nat × Value => x.2) x) := fun key v _ hk => by obtain ⟨n, h1, h2⟩ := im_shape hk; exact ⟨(n, v), h1, rfl⟩
    have HJp : Hid (J T pre wr) := hJp
    have Hm : Hid (pre.Nodup ∧ ∀ k, k ∈ pre ↔ It k ≠ none ∧ ¬ left (dotE k)) := ⟨hnd, hmem⟩
    have hrl : W.heap.size < wr.heap.size := hR.lt
    clear hR hJp hnd hmem
    gi_wp2_with (first | (gi_at_next; refine wpListIn_nextO rfl (.tmp 5) rfl kDot (fun x : Nat × Value => dotE x.1) (fun x : Nat × Value => x.2) rfl HR.out Hsh.out ?_ ?_))
    · intro hl0
      gi_wp2
      go_end0
      refine ⟨⟨_, rfl⟩, Or.inl ⟨pre, ⟨Hm.out.1, fun n => ?_⟩, T, HJp.out⟩⟩
      rw [Hm.out.2 n]
      exact ⟨fun h => h.1, fun h => ⟨h, hl0 _⟩⟩
    · intro n v w4 q4 hlk hmk hR4 hlt4 hg4 hs4 hen4
      have hIn : It n ≠ none := by rw [← im_dot It n]; exact fun e => by rw [show dotE n = _ from rfl] at e; rw [hmk] at e; cases e
      have hch : Chg T wr (w4.alloc (.cells #[.int .i64 (who n : Int), .int .i64 (nth n : Int)] 121)) := ((Chg.refl T wr).grown hg4 (fun k e => by cases e; left; rw [hT])).below ((Below.refl _ w4).alloc (Nat.le_refl _) _)
      have hJ5 : J T pre (w4.alloc (.cells #[.int .i64 (who n : Int), .int .i64 (nth n : Int)] 121)) := hJ _ _ _ _ _ HJp.out hch (fun k hk => ⟨Or.inl hk, by rw [hT] at hk; subst hk; simp; omega⟩)
      obtain ⟨fn, tmps, assign, body, hy, hRd⟩ := hY T pre n _ hJ5 (allOf_more h501 Hm.out.1 Hm.out.2 hlk hIn)
      try dsimp only at hy
      gi_wp2
      refine (roundIn_wide_any hRd).mono ?_
      rintro e W3 (⟨rfl, hJ3, hk3⟩ | ⟨rfl, hJx3, _⟩)
      · have hR3 : RangeO Tryz.prog 121 W3 (.map io) W.heap.size N (im It) (fun y => left y ∧ y ≠ dotE n) q4 := by
          have h5 := hR4.chg (M := fun _ => False) (Chg.of_below ((Below.refl _ w4).alloc (Nat.le_refl _) (.cells #[.int .i64 (who n : Int), .int .i64 (nth n : Int)] 121))) (fun _ _ h => h) (fun h => h)
          exact h5.keep (fun b hb => hk3.2 b (Or.inl (Or.inr (by cases hb; rfl)))) (hk3.2 _ (Or.inr (by rw [hT])))
        gi_wp2
        go_roundw
        case rel =>
          refine ⟨_, q4, pre ++ [n], hR3, hJ3, ?_, fun k => ?_⟩
          · rw [List.nodup_append]
            exact ⟨Hm.out.1, by simp, fun x hx y hy e => by simp at hy; subst hy; subst e; exact ((Hm.out.2 _).1 hx).2 hlk⟩
          · rw [List.mem_append, List.mem_singleton, Hm.out.2 k]
            constructor
            · rintro (⟨h1, h2⟩ | rfl)
              · exact ⟨h1, fun h => h2 h.1⟩
              · exact ⟨hIn, fun h => h.2 rfl⟩
            · rintro ⟨h1, h2⟩
              by_cases e : k = n
              · exact Or.inr e
              · exact Or.inl ⟨h1, fun h => h2 ⟨h, fun e2 => e (dotE_inj e2)⟩⟩
        case measure => rw [hR3.leftO, HR.out.leftO]; exact hlt4
      · gi_wp2
        refine bodyPost_ret (results_none rfl _ _ _) rfl ?_
        exact ⟨⟨_, rfl⟩, Or.inr ⟨pre ++ [n], T, hJx3⟩⟩
end Go.Proofs.YtoiiaankpnhppaaGreatDoor
namespace Go.Proofs.YtoiiaankpnhppaaGreatDoor
open Go.RowKit

structure CollV (w : World) (B : Nat) (t e : TypeId) (size : Nat) (cells : List Value) (cnt : Nat) (T : Nat → Prop) (W : World) (v : Value) : Prop where
  bx : Boxed W B t v
  row : W.ownsRow w.heap.size e size v cnt cells
  nB : ¬ T B
  nR : ∀ g, v.ownBlock = some g → ¬ T g
  below : Below w.heap.size w W
  tnew : ∀ k, T k → w.heap.size ≤ k
  bnew : w.heap.size ≤ B
def Coll (w : World) (B : Nat) (t e : TypeId) (size : Nat) (cells : List Value) (cnt : Nat) (T : Nat → Prop) (W : World) : Prop := ∃ v, CollV w B t e size cells cnt T W v

theorem CollV.stab {w : World} {B : Nat} {t e : TypeId} {size : Nat} {cells : List Value} {cnt : Nat} {T T' : Nat → Prop} {W W' : World} {v : Value} (h : CollV w B t e size cells cnt T W v) (hc : Chg T W W') (hT : ∀ k, T' k → (T k ∨ W.heap.size ≤ k) ∧ k < W'.heap.size) : CollV w B t e size cells cnt T' W' v := by
  refine ⟨(hc.block B h.bx.lt h.nB).trans h.bx, ownsRow_chg h.row hc h.nR, fun hk => ?_, fun g hg hk => ?_, ?_, fun k hk => ?_, h.bnew⟩
  · rcases (hT B hk).1 with h1 | h1
    · exact h.nB h1
    · have := h.bx.lt; omega
  · rcases (hT g hk).1 with h1 | h1
    · exact h.nR g hg h1
    · have := (h.row.lt g hg).2; omega
  · exact h.below.trans ⟨hc.os, hc.tape, hc.output, hc.size, fun k hk => hc.block k (Nat.lt_of_lt_of_le hk h.below.size) (fun ht => by have := h.tnew k ht; omega)⟩
  · rcases (hT k hk).1 with h1 | h1
    · exact h.tnew k h1
    · exact Nat.le_trans h.below.size h1
theorem Coll.stab {w : World} {B : Nat} {t e : TypeId} {size : Nat} {cells : List Value} {cnt : Nat} {T T' : Nat → Prop} {W W' : World} (h : Coll w B t e size cells cnt T W) (hc : Chg T W W') (hT : ∀ k, T' k → (T k ∨ W.heap.size ≤ k) ∧ k < W'.heap.size) : Coll w B t e size cells cnt T' W' := by
  obtain ⟨v, h⟩ := h; exact ⟨v, h.stab hc hT⟩

theorem CollV.app2 {w : World} {B : Nat} {t e : TypeId} {size : Nat} {cells news : List Value} {cnt m : Nat} {T E : Nat → Prop} {W w1 : World} {v v' : Value} {tmp : Obj} (h : CollV w B t e size cells cnt T W v) (hte : t ≠ e)
    (hown : w1.ownsRow w.heap.size e size v' (cnt + m) (cells ++ news)) (hg : (W.alloc tmp).grownBy w1 v.ownBlock) (hloc : v'.ownBlock = v.ownBlock ∨ v'.ownBlock = some (W.alloc tmp).heap.size) (hTl : ∀ k, T k → k < W.heap.size) (hE : ∀ k, E k → k < W.heap.size ∧ k ≠ B ∧ v.ownBlock ≠ some k) :
    Boxed w1 B t v ∧ CollV w B t e size (cells ++ news) (cnt + m) T (w1.setCell ⟨B, 0, none⟩ v') v' ∧ KeepT (fun k => E k ∨ T k) W (w1.setCell ⟨B, 0, none⟩ v') := by
  have hnr : some B ≠ v.ownBlock := h.bx.not_row hte h.row
  have hb1 : Boxed w1 B t v := (h.bx.alloc tmp).kept hg hnr
  have hs : W.heap.size ≤ w1.heap.size := by have := hg.size; simp at this; omega
  have hblk : ∀ k, k < W.heap.size → some k ≠ v.ownBlock → w1.heap[k]? = W.heap[k]? := fun k hk hne => (hg.block k (by simp; omega) hne).trans (((Below.refl _ W).alloc (Nat.le_refl _) tmp).block k hk)
  have hnr' : some B ≠ v'.ownBlock := hb1.not_row hte hown
  have hrow2 : (w1.setCell ⟨B, 0, none⟩ v').ownsRow w.heap.size e size v' (cnt + m) (cells ++ news) := ownsRow_chg (M := fun k => k = B) hown ((Chg.refl (fun k => k = B) w1).setCell (p := ⟨B, 0, none⟩) rfl _) (fun g hg e => hnr' (by rw [hg, e]))
  refine ⟨hb1, ⟨hb1.set v', hrow2, h.nB, fun g hg hk => ?_, ?_, h.tnew, h.bnew⟩, ?_, fun k hk => ?_⟩
  · rcases hloc with hl | hl
    · exact h.nR g (hl ▸ hg) hk
    · rw [hl] at hg; cases hg; have := hTl _ hk; simp at this; omega
  · have : Below w.heap.size w w1 := (h.below.alloc h.below.size tmp).grown hg (by simp; have := h.below.size; omega) (fun k e => (h.row.lt k e).1)
    exact this.setCell (p := ⟨B, 0, none⟩) h.bnew _
  · simpa [World.setCell] using hs
  · have hkl : k < W.heap.size := hk.elim (fun h2 => (hE k h2).1) (hTl k)
    have hkB : k ≠ B := fun e => by subst e; exact hk.elim (fun h2 => (hE _ h2).2.1 rfl) h.nB
    have hkr : some k ≠ v.ownBlock := fun e => hk.elim (fun h2 => (hE k h2).2.2 e.symm) (h.nR k e.symm)
    exact (Below.heap_setCell w1 ⟨B, 0, none⟩ v' k hkB).trans (hblk k hkl hkr)
theorem CollV.app {w : World} {B : Nat} {t e : TypeId} {size : Nat} {cells news : List Value} {cnt m : Nat} {T E : Nat → Prop} {W w1 : World} {v v' : Value} {tmp : Obj} (h : CollV w B t e size cells cnt T W v) (hte : t ≠ e)
    (hown : w1.ownsRow w.heap.size e size v' (cnt + m) (cells ++ news)) (hg : (W.alloc tmp).grownBy w1 v.ownBlock) (hloc : v'.ownBlock = v.ownBlock ∨ v'.ownBlock = some (W.alloc tmp).heap.size) (hTl : ∀ k, T k → k < W.heap.size) (hE : ∀ k, E k → k < w.heap.size) :
    Boxed w1 B t v ∧ CollV w B t e size (cells ++ news) (cnt + m) T (w1.setCell ⟨B, 0, none⟩ v') v' ∧ KeepT (fun k => E k ∨ T k) W (w1.setCell ⟨B, 0, none⟩ v') :=
  h.app2 hte hown hg hloc hTl (fun k hk => ⟨Nat.lt_of_lt_of_le (hE k hk) h.below.size, by have := hE k hk; have := h.bnew; omega, fun e => by have := hE k hk; have := (h.row.lt k e).1; omega⟩)
theorem ownsRow_ne {w : World} {base : Nat} {e : TypeId} {size : Nat} {v : Value} {n : Nat} {xs : List Value} {k : Nat} (h : w.ownsRow base e size v n xs) (hk : ∀ cur fz, w.heap[k]? ≠ some (.cells cur e fz)) : v.ownBlock ≠ some k := by
  intro e'
  obtain ⟨_, ⟨h1, _⟩ | ⟨g, cap, cur, rfl, _, hh, _⟩⟩ := h
  · rw [h1] at e'; cases e'
  · cases e'; exact hk _ _ hh
end Go.Proofs.YtoiiaankpnhppaaGreatDoor
namespace Go.Proofs.YtoiiaankpnhppaaGreatDoor
open Go.RowKit Go.Maps Go.WideMaps Go.Shelf

attribute [local go_sem] Oper.semAt_some

theorem Tryz.infoDot : (Tryz.prog.info? 121).map (fun i => (i.zero, i.size, i.bytes)) = some (some (.agg #[.int .i64 0, .int .i64 0]), 2, 16) := by kernel_rfl
def dcells (ns : List Nat) : List Value := ns.flatMap fun n : Nat => [.int .i64 (who n : Int), .int .i64 (nth n : Int)]
theorem dcells_snoc (ns : List Nat) (n : Nat) : dcells (ns ++ [n]) = dcells ns ++ [.int .i64 (who n : Int), .int .i64 (nth n : Int)] := by simp [dcells]

set_option maxRecDepth 100000 in
set_option maxHeartbeats 4000000 in
theorem AppendSeq_any (w : World) (gf : Nat) (lb : Array Value) (S : List Nat → Prop) (E : Nat → Prop) (hit : Iter Tryz.prog gf lb (fun n : Nat => #[Value.agg #[.int .i64 (who n : Int), .int .i64 (nth n : Int)]]) S E w) (eg : ∀ args w, (callFunc gf args).run Tryz.prog w = .ok (.enter gf args) w) (hE : ∀ k, E k → k < w.heap.size) (hS : ∀ ns, S ns → ns.length ≤ 4000) :
    Calls Tryz.prog 238 #[.slice none 0 0, .func (.func gf) #[] lb] w fun e w' => ∃ v ns, e = .returned v ∧ S ns ∧ w'.ownsRow w.heap.size 121 2 v ns.length (dcells ns) ∧ Below w.heap.size w w' := by
  obtain ⟨i0, hi, hz0, hz1, hz2⟩ := info_parts Tryz.infoDot
  refine (callsIn_wide (n := 3)).1 ?_
  refine callsIn_of_wp_marks Tryz.func238 rfl trivial ?_ rfl
  simp only [Tryz.ntmps238, List.size_toArray, List.length_cons, List.length_nil, Nat.reduceAdd, Nat.reduceSub, Array.replicate_succ, Array.replicate_zero, List.push_toArray, List.append_toArray, List.nil_append, List.cons_append]
  gi_wp2
  have hbw : Below w.heap.size w (w.alloc (.cells #[.slice none 0 0] 124)) := (Below.refl _ w).alloc (Nat.le_refl _) _
  refine range_iter (gf := gf) (lb := lb) rfl eg hit ⟨hbw.size, fun k hk => hbw.block k (hE k hk)⟩ (fun k hk => Nat.lt_of_lt_of_le (hE k hk) hbw.size) (fun _ => rfl)
    (fun T pre W => Coll w w.heap.size 124 121 2 (dcells pre) pre.length T W) (fun _ _ _ _ => False)
    (fun T T' pre W W' h hc hT => h.stab hc hT) (fun _ _ _ _ _ _ h _ _ => h)
    ⟨_, Boxed.new w _ _, World.ownsRow_nil _ _ _ _, fun h => h, fun _ _ h => h, hbw, fun _ h => h.elim, Nat.le_refl _⟩ ?round ?done ?stop
  case round =>
    rintro l T pre n W hTl hT ⟨v, hC⟩ hEW ⟨ys, hys, hpre⟩
    have hlen : pre.length + 1 ≤ 4000 := by have := hS ys hys; have := hpre.length_le; simp at this; omega
    gi_wp2
    refine ⟨⟨by simp, fun k hk => ?_⟩, ?_⟩
    · exact ((Below.refl _ W).alloc (Nat.le_refl _) _).block k (hk.elim (fun h => Nat.lt_of_lt_of_le (Nat.lt_of_lt_of_le (hE k h) hbw.size) (by have := hC.bx.lt; have := hC.below.size; simp; omega)) (fun h => (hT k h).2))
    intro W2 hc2 hs2 hE2
    have hTs : ∀ k, T k → k < W2.heap.size := fun k hk => by rw [hs2]; have := (hT k hk).2; simp; omega
    have hC2 : CollV w w.heap.size 124 121 2 (dcells pre) pre.length T W2 v := hC.stab ((Chg.of_below ((Below.refl _ W).alloc (Nat.le_refl _) _)).trans hc2) (fun k hk => ⟨Or.inl hk, hTs k hk⟩)
    have kd : Blk W2 W.heap.size #[.int .i64 (who n : Int), .int .i64 (nth n : Int)] 121 := (Blk.new W _ _).chg hc2 (fun hk => by have := (hT _ hk).2; omega)
    have c0 := hC2.bx.cell
    have d0 := (kd.cell 0).trans rfl
    have d1 := (kd.cell 1).trans rfl
    have HC2 : Hid (CollV w w.heap.size 124 121 2 (dcells pre) pre.length T W2 v) := hC2
    have hb2 : w.heap.size ≤ W2.heap.size := hC2.below.size
    have hml : Hid (pre.length + 1 ≤ maxLen) := by unfold Hid maxLen; omega
    have hmb : Hid ((pre.length + 1) * 16 ≤ 140737488355328) := by unfold Hid; omega
    have Hcn : Hid (∀ j u, ([.int .i64 (who n : Int), .int .i64 (nth n : Int)] : List Value)[j]? = some u → (W2.alloc (.cells #[.int .i64 (who n : Int), .int .i64 (nth n : Int)] 121)).cell? ((⟨W2.heap.size, 0, none⟩ : Addr).add j) = some u) := fun j u hj => by
      match j, hj with
      | 0, hj => cases hj; simp [Addr.add]
      | 1, hj => cases hj; simp [Addr.add]
    clear hC hC2 kd hc2 hE2 hs2
    gi_wp2_with (first | (gi_at_builtin; refine wpListIn_append_own_at _ rfl (.tmp 8) (.tmp 10) 124 rfl w.heap.size 121 i0 (.agg #[.int .i64 0, .int .i64 0]) 2 16 Tryz.underlying124 hi hz0 hz1 hz2 rfl (by decide) v pre.length (dcells pre) rfl (HC2.out.row.alloc _) ⟨W2.heap.size, 0, none⟩ 1 1 [.int .i64 (who n : Int), .int .i64 (nth n : Int)] rfl rfl Hcn.out (by simp [Value.oneCell']) hml.out hmb.out (by simp; omega) ?_; intro v' w1 hown' hg' _ hloc; have happ := HC2.out.app (E := E) (by decide) hown' hg' hloc hTs hE; obtain ⟨g', cap', rfl⟩ := ownsRow_succ hown'; have hc1 := happ.1.cell; have hf1 := happ.1.frozen))
    refine ⟨?_, happ.2.2⟩
    have h2 := happ.2.1
    rw [← dcells_snoc] at h2
    exact ⟨_, by rw [List.length_append]; exact h2⟩
  case done =>
    rintro D T xs W hD hTD hS' ⟨v, hC⟩ hT hK
    have c0 := hC.bx.cell
    have HC : Hid (CollV w w.heap.size 124 121 2 (dcells xs) xs.length T W v) := hC
    clear hC
    gi_wp2
    refine ⟨by simp, .inl ⟨_, _, rfl, run_takeDeferred hK, ?_⟩⟩
    refine ⟨_, results_tmp rfl _ _ _, v, xs, rfl, hS', ?_, ?_⟩
    · exact ownsRow_putObj HC.out.row _ hK rfl
    · have := (HC.out.stab (T' := T) (chg_putObj W D (.deferred none) hTD) (fun k hk => ⟨Or.inl hk, by rw [size_putObj]; exact (hT k hk).2⟩)).below
      exact this
  case stop =>
    rintro D T c pre W _ _ h
    exact h.elim
end Go.Proofs.YtoiiaankpnhppaaGreatDoor
namespace Go.Proofs.YtoiiaankpnhppaaGreatDoor
open Go.RowKit Go.Maps Go.WideMaps Go.Shelf Go.Sort

theorem dcells_get : ∀ (ns : List Nat) (i : Nat) (h : i < ns.length), (dcells ns)[i * 2]? = some (.int .i64 (who ns[i] : Int)) ∧ (dcells ns)[i * 2 + 1]? = some (.int .i64 (nth ns[i] : Int)) := by
  intro ns
  induction ns with
  | nil => intro i h; simp at h
  | cons n r ih =>
    intro i h
    have e : dcells (n :: r) = [.int .i64 (who n : Int), .int .i64 (nth n : Int)] ++ dcells r := rfl
    rw [e]
    cases i with
    | zero => exact ⟨rfl, rfl⟩
    | succ i =>
      have := ih i (by simpa using h)
      rw [show (i + 1) * 2 = i * 2 + 2 by omega]
      exact ⟨by rw [List.getElem?_append_right (by simp)]; simpa using this.1, by rw [List.getElem?_append_right (by simp)]; simpa using this.2⟩

def encDot (n : Nat) : List Value := [.int .i64 (who n : Int), .int .i64 (nth n : Int)]
theorem ownsRow_holdsK {w : World} {base g cap : Nat} {ns : List Nat} (h : w.ownsRow base 121 2 (.slice (some ⟨g, 0, none⟩) ns.length cap) ns.length (dcells ns)) : HoldsK encDot 2 w g 0 ns.toArray := by
  intro j hj
  rw [size_flatK] at hj
  simp at hj
  have hf : w.frozen? ⟨g, 0 + j, none⟩ = false := by
    obtain ⟨_, ⟨h1, _⟩ | ⟨g', cap', cur, hv, _, hh, _⟩⟩ := h
    · cases h1
    · simp only [Value.slice.injEq, Option.some.injEq, Addr.mk.injEq, true_and, and_true] at hv
      obtain ⟨rfl, rfl⟩ := hv
      simp [World.frozen?, hh]
  refine ⟨?_, hf⟩
  rw [get_flatK _ _ _ _ (by simpa using hj), Nat.zero_add, h.cellAt j hj]
  have hi : j / 2 < ns.length := by omega
  have hg := dcells_get ns (j / 2) hi
  have e1 : ns.toArray[j / 2]! = ns[j / 2] := by simp [hi]
  rw [e1]
  rcases Nat.mod_two_eq_zero_or_one j with h0 | h0
  · have e : j = j / 2 * 2 := by omega
    rw [h0]
    conv => lhs; rw [e]
    rw [hg.1]; (first | done | rfl)
  · have e : j = j / 2 * 2 + 1 := by omega
    rw [h0]
    conv => lhs; rw [e]
    rw [hg.2]; (first | done | rfl)

theorem ltDot (x y : Nat) : ltOf (fun x y : Nat => Lib.compareInt x y) x y = decide (x < y) := by
  unfold ltOf Lib.compareInt
  by_cases h1 : (x : Int) < y
  · have : x < y := by omega
    simp [this]
  · have h3 : ¬ x < y := by omega
    by_cases h2 : (y : Int) < x
    · have : y < x := by omega
      simp [h3, this]
    · have : ¬ y < x := by omega
      simp [h3, this]
theorem swoDot : SWO (ltOf fun x y : Nat => Lib.compareInt x y) := {
  irrefl x := by rw [ltDot]; simp
  trans x y z h1 h2 := by rw [ltDot] at *; simp at *; omega
  ntrans x y z h1 h2 := by rw [ltDot] at *; simp at *; omega }
theorem cmpLaysDot (blk off size : Nat) (w : World) : CmpLays Tryz.prog 168 #[] encDot 2 (fun x y : Nat => Lib.compareInt x y) blk off size w :=
  fun _ _ _ _ x y => compare_any _ x y
theorem Tryz.isAggDot (w : World) : (isAgg 121).run Tryz.prog w = .ok true w := by kernel_rfl
theorem Tryz.sizeOfDot (w : World) : (Go.sizeOf 121).run Tryz.prog w = .ok 2 w := by kernel_rfl

theorem heap_sortWorldK {α : Type} [Inhabited α] (enc : α → List Value) (k : Nat) (w : World) (blk off m : Nat) (dk : Array α) (os : Array Obj) : Chg (fun b => b = blk) w (sortWorldK enc k w blk off m dk os) := by
  refine ⟨rfl, rfl, rfl, size_sortWorldK_c enc k w blk off m dk os, fun b hb hne => ?_⟩
  unfold sortWorldK
  rw [heap_grow_old _ _ (by simp [putRowK, putRow, mapBlock, Sort.ahead]; exact hb)]
  simp only [putRowK, putRow, mapBlock, Sort.ahead]
  rw [Array.getElem?_modify]
  rw [if_neg (fun e => hne (Eq.symm e))]

set_option maxHeartbeats 1000000 in
theorem SortFunc_any (w : World) (base : Nat) (v : Value) (ns : List Nat) (h : w.ownsRow base 121 2 v ns.length (dcells ns)) (hl : ns.length ≤ 4000) :
    Calls Tryz.prog 210 #[v, .func (.func 168) #[] #[]] w fun e w' => e = .returned (.tuple #[]) ∧ ∃ ns', ns'.Perm ns ∧ SliceD w' v ns' ∧ Chg (fun k => v.ownBlock = some k) w w' := by
  have h0 := h
  obtain ⟨hx, ⟨rfl, hn⟩ | ⟨g, cap, cur, rfl, hg, hh, hnc, _⟩⟩ := h
  · have hns : ns = [] := List.eq_nil_of_length_eq_zero hn
    subst hns
    refine Calls.mono (AnyF.slices_SortFunc_none Tryz.sortDot none 0 _ w) ?_
    rintro e w' ⟨rfl, rfl⟩
    exact ⟨rfl, [], List.Perm.refl _, Or.inl ⟨rfl, rfl⟩, Chg.refl _ _⟩
  · have hH := ownsRow_holdsK h0
    have hblk : g < w.heap.size := (h0.lt g rfl).2
    have hcon := AnyQ.slices_SortFunc Tryz.sortDot 2 Tryz.isAggDot Tryz.sizeOfDot encDot (fun _ => rfl) (fun x v hv => by simp [encDot] at hv; rcases hv with rfl | rfl <;> rfl) (fun x y : Nat => Lib.compareInt x y) swoDot 168 #[] g 0 cap ns.toArray w (enters_of Tryz.func168 (by kernel_rfl) rfl) (cmpLaysDot g 0 _ w) hH hblk (by simp; omega)
    refine Calls.mono hcon ?_
    rintro e w' ⟨rfl, d', m, os, ⟨hsz, _, hp⟩, _, rfl⟩
    have hH' := holdsK_sortWorldK encDot 2 w g 0 m ns.toArray d' os hblk hH hsz
    have hperm : d'.toList.Perm ns := by
      have e1 : (d'.extract 0 ns.toArray.size) = d' := by rw [← hsz]; exact Array.extract_size
      have e2 : (ns.toArray.extract 0 ns.toArray.size) = ns.toArray := Array.extract_size
      rw [e1, e2] at hp
      simpa using hp
    have hlen : d'.toList.length = ns.length := hperm.length_eq
    refine ⟨rfl, d'.toList, hperm, Or.inr ⟨g, 0, cap, by rw [hlen], by rw [hlen]; exact hnc, lt_sortWorldK _ _ _ _ _ _ _ _ hblk, fun j hj => ?_⟩, (heap_sortWorldK encDot 2 w g 0 m d' os).mono (fun k _ hk => by subst hk; rfl)⟩
    have hj' : j < d'.size := by simpa using hj
    have c0 := (hH'.cell hj' (c := 0) (by omega)).1
    have c1 := (hH'.cell hj' (c := 1) (by omega)).1
    have e : d'[j]! = d'.toList[j] := by simp [hj']
    rw [e] at c0 c1
    exact ⟨c0, c1⟩
end Go.Proofs.YtoiiaankpnhppaaGreatDoor

