import Derived.Test.YtmnnojekcloblaaGreatDoorPart13
set_option linter.unusedVariables false
set_option linter.unusedSimpArgs false
namespace Go.Proofs.YtmnnojekcloblaaGreatDoor
open Go.RowKit Go.Maps Go.WideMaps Go.MuLone

theorem Glob.chg4 {M : Nat → Prop} {w w' : World} (h : Glob w) (hc : Chg M w w') (h4 : ∀ k, M k → 4 ≤ k) : Glob w' := by
  obtain ⟨⟨m, g1⟩, ⟨e1, g2, g2'⟩, ⟨e2, g3, g3'⟩, g4, g5⟩ := h
  have hb4 : Below 4 w w' := ⟨hc.os, hc.tape, hc.output, hc.size, fun k hk => hc.block k (by omega) (fun hk2 => by have := h4 k hk2; omega)⟩
  refine ⟨⟨m, (hb4.cell (p := ⟨0, 0, none⟩) (by decide)).trans g1⟩, ⟨e1, (hb4.cell (p := ⟨1, 0, none⟩) (by decide)).trans g2, g2'⟩, ⟨e2, (hb4.cell (p := ⟨2, 0, none⟩) (by decide)).trans g3, g3'⟩, ?_, Nat.lt_of_lt_of_le g5 hb4.size⟩
  exact var?_below (g := 3) hb4 (by kernel_rfl) (by decide) g4

/-- What Ask answers. -/
def AskOut (ds : List RepD) (i : Int) (s t : ByteArray) (r : Int) : Prop :=
  (¬ (0 ≤ i ∧ i < ds.length) ∧ t = ⟨#[]⟩ ∧ r = 2) ∨ ((0 ≤ i ∧ i < ds.length) ∧ Thk.path (toL s) = false ∧ t = ⟨#[]⟩ ∧ r = 4) ∨
  ∃ k, ∃ h : k < ds.length, i = (k : Int) ∧ Thk.path (toL s) = true ∧ r = 0 ∧ ∃ xs, SAll (itOf ds[k].C) xs ∧ t = ⟨(tellP (toL s) xs).toArray⟩

set_option maxHeartbeats 4000000 in
set_option maxRecDepth 100000 in
theorem CAsk_any (w : World) (hG : Glob w) (x q cap : Nat) (ds : List RepD) (hC : CluP w x q cap 0 ds) (hok : ∀ j (h : j < ds.length), ItmsOK (SAll (itOf ds[j].C))) (i : Int) (s : ByteArray) (hs : s.size ≤ 1048576) :
    Calls Tryz.prog 9 #[.pointer (some ⟨x, 0, none⟩), .int .i64 i, .string s] w fun e w' => ∃ t r, e = .returned (.tuple #[.string t, .int .i64 r]) ∧ AskOut ds i s t r ∧ CluP w' x q cap 0 ds ∧ Chg (fun k => k = x) w w' := by
  have Hok : Hid (∀ j (h : j < ds.length), ItmsOK (SAll (itOf ds[j].C))) := hok
  clear hok
  have HC : Hid (CluP w x q cap 0 ds) := hC
  have k0 : w.cell? ⟨x, 0, none⟩ = some (.int .i32 0) := (hC.blk.cell 0).trans rfl
  have z0 : w.frozen? ⟨x, 0, none⟩ = false := hC.blk.frozen 0
  have HC1 : Hid (CluP (w.setCell ⟨x, 0, none⟩ (.int .i32 1)) x q cap 1 ds) := hC.turn 1
  have HG : Hid (Glob w) := hG
  clear hC hG
  go_enter_defers Tryz.func9, Tryz.ntmps9
  go_wp2_with (go_at_call 21; refine (lock_free YtmnnojekcloblaaGreatDoor.muLib ⟨x, 0, none⟩ _ k0 z0).mono ?_; rintro e w' ⟨rfl, rfl⟩)
  have h1b : Below (w.setCell ⟨x, 0, none⟩ (.int .i32 1)).heap.size (w.setCell ⟨x, 0, none⟩ (.int .i32 1)) ((w.setCell ⟨x, 0, none⟩ (.int .i32 1)).alloc (.cells #[.int .i64 i] 3)) := (Below.refl _ _).alloc (Nat.le_refl _) _
  have hgc : ((w.setCell ⟨x, 0, none⟩ (.int .i32 1)).alloc (.cells #[.int .i64 i] 3)).cell? ⟨w.heap.size, 0, none⟩ = some (.int .i64 i) := by
    have := (Blk.new (w.setCell ⟨x, 0, none⟩ (.int .i32 1)) #[.int .i64 i] 3).cell 0
    simpa using this
  have hch : Chg (fun k => k = x) w ((w.setCell ⟨x, 0, none⟩ (.int .i32 1)).alloc (.cells #[.int .i64 i] 3)) := (chg_turn (M := fun k => k = x) rfl _).below h1b
  have HB := HC1.out.below h1b
  refine Calls.mono (named_any _ x q cap 1 ds HB w.heap.size i hgc) ?_
  rintro e w1 ⟨rfl, hw1⟩
  rw [← hw1] at HB hch
  clear hgc h1b hw1 HC1 k0 z0
  have G1 : Hid (Glob w1) := HG.out.chg4 hch (fun k e => by subst e; exact HC.out.x4)
  have HC1 : Hid (CluP w1 x q cap 1 ds) := HB
  have Hch : Hid (Chg (fun k => k = x) w w1) := hch
  clear HB hch HC HG
  by_cases hi : 0 ≤ i ∧ i < ds.length
  · obtain ⟨k, rfl⟩ := Int.eq_ofNat_of_zero_le hi.1
    have hk : k < ds.length := by omega
    have Hi : Hid (_) := hi
    have hn : namedR ds.length (k : Int) = 0 := by unfold namedR; rw [if_pos hi]
    rw [hn]
    clear hn hi
    obtain ⟨m, hm⟩ := G1.out.len
    have HP : Hid (_) := ReadPath_any s m w1 hs hm
    clear hm
    go_wp2_with fail
    refine Calls.mono HP.out ?_
    rintro e w2 ⟨rfl, hb2⟩
    have HC2 : Hid (CluP w2 x q cap 1 ds) := HC1.out.below hb2
    have Hch2 : Hid (Chg (fun k => k = x) w w2) := Hch.out.below hb2
    have G2 : Hid (Glob w2) := G1.out.mono hb2
    clear HP HC1 Hch G1 hb2
    cases hp : Thk.path (toL s) with
    | false =>
      have Hp : Hid (_) := hp
      clear hp
      go_wp2_with fail
      refine leaves_cons (f := 22) (args := #[.pointer (some ⟨x, 0, none⟩)]) (by simp) (by simp [go_sem]) ?_
      refine (unlock_deferred YtmnnojekcloblaaGreatDoor.muLib ⟨x, 0, none⟩ .returning _ ((HC2.out.blk.cell 0).trans rfl) (HC2.out.blk.frozen 0)).mono ?_
      rintro e u' w9 ⟨rfl, rfl, rfl⟩
      exact ⟨_, results_tmp2 rfl _ _ _, _, _, rfl, Or.inr (Or.inl ⟨Hi.out, Hp.out, rfl, rfl⟩), HC2.out.turn 0, Chg.setCell (M := fun k => k = x) (p := ⟨x, 0, none⟩) Hch2.out rfl _⟩
    | true =>
      have HT : Hid (_) := RepTell_any w2 G2.out _ _ _ _ _ _ _ (HC2.out.rep k hk) (Hok.out k hk) s hs hp
      have Hp : Hid (_) := hp
      have c2 : w2.cell? ⟨x, 2, none⟩ = some (.slice (some ⟨q, 0, none⟩) ds.length cap) := (HC2.out.blk.cell 2).trans rfl
      have cq := HC2.out.cell k hk
      clear hp G2
      go_wp2_with fail
      refine Calls.mono HT.out ?_
      rintro e w3 ⟨xs, hx, rfl, hb3⟩
      have HC3 : Hid (CluP w3 x q cap 1 ds) := HC2.out.below hb3
      have Hch3 : Hid (Chg (fun k => k = x) w w3) := Hch2.out.below hb3
      have Hx : Hid (_) := hx
      clear HT HC2 Hch2 hb3 c2 cq hx
      generalize ht : (⟨(tellP (toL s) xs).toArray⟩ : ByteArray) = tt at *
      have Ht : Hid (_) := ht.symm
      clear ht
      go_wp2_with fail
      refine leaves_cons (f := 22) (args := #[.pointer (some ⟨x, 0, none⟩)]) (by simp) (by simp [go_sem]) ?_
      refine (unlock_deferred YtmnnojekcloblaaGreatDoor.muLib ⟨x, 0, none⟩ .returning _ ((HC3.out.blk.cell 0).trans rfl) (HC3.out.blk.frozen 0)).mono ?_
      rintro e u' w9 ⟨rfl, rfl, rfl⟩
      exact ⟨_, results_tmp2 rfl _ _ _, _, _, rfl, Or.inr (Or.inr ⟨k, hk, rfl, Hp.out, rfl, xs, Hx.out, Ht.out⟩), HC3.out.turn 0, Chg.setCell (M := fun k => k = x) (p := ⟨x, 0, none⟩) Hch3.out rfl _⟩
  · have hn : namedR ds.length i = 2 := by unfold namedR; rw [if_neg hi]
    have Hi : Hid (_) := hi
    rw [hn]
    clear hn hi
    go_wp2_with fail
    refine leaves_cons (f := 22) (args := #[.pointer (some ⟨x, 0, none⟩)]) (by simp) (by simp [go_sem]) ?_
    refine (unlock_deferred YtmnnojekcloblaaGreatDoor.muLib ⟨x, 0, none⟩ .returning _ ((HC1.out.blk.cell 0).trans rfl) (HC1.out.blk.frozen 0)).mono ?_
    rintro e u' w9 ⟨rfl, rfl, rfl⟩
    exact ⟨_, results_tmp2 rfl _ _ _, _, _, rfl, Or.inl ⟨Hi.out, rfl, rfl⟩, HC1.out.turn 0, Chg.setCell (M := fun k => k = x) (p := ⟨x, 0, none⟩) Hch.out rfl _⟩
end Go.Proofs.YtmnnojekcloblaaGreatDoor

namespace Go.Proofs.YtmnnojekcloblaaGreatDoor
open Go.RowKit Go.Maps Go.WideMaps

/-- What lies at the dots behind a change. -/
def stepC (C : Nat → Option Thk.Ch) (c : Thk.Ch) (n : Nat) : Nat → Option Thk.Ch := fun k =>
  if k = n + 1 then (if effB c.act = true then some c else none) else (match C k with | some e => if covC c.path c.act (toL (keptVal c.act ⟨c.val.toArray⟩)) e = true then none else some e | none => none)

/-- The three stores that Accept joins. -/
theorem accept_math {C : Nat → Option Thk.Ch} {c : Thk.Ch} {n : Nat} {ns : List Nat} {s1 s2 s3 : StD} {It : Nat → Option Value} (hC : ∀ k, C k ≠ none → 1 ≤ k ∧ k ≤ n)
    (hns : ∀ k, k ∈ ns ↔ ∃ e, C k = some e ∧ covC c.path c.act (toL (keptVal c.act ⟨c.val.toArray⟩)) e = true)
    (e1 : s1.S = fun k => k ≤ n) (i1 : s1.It = itOf C) (e2 : s2.S = fun k => k ∈ ns) (i2 : s2.It = fun _ => none) (e3 : s3.S = fun k => k = n + 1) (i3 : s3.It = fun k => if k = n + 1 ∧ effB c.act = true then some (chV c) else none)
    (p1 : ∀ k v, It k = some v → (∃ s ∈ [s1, s2, s3], s.It k = some v) ∧ ¬ goneAt [s1, s2, s3] k) (p2 : ∀ k, (∃ s ∈ [s1, s2, s3], s.It k ≠ none) → ¬ goneAt [s1, s2, s3] k → It k ≠ none) :
    It = itOf (stepC C c n) ∧ ∀ k, 1 ≤ k → ((∃ s ∈ [s1, s2, s3], s.S k) ↔ k ≤ n + 1) := by
  have hex : ∀ (Q : StD → Prop), (∃ s ∈ [s1, s2, s3], Q s) ↔ Q s1 ∨ Q s2 ∨ Q s3 := fun Q => by simp
  have hgone : ∀ k, goneAt [s1, s2, s3] k ↔ (C k = none ∧ k ≤ n) ∨ k ∈ ns ∨ (k = n + 1 ∧ ¬ effB c.act = true) := fun k => by
    unfold goneAt
    rw [hex]
    simp only [e1, i1, e2, i2, e3, i3, itOf]
    constructor
    · rintro (⟨h1, h2⟩ | ⟨_, h2⟩ | ⟨h1, h2⟩)
      · exact Or.inl ⟨by simpa using h1, h2⟩
      · exact Or.inr (Or.inl h2)
      · refine Or.inr (Or.inr ⟨h2, fun h => ?_⟩)
        rw [if_pos ⟨h2, h⟩] at h1; cases h1
    · rintro (⟨h1, h2⟩ | h2 | ⟨h1, h2⟩)
      · exact Or.inl ⟨by simpa using h1, h2⟩
      · exact Or.inr (Or.inl ⟨by simp, h2⟩)
      · exact Or.inr (Or.inr ⟨if_neg (fun h => h2 h.2), h1⟩)
  have hsome : ∀ k v, (∃ s ∈ [s1, s2, s3], s.It k = some v) ↔ (itOf C k = some v) ∨ (k = n + 1 ∧ effB c.act = true ∧ v = chV c) := fun k v => by
    rw [hex]
    simp only [i1, i2, i3]
    constructor
    · rintro (h | h | h)
      · exact Or.inl h
      · cases h
      · split at h
        · rename_i hh; cases h; exact Or.inr ⟨hh.1, hh.2, rfl⟩
        · cases h
    · rintro (h | ⟨h1, h2, rfl⟩)
      · exact Or.inl h
      · exact Or.inr (Or.inr (if_pos ⟨h1, h2⟩))
  have hn1 : C (n + 1) = none := by
    cases h : C (n + 1) with
    | none => rfl
    | some e => have := hC (n + 1) (by rw [h]; simp); omega
  constructor
  · funext k
    unfold itOf stepC
    by_cases hk : k = n + 1
    · subst hk
      rw [if_pos rfl]
      by_cases he : effB c.act = true
      · rw [if_pos he]
        have hng : ¬ goneAt [s1, s2, s3] (n + 1) := by
          rw [hgone]
          rintro (⟨_, h⟩ | h | ⟨_, h⟩)
          · omega
          · obtain ⟨e, h1, _⟩ := (hns _).1 h
            rw [hn1] at h1; cases h1
          · exact h he
        obtain ⟨v, hv⟩ := Option.ne_none_iff_exists'.1 (p2 (n + 1) ((hex _).2 (Or.inr (Or.inr (by rw [i3]; simp [he])))) hng)
        rw [hv]
        rcases (hsome _ _).1 (p1 _ _ hv).1 with h | ⟨_, _, rfl⟩
        · simp [itOf, hn1] at h
        · rfl
      · rw [if_neg he]
        cases hv : It (n + 1) with
        | none => rfl
        | some v => exact absurd ((hgone _).2 (Or.inr (Or.inr ⟨rfl, he⟩))) (p1 _ _ hv).2
    · rw [if_neg hk]
      cases hCk : C k with
      | none =>
        cases hv : It k with
        | none => rfl
        | some v =>
          rcases (hsome _ _).1 (p1 _ _ hv).1 with h | ⟨h, _⟩
          · simp [itOf, hCk] at h
          · exact absurd h hk
      | some e =>
        have hr := hC k (by rw [hCk]; simp)
        by_cases hcv : covC c.path c.act (toL (keptVal c.act ⟨c.val.toArray⟩)) e = true
        · simp only [hcv, if_true]
          cases hv : It k with
          | none => rfl
          | some v => exact absurd ((hgone _).2 (Or.inr (Or.inl ((hns k).2 ⟨e, hCk, hcv⟩)))) (p1 _ _ hv).2
        · simp only [hcv]
          have hng : ¬ goneAt [s1, s2, s3] k := by
            rw [hgone]
            rintro (⟨h, _⟩ | h | ⟨h, _⟩)
            · rw [hCk] at h; cases h
            · obtain ⟨e', h1, h2⟩ := (hns k).1 h
              rw [hCk] at h1; cases h1; exact hcv h2
            · exact hk h
          obtain ⟨v, hv⟩ := Option.ne_none_iff_exists'.1 (p2 k ((hex _).2 (Or.inl (by rw [i1]; simp [itOf, hCk]))) hng)
          rw [hv]
          rcases (hsome _ _).1 (p1 _ _ hv).1 with h | ⟨h, _⟩
          · simp [itOf, hCk] at h; simp [h]
          · exact absurd h hk
  · intro k hk
    rw [hex]
    simp only [e1, e2, e3]
    constructor
    · rintro (h | h | h)
      · omega
      · obtain ⟨e, h1, _⟩ := (hns k).1 h
        have := hC k (by rw [h1]; simp); omega
      · omega
    · intro h
      by_cases e : k = n + 1
      · exact Or.inr (Or.inr e)
      · exact Or.inl (by omega)
end Go.Proofs.YtmnnojekcloblaaGreatDoor

namespace Go.Proofs.YtmnnojekcloblaaGreatDoor
open Go.RowKit Go.Maps Go.WideMaps

theorem bl_alloc {w w' : World} (h : Below w.heap.size w w') (o : Obj) : Below w.heap.size w (w'.alloc o) := h.alloc h.size o
theorem bl_set {w w' : World} (h : Below w.heap.size w w') {b i : Nat} (hb : w.heap.size ≤ b) (u : Value) : Below w.heap.size w (w'.setCell ⟨b, i, none⟩ u) := h.setCell (p := ⟨b, i, none⟩) hb u

theorem zfacts {w1 w3 : World} {x y : Value} {t : TypeId} (h : Below (w1.alloc (.cells #[x, y] t)).drew.heap.size (w1.alloc (.cells #[x, y] t)).drew w3) : w3.cell? ⟨w1.heap.size, 0, none⟩ = some x ∧ w3.cell? ⟨w1.heap.size, 1, none⟩ = some y ∧ ∀ i, w3.frozen? ⟨w1.heap.size, i, none⟩ = false := by
  have k : Blk w3 w1.heap.size #[x, y] t := (h.block _ (by show _ < (w1.alloc _).heap.size; simp)).trans (Blk.new w1 _ _)
  exact ⟨(k.cell 0).trans rfl, (k.cell 1).trans rfl, k.frozen⟩
theorem kcfact1 {w1 w3 : World} {b : Nat} {cs : Array Value} {t : TypeId} (h : Below w1.drew.heap.size w1.drew w3) (k : Blk w1 b cs t) : Blk w3 b cs t := (h.block b k.lt).trans k
theorem kcfact2 {w1 w3 : World} {o : Obj} {b : Nat} {cs : Array Value} {t : TypeId} (h : Below (w1.alloc o).drew.heap.size (w1.alloc o).drew w3) (k : Blk w1 b cs t) : Blk w3 b cs t := (h.block b (by have := k.lt; show b < (w1.alloc o).heap.size; simp; omega)).trans (k.alloc o)
theorem zblk {w1 w3 : World} {x y : Value} {t : TypeId} (h : Below (w1.alloc (.cells #[x, y] t)).drew.heap.size (w1.alloc (.cells #[x, y] t)).drew w3) : Blk w3 w1.heap.size #[x, y] t := (h.block _ (by show _ < (w1.alloc _).heap.size; simp)).trans (Blk.new w1 _ _)
theorem blk_set2 {w : World} {b : Nat} {x y u v : Value} {t : TypeId} (h : Blk w b #[x, y] t) : Blk ((w.setCell ⟨b, 0, none⟩ u).setCell ⟨b, 1, none⟩ v) b #[u, v] t := by
  unfold Blk at *
  simp [World.setCell, Array.getElem?_modify, h]
theorem blk_oth {w : World} {b b' i : Nat} {u : Value} {cs : Array Value} {t : TypeId} (h : Blk w b cs t) (hne : b ≠ b') : Blk (w.setCell ⟨b', i, none⟩ u) b cs t := (Below.heap_setCell w ⟨b', i, none⟩ u b hne).trans h
theorem bl_drew {w w' : World} (h : Below w.heap.size w w') : Below w.heap.size w w'.drew := h.drew

theorem accept_join {w wz : World} {rb a n : Nat} {io co lo : Option Nat} {C : Nat → Option Thk.Ch} {c : Thk.Ch} {ns : List Nat} {gi gc gl xi xc xl B : Nat} (HR : ∀ wx, Below w.heap.size w wx → RepP wx rb a io co lo n C) (hC : ∀ k, C k ≠ none → 1 ≤ k ∧ k ≤ n) (hCp : ∀ k e, C k = some e → e.path.length ≤ 1048576)
    (hns : ∀ k, k ∈ ns ↔ ∃ e, C k = some e ∧ covC c.path c.act (toL (keptVal c.act ⟨c.val.toArray⟩)) e = true) (hb : Below w.heap.size w wz) (hg : StoreS wz gi gc gl a (fun k => k ∈ ns) (fun _ => none)) (hx : StoreS wz xi xc xl a (fun k => k = n + 1) (fun k => if k = n + 1 ∧ effB c.act = true then some (chV c) else none))
    (hB : w.heap.size ≤ B) (hgn : w.heap.size ≤ gi ∧ w.heap.size ≤ gc ∧ w.heap.size ≤ gl) (hxn : B ≤ xi ∧ B ≤ xc ∧ B ≤ xl) (hn : n + 1 ≤ 500) (a5 : a ≤ 5) (hcp : c.path.length ≤ 1048576) :
    Calls Tryz.prog 66 #[.slice (some ⟨wz.heap.size, 0, none⟩) 3 3] (wz.alloc (.cells #[.map io, .map co, .map lo, .map (some gi), .map (some gc), .map (some gl), .map (some xi), .map (some xc), .map (some xl)] 105)).drew
      fun e w9 => ∃ ib cb lb, e = .returned (.agg #[.map (some ib), .map (some cb), .map (some lb)]) ∧ w9.cell? ⟨rb, 1, none⟩ = some (.map io) ∧ w9.cell? ⟨rb, 2, none⟩ = some (.map co) ∧ w9.cell? ⟨rb, 3, none⟩ = some (.map lo) ∧ (∀ i, w9.frozen? ⟨rb, i, none⟩ = false) ∧
        RepP (((w9.setCell ⟨rb, 1, none⟩ (.map (some ib))).setCell ⟨rb, 2, none⟩ (.map (some cb))).setCell ⟨rb, 3, none⟩ (.map (some lb))) rb a (some ib) (some cb) (some lb) (n + 1) (stepC C c n) ∧ (w.heap.size ≤ ib ∧ w.heap.size ≤ cb ∧ w.heap.size ≤ lb) ∧ Chg (fun k => k = rb) w (((w9.setCell ⟨rb, 1, none⟩ (.map (some ib))).setCell ⟨rb, 2, none⟩ (.map (some cb))).setCell ⟨rb, 3, none⟩ (.map (some lb))) := by
  have hbz : Below wz.heap.size wz (wz.alloc (.cells #[.map io, .map co, .map lo, .map (some gi), .map (some gc), .map (some gl), .map (some xi), .map (some xc), .map (some xl)] 105)).drew := ((Below.refl _ wz).alloc (Nat.le_refl _) _).drew
  have kS : Blk (wz.alloc (.cells #[.map io, .map co, .map lo, .map (some gi), .map (some gc), .map (some gl), .map (some xi), .map (some xc), .map (some xl)] 105)).drew wz.heap.size #[.map io, .map co, .map lo, .map (some gi), .map (some gc), .map (some gl), .map (some xi), .map (some xc), .map (some xl)] 105 := Blk.new wz _ _
  have hbw : Below w.heap.size w (wz.alloc (.cells #[.map io, .map co, .map lo, .map (some gi), .map (some gc), .map (some gl), .map (some xi), .map (some xc), .map (some xl)] 105)).drew := hb.trans (hbz.mono hb.size)
  generalize (wz.alloc (.cells #[.map io, .map co, .map lo, .map (some gi), .map (some gc), .map (some gl), .map (some xi), .map (some xc), .map (some xl)] 105)).drew = wy at *
  obtain ⟨s1, hs1⟩ : ∃ s : StD, s = ⟨io, co, lo, fun k => k ≤ n, itOf C⟩ := ⟨_, rfl⟩
  obtain ⟨s2, hs2⟩ : ∃ s : StD, s = ⟨some gi, some gc, some gl, fun k => k ∈ ns, fun _ => none⟩ := ⟨_, rfl⟩
  obtain ⟨s3, hs3⟩ : ∃ s : StD, s = ⟨some xi, some xc, some xl, fun k => k = n + 1, fun k => if k = n + 1 ∧ effB c.act = true then some (chV c) else none⟩ := ⟨_, rfl⟩
  have hR := HR _ hbw
  have hSl : SliceS wy wz.heap.size 0 a [s1, s2, s3] := by
    refine ⟨kS.lt, ?_, ?_, ?_, ?_⟩
    · intro j hj
      match j, hj with
      | 0, _ => rw [kS.cell]; simp [hs1]
      | 1, _ => rw [kS.cell]; simp [hs2]
      | 2, _ => rw [kS.cell]; simp [hs3]
    · intro j hj
      match j, hj with
      | 0, _ => rw [kS.cell]; simp [hs1]
      | 1, _ => rw [kS.cell]; simp [hs2]
      | 2, _ => rw [kS.cell]; simp [hs3]
    · intro j hj
      match j, hj with
      | 0, _ => rw [kS.cell]; simp [hs1]
      | 1, _ => rw [kS.cell]; simp [hs2]
      | 2, _ => rw [kS.cell]; simp [hs3]
    · intro s hs
      simp only [List.mem_cons, List.mem_nil_iff, or_false] at hs
      rcases hs with rfl | rfl | rfl
      · rw [hs1]; exact ⟨hR.st, fun k v h => itOf_item h⟩
      · rw [hs2]; exact ⟨(hg.below hbz).toR, fun k v h => by cases h⟩
      · rw [hs3]; exact ⟨(hx.below hbz).toR, fun k v h => by simp only at h; split at h; (cases h; exact ⟨_, _, _, _, rfl⟩); cases h⟩
  refine Calls.mono (Join_any wy a wz.heap.size 0 3 [s1, s2, s3] hSl (by simp) (by simp) a5) ?_
  rintro e w9 ⟨ib, cb, lb, It, rfl, hst, p1, p2, hnew, hb9⟩
  have hmath := accept_math hC hns (s1 := s1) (s2 := s2) (s3 := s3) (by rw [hs1]) (by rw [hs1]) (by rw [hs2]) (by rw [hs2]) (by rw [hs3]) (by rw [hs3]) p1 p2
  have hR9 := hR.below hb9
  have hy := hbw.size
  have hrb : rb < w.heap.size := by
    have := (HR w (Below.refl _ w)).blk.lt; exact this
  refine ⟨ib, cb, lb, rfl, (hR9.blk.cell 1).trans rfl, (hR9.blk.cell 2).trans rfl, (hR9.blk.cell 3).trans rfl, hR9.blk.frozen, ?_, by omega, ?_⟩
  · have hch : Chg (fun k => k = rb) w9 (((w9.setCell ⟨rb, 1, none⟩ (.map (some ib))).setCell ⟨rb, 2, none⟩ (.map (some cb))).setCell ⟨rb, 3, none⟩ (.map (some lb))) := (((Chg.refl (fun k => k = rb) w9).setCell (p := ⟨rb, 1, none⟩) rfl _).setCell (p := ⟨rb, 2, none⟩) rfl _).setCell (p := ⟨rb, 3, none⟩) rfl _
    have hst2 := hst.chg hch (by omega) (by omega) (by omega)
    refine ⟨?_, ?_, ?_, hn, a5⟩
    · have := hR9.blk
      unfold Blk at this ⊢
      simp [World.setCell, Array.getElem?_modify, this]
    · rw [← hmath.1]
      have h3 : StoreS _ ib cb lb a (fun k => k ≤ n + 1) It := ⟨hst2.ctx.iff (fun k hk => (hmath.2 k hk).symm), hst2.its, hst2.ne, fun k hk => by have := hst2.ok k hk; exact ⟨this.1, this.2.1, (hmath.2 k this.1).1 this.2.2⟩⟩
      exact h3.toR
    · intro k e he
      unfold stepC at he
      split at he
      · split at he
        · cases he; exact hcp
        · cases he
      · cases hk : C k with
        | none => rw [hk] at he; cases he
        | some e' =>
          rw [hk] at he
          simp only at he
          split at he
          · cases he
          · cases he; exact hCp k _ hk
  · have h1 : Chg (fun k => k = rb) w w9 := Chg.of_below (hbw.trans (hb9.mono hbw.size))
    exact ((h1.setCell (p := ⟨rb, 1, none⟩) rfl _).setCell (p := ⟨rb, 2, none⟩) rfl _).setCell (p := ⟨rb, 3, none⟩) rfl _

set_option maxHeartbeats 8000000 in
set_option maxRecDepth 100000 in
theorem Accept_any (w : World) (rb a : Nat) (io co lo : Option Nat) (n : Nat) (C : Nat → Option Thk.Ch) (hR : RepP w rb a io co lo n C) (c : Thk.Ch) (hn : n + 1 ≤ 500) (hcp : c.path.length ≤ 1048576) (m : Int) (hm : w.cell? ⟨0, 0, none⟩ = some (.int .i64 m)) :
    Calls Tryz.prog 26 #[.pointer (some ⟨rb, 0, none⟩), chV c] w fun e w' => e = .returned (.tuple #[]) ∧ ∃ io' co' lo', RepP w' rb a (some io') (some co') (some lo') (n + 1) (stepC C c n) ∧ (w.heap.size ≤ io' ∧ w.heap.size ≤ co' ∧ w.heap.size ≤ lo') ∧ Chg (fun k => k = rb) w w' := by
  have h0l : 0 < w.heap.size := block_lt_of_cell hm
  have hrl := hR.blk.lt
  have HR : Hid (∀ wx, Below w.heap.size w wx → RepP wx rb a io co lo n C) := fun wx hb => hR.below hb
  have HCk : Hid (∀ k, C k ≠ none → 1 ≤ k ∧ k ≤ n) := fun k hk => by have := hR.st.ok k (itOf_none.2 hk); exact ⟨this.1, this.2.2⟩
  have HCp : Hid (∀ k e, C k = some e → e.path.length ≤ 1048576) := hR.ok
  have a5 := hR.a5
  have hmB : Hid (∀ wx, Below w.heap.size w wx → wx.cell? ⟨0, 0, none⟩ = some (.int .i64 m)) := fun wx hx => (hx.cell (p := ⟨0, 0, none⟩) h0l).trans hm
  have HX : Hid (∀ wx, Below w.heap.size w wx → Calls Tryz.prog 61 #[.agg #[.map io, .map co, .map lo], .int .i64 (a : Int)] wx fun e w' => e = .returned (.agg #[.int .i64 (a : Int), .int .i64 ((n + 1 : Nat) : Int)]) ∧ Below w.heap.size w w' ∧ Below wx.heap.size wx w') := fun wx hb => by
    refine Calls.mono (Next_any wx io co lo a n (HR.out wx hb).ctx) ?_
    rintro e w' ⟨rfl, hb2⟩
    exact ⟨rfl, hb.trans (hb2.mono hb.size), hb2⟩
  have Hcell : Hid (∀ wx, Below w.heap.size w wx → wx.cell? ⟨rb, 0, none⟩ = some (.int .i64 (a : Int)) ∧ wx.cell? ⟨rb, 1, none⟩ = some (.map io) ∧ wx.cell? ⟨rb, 2, none⟩ = some (.map co) ∧ wx.cell? ⟨rb, 3, none⟩ = some (.map lo)) := fun wx hb => ⟨((HR.out wx hb).blk.cell 0).trans rfl, ((HR.out wx hb).blk.cell 1).trans rfl, ((HR.out wx hb).blk.cell 2).trans rfl, ((HR.out wx hb).blk.cell 3).trans rfl⟩
  clear hR hm
  unfold chV
  go_enter Tryz.func26, Tryz.ntmps26
  go_wp2_with fail
  have hb1 : Below w.heap.size w (w.alloc (.cells #[.string ⟨c.path.toArray⟩, .int .u8 (c.act.toNat : Int), .string (keptVal c.act ⟨c.val.toArray⟩), .int .i64 c.n] 63)) := (Below.refl _ w).alloc (Nat.le_refl _) _
  have kc : Blk (w.alloc (.cells #[.string ⟨c.path.toArray⟩, .int .u8 (c.act.toNat : Int), .string (keptVal c.act ⟨c.val.toArray⟩), .int .i64 c.n] 63)) w.heap.size #[.string ⟨c.path.toArray⟩, .int .u8 (c.act.toNat : Int), .string (keptVal c.act ⟨c.val.toArray⟩), .int .i64 c.n] 63 := Blk.new w _ _
  generalize w.alloc (.cells #[.string ⟨c.path.toArray⟩, .int .u8 (c.act.toNat : Int), .string (keptVal c.act ⟨c.val.toArray⟩), .int .i64 c.n] 63) = w1 at *
  have q0 := (Hcell.out _ hb1).1
  have q1 := (Hcell.out _ hb1).2.1
  have q2 := (Hcell.out _ hb1).2.2.1
  have q3 := (Hcell.out _ hb1).2.2.2
  have hb0 : Below w.heap.size w w1.drew := hb1.drew
  have HKC : Hid (Blk w1 w.heap.size #[.string ⟨c.path.toArray⟩, .int .u8 (c.act.toNat : Int), .string (keptVal c.act ⟨c.val.toArray⟩), .int .i64 c.n] 63) := kc
  clear kc
  have HB1 : Hid (Below w.heap.size w w1) := hb1
  have qA0 : ∀ o, (w1.alloc o).cell? ⟨rb, 0, none⟩ = some (.int .i64 (a : Int)) := fun o => (Hcell.out _ (bl_alloc hb1 o)).1
  have qA1 : ∀ o, (w1.alloc o).cell? ⟨rb, 1, none⟩ = some (.map io) := fun o => (Hcell.out _ (bl_alloc hb1 o)).2.1
  have qA2 : ∀ o, (w1.alloc o).cell? ⟨rb, 2, none⟩ = some (.map co) := fun o => (Hcell.out _ (bl_alloc hb1 o)).2.2.1
  have qA3 : ∀ o, (w1.alloc o).cell? ⟨rb, 3, none⟩ = some (.map lo) := fun o => (Hcell.out _ (bl_alloc hb1 o)).2.2.2
  have hw1 : w.heap.size + 1 ≤ w1.heap.size := HKC.out.lt
  go_cut [4] from 7 to 15 (fun v4 wx => ∃ B4, v4 = .pointer (some ⟨B4, 0, none⟩) ∧ Blk wx B4 #[.int .i64 (a : Int), .int .i64 ((n + 1 : Nat) : Int)] 117 ∧ w.heap.size < B4 ∧ Below w.heap.size w wx ∧ Blk wx w.heap.size #[.string ⟨c.path.toArray⟩, .int .u8 (c.act.toNat : Int), .string (keptVal c.act ⟨c.val.toArray⟩), .int .i64 c.n] 63)
  case first =>
    go_region_with (first | (go_at_call 61; refine Calls.mono (HX.out _ (by (repeat' (first | assumption | (exact Below.size (by assumption)) | apply bl_drew | apply bl_alloc | apply bl_set)))) ?_; rintro e w3 ⟨rfl, hb3, hb13⟩; (first | (have hz := zfacts hb13; have z0 := hz.1; have z1 := hz.2.1; have zf := hz.2.2) | skip)))
    all_goals
      go_wp2_with fail
      go_meet
      first
        | exact ⟨_, rfl, Blk.new w3 _ _, (by have := hb13.size; have e : w1.drew.heap.size = w1.heap.size := rfl; omega), bl_alloc hb3 _, (kcfact1 hb13 HKC.out).alloc _⟩
        | exact ⟨_, rfl, blk_set2 (zblk hb13), (by omega), bl_set (bl_set hb3 (by omega) _) (by omega) _, blk_oth (blk_oth (kcfact2 hb13 HKC.out) (by omega)) (by omega)⟩
  case rest =>
  obtain ⟨B4, rfl, k4, hB4, hb3, kc3⟩ := hcut
  clear q0 q1 q2 q3 qA0 qA1 qA2 qA3 hb0 hb1 HKC HX HB1 hw1
  have g0 := (kc3.cell 0).trans rfl
  have g1 := (kc3.cell 1).trans rfl
  have g2 := (kc3.cell 2).trans rfl
  have g3 := (kc3.cell 3).trans rfl
  have HK4 : Hid (Blk wc B4 #[.int .i64 (a : Int), .int .i64 ((n + 1 : Nat) : Int)] 117 ∧ Blk wc w.heap.size #[.string ⟨c.path.toArray⟩, .int .u8 (c.act.toNat : Int), .string (keptVal c.act ⟨c.val.toArray⟩), .int .i64 c.n] 63 ∧ Below w.heap.size w wc) := ⟨k4, kc3, hb3⟩
  clear k4 kc3 hb3
  go_wp2_with fail
  refine Calls.mono (covered_any wc rb a io co lo n C (HR.out _ HK4.out.2.2) ⟨c.path.toArray⟩ (keptVal c.act ⟨c.val.toArray⟩) c.act c.n (by show c.path.toArray.size ≤ _; simpa using hcp) m (hmB.out _ HK4.out.2.2)) ?_
  rintro e w4 ⟨v, ns, rfl, hsl, hnl, hns, hb4⟩
  have hsh : ∃ ao cap, v = .slice ao ns.length cap := by
    rcases hsl with ⟨rfl, rfl⟩ | ⟨b, off, cap, rfl, _⟩
    · exact ⟨none, 0, rfl⟩
    · exact ⟨_, cap, rfl⟩
  obtain ⟨ao, cap, rfl⟩ := hsh
  have HK5 : Hid (Blk w4 B4 #[.int .i64 (a : Int), .int .i64 ((n + 1 : Nat) : Int)] 117 ∧ Blk w4 w.heap.size #[.string ⟨c.path.toArray⟩, .int .u8 (c.act.toNat : Int), .string (keptVal c.act ⟨c.val.toArray⟩), .int .i64 c.n] 63 ∧ Below w.heap.size w w4) := ⟨HK4.out.1.below hb4, HK4.out.2.1.below hb4, HK4.out.2.2.trans (hb4.mono HK4.out.2.2.size)⟩
  have Hns : Hid (∀ k, k ∈ ns ↔ ∃ e, C k = some e ∧ covC c.path c.act (toL (keptVal c.act ⟨c.val.toArray⟩)) e = true) := fun k => by have := hns k; simpa [toL] using this
  have hns501 : ∀ k ∈ ns, 1 ≤ k ∧ k ≤ 501 := fun k hk => by
    obtain ⟨e, he, _⟩ := (Hns.out k).1 hk
    have := HCk.out k (by rw [he]; simp)
    omega
  have Hgone : Hid (_) := Gone_any w4 _ a ns hsl (by omega) a5 hns501
  clear HK4 hns hsl hb4 g0 g1 g2 g3
  go_wp2_with fail
  refine Calls.mono Hgone.out ?_
  rintro e w5 ⟨gi, gc, gl, rfl, hg5, hgn, hb5⟩
  have hs4 := HK5.out.2.2.size
  have hbw5 : Below w.heap.size w w5 := HK5.out.2.2.trans (hb5.mono hs4)
  have k45 := HK5.out.1.below hb5
  have HK6 : Hid (Blk w5 B4 #[.int .i64 (a : Int), .int .i64 ((n + 1 : Nat) : Int)] 117 ∧ Blk w5 w.heap.size #[.string ⟨c.path.toArray⟩, .int .u8 (c.act.toNat : Int), .string (keptVal c.act ⟨c.val.toArray⟩), .int .i64 c.n] 63 ∧ Below w.heap.size w w5 ∧ StoreS w5 gi gc gl a (fun k => k ∈ ns) (fun _ => none)) := ⟨k45, HK5.out.2.1.below hb5, hbw5, hg5⟩
  have hgn' : w.heap.size ≤ gi ∧ w.heap.size ≤ gc ∧ w.heap.size ≤ gl := by omega
  have d0A : ∀ o, (w5.alloc o).cell? ⟨B4, 0, none⟩ = some (.int .i64 (a : Int)) := fun o => ((k45.alloc o).cell 0).trans rfl
  have d1A : ∀ o, (w5.alloc o).cell? ⟨B4, 1, none⟩ = some (.int .i64 ((n + 1 : Nat) : Int)) := fun o => ((k45.alloc o).cell 1).trans rfl
  have Hgone2 : Hid (∀ ob, Calls Tryz.prog 62 #[.slice (some ⟨w5.heap.size + 1, 0, none⟩) 1 1] ((w5.alloc ob).alloc (.cells #[.int .i64 (a : Int), .int .i64 ((n + 1 : Nat) : Int)] 117)) fun e w' => ∃ ib cb lb, e = .returned (.agg #[.map (some ib), .map (some cb), .map (some lb)]) ∧ StoreS w' ib cb lb a (fun k => k ∈ [n + 1]) (fun _ => none) ∧ (w5.heap.size ≤ ib ∧ w5.heap.size ≤ cb ∧ w5.heap.size ≤ lb) ∧ Below (w5.heap.size + 2) ((w5.alloc ob).alloc (.cells #[.int .i64 (a : Int), .int .i64 ((n + 1 : Nat) : Int)] 117)) w') := fun ob => by
    have hk := Blk.new (w5.alloc ob) #[.int .i64 (a : Int), .int .i64 ((n + 1 : Nat) : Int)] 117
    rw [World.size_alloc] at hk
    refine Calls.mono (Gone_any _ _ a [n + 1] (Or.inr ⟨w5.heap.size + 1, 0, 1, rfl, by simp, hk.lt, fun j hj => ?_⟩) (by simp) a5 (by simp; omega)) ?_
    · simp at hj
      subst hj
      exact ⟨(hk.cell 0).trans rfl, (hk.cell 1).trans rfl⟩
    · rintro e w' ⟨ib, cb, lb, rfl, h1, h2, h3⟩
      simp only [World.size_alloc] at h2 h3
      exact ⟨ib, cb, lb, rfl, h1, by omega, h3⟩
  clear HK5 hg5 k45 Hgone hb5 hgn hbw5
  go_wp2_with fail
  refine Calls.mono (Hgone2.out _) ?_
  rintro e w6 ⟨mi, mc, ml, rfl, hm6, hmn, hb6⟩
  have hs5 : w.heap.size ≤ w5.heap.size := HK6.out.2.2.1.size
  have hs6 := hb6.size
  simp only [World.size_alloc] at hs6
  have hB4l : B4 < w5.heap.size := HK6.out.1.lt
  have hcw5 : w.heap.size < w5.heap.size := HK6.out.2.1.lt
  have hb56 : Below w5.heap.size w5 w6 := (((Below.refl _ w5).alloc (Nat.le_refl _) _).alloc (by simp) _).trans (hb6.mono (by omega))
  have kb5 : Blk w6 w5.heap.size #[.map (some gi), .map (some gc), .map (some gl)] 105 := (hb6.block _ (by omega)).trans ((Blk.new w5 _ _).alloc _)
  have hm6' : StoreS w6 mi mc ml a (fun k => k = n + 1) (fun _ => none) := ⟨hm6.ctx.iff (fun k _ => by simp), hm6.its, hm6.ne, fun k hk => absurd rfl hk⟩
  have HK7 : Hid (Blk w6 B4 #[.int .i64 (a : Int), .int .i64 ((n + 1 : Nat) : Int)] 117 ∧ Blk w6 w.heap.size #[.string ⟨c.path.toArray⟩, .int .u8 (c.act.toNat : Int), .string (keptVal c.act ⟨c.val.toArray⟩), .int .i64 c.n] 63 ∧ Below w.heap.size w w6 ∧ StoreS w6 gi gc gl a (fun k => k ∈ ns) (fun _ => none) ∧ StoreS w6 mi mc ml a (fun k => k = n + 1) (fun _ => none) ∧ Blk w6 w5.heap.size #[.map (some gi), .map (some gc), .map (some gl)] 105) := ⟨HK6.out.1.below hb56, HK6.out.2.1.below hb56, HK6.out.2.2.1.trans (hb56.mono hs5), HK6.out.2.2.2.below hb56, hm6', kb5⟩
  have hs65 : w5.heap.size < w6.heap.size := kb5.lt
  have hgl6' : gi < w6.heap.size ∧ gc < w6.heap.size ∧ gl < w6.heap.size := HK7.out.2.2.2.1.lt
  clear HK6 hm6 hm6' hb6 kb5 hb56 d0A d1A Hgone2
  have HEf : Hid (∀ wx, Calls Tryz.prog 64 #[.agg #[.string ⟨c.path.toArray⟩, .int .u8 (c.act.toNat : Int), .string (keptVal c.act ⟨c.val.toArray⟩), .int .i64 c.n]] wx fun e w' => e = .returned (.bool (effB c.act)) ∧ Below wx.heap.size wx w') := fun wx => IsEffect_any ⟨c.path.toArray⟩ c.act (keptVal c.act ⟨c.val.toArray⟩) c.n wx
  have g0 : ∀ o, (w6.alloc o).cell? ⟨w.heap.size, 0, none⟩ = some (.string ⟨c.path.toArray⟩) := fun o => ((HK7.out.2.1.alloc o).cell 0).trans rfl
  have g1 : ∀ o, (w6.alloc o).cell? ⟨w.heap.size, 1, none⟩ = some (.int .u8 (c.act.toNat : Int)) := fun o => ((HK7.out.2.1.alloc o).cell 1).trans rfl
  have g2 : ∀ o, (w6.alloc o).cell? ⟨w.heap.size, 2, none⟩ = some (.string (keptVal c.act ⟨c.val.toArray⟩)) := fun o => ((HK7.out.2.1.alloc o).cell 2).trans rfl
  have g3 : ∀ o, (w6.alloc o).cell? ⟨w.heap.size, 3, none⟩ = some (.int .i64 c.n) := fun o => ((HK7.out.2.1.alloc o).cell 3).trans rfl
  go_wp2_with fail
  refine Calls.mono (HEf.out _) ?_
  rintro e w7 ⟨rfl, hb7⟩
  have hba : Below w6.heap.size w6 w7 := ((Below.refl _ w6).alloc (Nat.le_refl _) _).trans (hb7.mono (by simp))
  have kb6 : Blk w7 w6.heap.size #[.map (some mi), .map (some mc), .map (some ml)] 105 := (Blk.new w6 _ _).below hb7
  have hs7 := hba.size
  have hs76 : w6.heap.size < w7.heap.size := kb6.lt
  have HK8 : Hid (Blk w7 B4 #[.int .i64 (a : Int), .int .i64 ((n + 1 : Nat) : Int)] 117 ∧ Blk w7 w.heap.size #[.string ⟨c.path.toArray⟩, .int .u8 (c.act.toNat : Int), .string (keptVal c.act ⟨c.val.toArray⟩), .int .i64 c.n] 63 ∧ Below w.heap.size w w7 ∧ StoreS w7 gi gc gl a (fun k => k ∈ ns) (fun _ => none) ∧ StoreS w7 mi mc ml a (fun k => k = n + 1) (fun _ => none) ∧ Blk w7 w5.heap.size #[.map (some gi), .map (some gc), .map (some gl)] 105 ∧ Blk w7 w6.heap.size #[.map (some mi), .map (some mc), .map (some ml)] 105) := ⟨HK7.out.1.below hba, HK7.out.2.1.below hba, HK7.out.2.2.1.trans (hba.mono (by omega)), HK7.out.2.2.2.1.below hba, HK7.out.2.2.2.2.1.below hba, HK7.out.2.2.2.2.2.below hba, kb6⟩
  clear HK7 hb7 hba kb6 HEf g0 g1 g2 g3
  cases he : effB c.act with
  | false =>
    go_upto_region 6 with fail
    have HZ : Hid (Blk w7 w6.heap.size #[.map (some mi), .map (some mc), .map (some ml)] 105 ∧ Blk w7 w5.heap.size #[.map (some gi), .map (some gc), .map (some gl)] 105 ∧ Below w.heap.size w w7 ∧ StoreS w7 gi gc gl a (fun k => k ∈ ns) (fun _ => none) ∧ StoreS w7 mi mc ml a (fun k => k = n + 1) (fun k => if k = n + 1 ∧ effB c.act = true then some (chV c) else none) ∧ w5.heap.size ≤ mi ∧ w5.heap.size ≤ mc ∧ w5.heap.size ≤ ml) := ⟨HK8.out.2.2.2.2.2.2, HK8.out.2.2.2.2.2.1, HK8.out.2.2.1, HK8.out.2.2.2.1, by have h := HK8.out.2.2.2.2.1; simpa [he] using h, hmn⟩
    clear HK8
    have y0 := (HZ.out.1.cell 0).trans rfl
    have y1 := (HZ.out.1.cell 1).trans rfl
    have y2 := (HZ.out.1.cell 2).trans rfl
    have z0 := (HZ.out.2.1.cell 0).trans rfl
    have z1 := (HZ.out.2.1.cell 1).trans rfl
    have z2 := (HZ.out.2.1.cell 2).trans rfl
    have q1 := (Hcell.out _ HZ.out.2.2.1).2.1
    have q2 := (Hcell.out _ HZ.out.2.2.1).2.2.1
    have q3 := (Hcell.out _ HZ.out.2.2.1).2.2.2
    have HJ : Hid (_) := accept_join HR.out HCk.out HCp.out Hns.out HZ.out.2.2.1 HZ.out.2.2.2.1 HZ.out.2.2.2.2.1 hs5 hgn' HZ.out.2.2.2.2.2 hn a5 hcp
    go_region_with (first | (go_at_call 66; refine Calls.mono HJ.out ?_; rintro e w9 ⟨ib, cb, lb, rfl, hq1, hq2, hq3, hqf, hfin⟩))
    all_goals
      go_wp2_with fail
      go_end0
      exact ⟨rfl, ib, cb, lb, hfin⟩
  | true =>
    have d0 := (HK8.out.1.cell 0).trans rfl
    have d1 := (HK8.out.1.cell 1).trans rfl
    have g0 := (HK8.out.2.1.cell 0).trans rfl
    have g1 := (HK8.out.2.1.cell 1).trans rfl
    have g2 := (HK8.out.2.1.cell 2).trans rfl
    have g3 := (HK8.out.2.1.cell 3).trans rfl
    have HOne : Hid (_) := One_any w7 a (n + 1) (.string ⟨c.path.toArray⟩) (.int .u8 (c.act.toNat : Int)) (.string (keptVal c.act ⟨c.val.toArray⟩)) (.int .i64 c.n) a5 (by omega) (by omega) ⟨_, _, _, _, rfl, rfl, rfl, rfl⟩
    go_wp2_with fail
    refine Calls.mono HOne.out ?_
    rintro e w8 ⟨xi, xc, xl, rfl, hx8, hxn, hb8⟩
    have kb8 := HK8.out.2.2.2.2.2.2.below hb8
    have f0 := (kb8.cell 0).trans rfl
    have f1 := (kb8.cell 1).trans rfl
    have f2 := (kb8.cell 2).trans rfl
    have ff := kb8.frozen
    have HK9 : Hid (Blk w8 w6.heap.size #[.map (some mi), .map (some mc), .map (some ml)] 105 ∧ Blk w8 w5.heap.size #[.map (some gi), .map (some gc), .map (some gl)] 105 ∧ Below w.heap.size w w8 ∧ StoreS w8 gi gc gl a (fun k => k ∈ ns) (fun _ => none) ∧ StoreS w8 xi xc xl a (fun k => k = n + 1) (fun k => if k = n + 1 ∧ effB c.act = true then some (chV c) else none)) := ⟨kb8, HK8.out.2.2.2.2.2.1.below hb8, HK8.out.2.2.1.trans (hb8.mono (by omega)), HK8.out.2.2.2.1.below hb8, by simpa [he, chV] using hx8⟩
    have hgl := HK9.out.2.2.2.1.lt
    have hgl6 : gi < w6.heap.size ∧ gc < w6.heap.size ∧ gl < w6.heap.size := hgl6'
    clear HK8 hx8 hb8 kb8 d0 d1 g0 g1 g2 g3 HOne
    go_upto_region 6 with fail
    have hbx : w.heap.size ≤ w6.heap.size := by omega
    have hch : Chg (fun k => k = w6.heap.size) w8 (((w8.setCell ⟨w6.heap.size, 0, none⟩ (.map (some xi))).setCell ⟨w6.heap.size, 1, none⟩ (.map (some xc))).setCell ⟨w6.heap.size, 2, none⟩ (.map (some xl))) := (((Chg.refl (fun k => k = w6.heap.size) w8).setCell (p := ⟨w6.heap.size, 0, none⟩) rfl _).setCell (p := ⟨w6.heap.size, 1, none⟩) rfl _).setCell (p := ⟨w6.heap.size, 2, none⟩) rfl _
    have HZ : Hid (Blk (((w8.setCell ⟨w6.heap.size, 0, none⟩ (.map (some xi))).setCell ⟨w6.heap.size, 1, none⟩ (.map (some xc))).setCell ⟨w6.heap.size, 2, none⟩ (.map (some xl))) w6.heap.size #[.map (some xi), .map (some xc), .map (some xl)] 105 ∧ Blk (((w8.setCell ⟨w6.heap.size, 0, none⟩ (.map (some xi))).setCell ⟨w6.heap.size, 1, none⟩ (.map (some xc))).setCell ⟨w6.heap.size, 2, none⟩ (.map (some xl))) w5.heap.size #[.map (some gi), .map (some gc), .map (some gl)] 105 ∧ Below w.heap.size w (((w8.setCell ⟨w6.heap.size, 0, none⟩ (.map (some xi))).setCell ⟨w6.heap.size, 1, none⟩ (.map (some xc))).setCell ⟨w6.heap.size, 2, none⟩ (.map (some xl))) ∧ StoreS (((w8.setCell ⟨w6.heap.size, 0, none⟩ (.map (some xi))).setCell ⟨w6.heap.size, 1, none⟩ (.map (some xc))).setCell ⟨w6.heap.size, 2, none⟩ (.map (some xl))) gi gc gl a (fun k => k ∈ ns) (fun _ => none) ∧ StoreS (((w8.setCell ⟨w6.heap.size, 0, none⟩ (.map (some xi))).setCell ⟨w6.heap.size, 1, none⟩ (.map (some xc))).setCell ⟨w6.heap.size, 2, none⟩ (.map (some xl))) xi xc xl a (fun k => k = n + 1) (fun k => if k = n + 1 ∧ effB c.act = true then some (chV c) else none) ∧ w5.heap.size ≤ xi ∧ w5.heap.size ≤ xc ∧ w5.heap.size ≤ xl) := by
      refine ⟨?_, HK9.out.2.1.chg hch (by omega), bl_set (bl_set (bl_set HK9.out.2.2.1 hbx _) hbx _) hbx _, HK9.out.2.2.2.1.chg hch (by omega) (by omega) (by omega), HK9.out.2.2.2.2.chg hch (by omega) (by omega) (by omega), by omega⟩
      have := HK9.out.1
      unfold Blk at this ⊢
      simp [World.setCell, Array.getElem?_modify, this]
    clear HK9 hch f0 f1 f2 ff
    generalize (((w8.setCell ⟨w6.heap.size, 0, none⟩ (.map (some xi))).setCell ⟨w6.heap.size, 1, none⟩ (.map (some xc))).setCell ⟨w6.heap.size, 2, none⟩ (.map (some xl))) = wz at *
    have y0 := (HZ.out.1.cell 0).trans rfl
    have y1 := (HZ.out.1.cell 1).trans rfl
    have y2 := (HZ.out.1.cell 2).trans rfl
    have z0 := (HZ.out.2.1.cell 0).trans rfl
    have z1 := (HZ.out.2.1.cell 1).trans rfl
    have z2 := (HZ.out.2.1.cell 2).trans rfl
    have q1 := (Hcell.out _ HZ.out.2.2.1).2.1
    have q2 := (Hcell.out _ HZ.out.2.2.1).2.2.1
    have q3 := (Hcell.out _ HZ.out.2.2.1).2.2.2
    have HJ : Hid (_) := accept_join HR.out HCk.out HCp.out Hns.out HZ.out.2.2.1 HZ.out.2.2.2.1 HZ.out.2.2.2.2.1 hs5 hgn' HZ.out.2.2.2.2.2 hn a5 hcp
    go_region_with (first | (go_at_call 66; refine Calls.mono HJ.out ?_; rintro e w9 ⟨ib, cb, lb, rfl, hq1, hq2, hq3, hqf, hfin⟩))
    all_goals
      go_wp2_with fail
      go_end0
      exact ⟨rfl, ib, cb, lb, hfin⟩
end Go.Proofs.YtmnnojekcloblaaGreatDoor

namespace Go.Proofs.YtmnnojekcloblaaGreatDoor
open Go.RowKit Go.Maps Go.WideMaps Go.MuLone

theorem Chg.wide {M M' : Nat → Prop} {w w' : World} (h : Chg M w w') (hm : ∀ k, M k → M' k) : Chg M' w w' := ⟨h.os, h.tape, h.output, h.size, fun k hk hn => h.block k hk (fun e => hn (hm k e))⟩
theorem Chg.then {M : Nat → Prop} {w w1 w2 : World} (h : Chg M w w1) (h2 : Chg M w1 w2) : Chg M w w2 := ⟨h2.os.trans h.os, h2.tape.trans h.tape, h2.output.trans h.output, Nat.le_trans h.size h2.size, fun k hk hn => (h2.block k (Nat.lt_of_lt_of_le hk h.size) hn).trans (h.block k hk hn)⟩

/-- A cluster one of whose replicas has had an event. -/
theorem CluP.accept {w w' : World} {x q cap : Nat} {st : Int} {ds : List RepD} (h : CluP w x q cap st ds) (k : Nat) (hk : k < ds.length) {io co lo : Nat} {c : Thk.Ch} (hr : RepP w' ds[k].rb k (some io) (some co) (some lo) (ds[k].n + 1) (stepC ds[k].C c ds[k].n)) (hn : w.heap.size ≤ io ∧ w.heap.size ≤ co ∧ w.heap.size ≤ lo) (hc : Chg (fun b => b = ds[k].rb) w w') :
    CluP w' x q cap st (ds.set k ⟨ds[k].rb, some io, some co, some lo, ds[k].n + 1, stepC ds[k].C c ds[k].n⟩) := by
  obtain ⟨cs, r1, r2⟩ := h.row
  have hx : ¬ x = ds[k].rb := fun e => h.xr k hk (Or.inl e)
  have hq : ¬ q = ds[k].rb := fun e => h.qr k hk (Or.inl e)
  have hrb : ∀ j (hj : j < ds.length), (ds.set k ⟨ds[k].rb, some io, some co, some lo, ds[k].n + 1, stepC ds[k].C c ds[k].n⟩)[j]'(by simpa using hj) = if k = j then ⟨ds[k].rb, some io, some co, some lo, ds[k].n + 1, stepC ds[k].C c ds[k].n⟩ else ds[j] := fun j hj => by rw [List.getElem_set]
  have hown : ∀ b, b < w.heap.size → (RepD.mk ds[k].rb (some io) (some co) (some lo) (ds[k].n + 1) (stepC ds[k].C c ds[k].n)).own b → b = ds[k].rb := fun b hb ho => by
    rcases ho with h | h | h | h
    · exact h
    · cases h; omega
    · cases h; omega
    · cases h; omega
  refine ⟨?_, ⟨cs, r1.chg hc hq, fun j hj => ?_⟩, fun j hj => ?_, fun i j hi hj hij => ?_, fun j hj => ?_, fun j hj => ?_, by simpa using h.len, h.x4⟩
  · rw [List.length_set]; exact h.blk.chg hc hx
  · have hj' : j < ds.length := by simpa using hj
    rw [hrb j hj', r2 j hj']
    by_cases e : k = j
    · subst e; rw [if_pos rfl]
    · rw [if_neg e]
  · have hj' : j < ds.length := by simpa using hj
    rw [hrb j hj']
    by_cases e : k = j
    · subst e; rw [if_pos rfl]; exact hr
    · rw [if_neg e]
      exact (h.rep j hj').chg hc (fun e2 => h.apart k j hk hj' e (Or.inl e2.symm)) (fun b hb e2 => h.apart k j hk hj' e (by subst e2; exact Or.inr hb))
  · have hi' : i < ds.length := by simpa using hi
    have hj' : j < ds.length := by simpa using hj
    rw [hrb i hi', hrb j hj']
    by_cases e : k = i
    · subst e
      rw [if_pos rfl, if_neg hij]
      exact h.apart k j hk hj' hij
    · rw [if_neg e]
      by_cases e2 : k = j
      · subst e2
        rw [if_pos rfl]
        intro ho
        exact h.apart i k hi' hk hij (Or.inl (hown _ (h.rep i hi').blk.lt ho))
      · rw [if_neg e2]
        exact h.apart i j hi' hj' hij
  · have hj' : j < ds.length := by simpa using hj
    rw [hrb j hj']
    by_cases e : k = j
    · subst e; rw [if_pos rfl]; exact fun ho => hx (hown _ h.blk.lt ho)
    · rw [if_neg e]; exact h.xr j hj'
  · have hj' : j < ds.length := by simpa using hj
    rw [hrb j hj']
    by_cases e : k = j
    · subst e; rw [if_pos rfl]; exact fun ho => hq (hown _ r1.lt ho)
    · rw [if_neg e]; exact h.qr j hj'

/-- What Do answers, and what becomes of the replicas. -/
def DoD (w : World) (ds : List RepD) (i : Int) (s : ByteArray) (r : Int) (ds' : List RepD) : Prop :=
  (¬ (0 ≤ i ∧ i < ds.length) ∧ r = 2 ∧ ds' = ds) ∨
  (∃ m : Nat, (0 ≤ i ∧ i < ds.length) ∧ Thk.read (toL s) = .inl m ∧ r = (m : Int) ∧ ds' = ds) ∨
  (∃ c : Thk.Ch, (0 ≤ i ∧ i < ds.length) ∧ Thk.read (toL s) = .inr c ∧ 500 ≤ sumN ds ds.length ∧ r = 7 ∧ ds' = ds) ∨
  ∃ (c : Thk.Ch) (k : Nat) (hk : k < ds.length) (io co lo : Nat), i = (k : Int) ∧ Thk.read (toL s) = .inr c ∧ sumN ds ds.length < 500 ∧ (w.heap.size ≤ io ∧ w.heap.size ≤ co ∧ w.heap.size ≤ lo) ∧
    r = 0 ∧ ds' = ds.set k ⟨ds[k].rb, some io, some co, some lo, ds[k].n + 1, stepC ds[k].C c ds[k].n⟩
section
variable {w : World} {ds : List RepD} {i : Int} {s : ByteArray}
theorem DoD.rep (h : ¬ (0 ≤ i ∧ i < ds.length)) : DoD w ds i s 2 ds := Or.inl ⟨h, rfl, rfl⟩
theorem DoD.bad (m : Nat) (h : 0 ≤ i ∧ i < ds.length) (hr : Thk.read (toL s) = .inl m) : DoD w ds i s m ds := Or.inr (Or.inl ⟨m, h, hr, rfl, rfl⟩)
theorem DoD.full (c : Thk.Ch) (h : 0 ≤ i ∧ i < ds.length) (hr : Thk.read (toL s) = .inr c) (hl : 500 ≤ sumN ds ds.length) : DoD w ds i s 7 ds := Or.inr (Or.inr (Or.inl ⟨c, h, hr, hl, rfl, rfl⟩))
theorem DoD.done (c : Thk.Ch) (k : Nat) (hk : k < ds.length) (io co lo : Nat) (h : i = (k : Int)) (hr : Thk.read (toL s) = .inr c) (hl : sumN ds ds.length < 500) (hn : w.heap.size ≤ io ∧ w.heap.size ≤ co ∧ w.heap.size ≤ lo) :
    DoD w ds i s 0 (ds.set k ⟨ds[k].rb, some io, some co, some lo, ds[k].n + 1, stepC ds[k].C c ds[k].n⟩) := Or.inr (Or.inr (Or.inr ⟨c, k, hk, io, co, lo, h, hr, hl, hn, rfl, rfl⟩))
end
theorem sumN_part (ds : List RepD) (k : Nat) (hk : k < ds.length) : ∀ m, k < m → m ≤ ds.length → ds[k].n ≤ sumN ds m
  | 0, h, _ => by omega
  | m + 1, h, hm => by
    rw [sumN_succ ds m (by omega)]
    by_cases e : k = m
    · subst e; omega
    · have := sumN_part ds k hk m (by omega) (by omega); omega

theorem readV_inl (m : Nat) : readV (.inl m) = .tuple #[.agg #[.string ⟨#[]⟩, .int .u8 0, .string ⟨#[]⟩, .int .i64 0], .int .i64 (m : Int)] := rfl
theorem readV_inr (c : Thk.Ch) : readV (.inr c) = .tuple #[.agg #[.string ⟨c.path.toArray⟩, .int .u8 (c.act.toNat : Int), .string (keptVal c.act ⟨c.val.toArray⟩), .int .i64 c.n], .int .i64 0] := rfl

set_option maxHeartbeats 4000000 in
set_option maxRecDepth 100000 in
theorem CDo_any (w : World) (hG : Glob w) (x q cap : Nat) (ds : List RepD) (hC : CluP w x q cap 0 ds) (i : Int) (s : ByteArray) (hs : s.size ≤ 1048576) :
    Calls Tryz.prog 8 #[.pointer (some ⟨x, 0, none⟩), .int .i64 i, .string s] w fun e w' => ∃ r ds', e = .returned (.int .i64 r) ∧ DoD w ds i s r ds' ∧ CluP w' x q cap 0 ds' ∧ Chg (fun k => k = x ∨ ∃ j, ∃ h : j < ds.length, k = ds[j].rb) w w' := by
  have HC : Hid (CluP w x q cap 0 ds) := hC
  have k0 : w.cell? ⟨x, 0, none⟩ = some (.int .i32 0) := (hC.blk.cell 0).trans rfl
  have z0 : w.frozen? ⟨x, 0, none⟩ = false := hC.blk.frozen 0
  have HC1 : Hid (CluP (w.setCell ⟨x, 0, none⟩ (.int .i32 1)) x q cap 1 ds) := hC.turn 1
  have HG : Hid (Glob w) := hG
  clear hC hG
  go_enter_defers Tryz.func8, Tryz.ntmps8
  go_wp2_with (go_at_call 21; refine (lock_free YtmnnojekcloblaaGreatDoor.muLib ⟨x, 0, none⟩ _ k0 z0).mono ?_; rintro e w' ⟨rfl, rfl⟩)
  have h1b : Below (w.setCell ⟨x, 0, none⟩ (.int .i32 1)).heap.size (w.setCell ⟨x, 0, none⟩ (.int .i32 1)) ((w.setCell ⟨x, 0, none⟩ (.int .i32 1)).alloc (.cells #[.int .i64 i] 3)) := (Below.refl _ _).alloc (Nat.le_refl _) _
  have hgc : ((w.setCell ⟨x, 0, none⟩ (.int .i32 1)).alloc (.cells #[.int .i64 i] 3)).cell? ⟨w.heap.size, 0, none⟩ = some (.int .i64 i) := by
    have := (Blk.new (w.setCell ⟨x, 0, none⟩ (.int .i32 1)) #[.int .i64 i] 3).cell 0
    simpa using this
  have hch : Chg (fun k => k = x) w ((w.setCell ⟨x, 0, none⟩ (.int .i32 1)).alloc (.cells #[.int .i64 i] 3)) := (chg_turn (M := fun k => k = x) rfl _).below h1b
  have HB := HC1.out.below h1b
  refine Calls.mono (named_any _ x q cap 1 ds HB w.heap.size i hgc) ?_
  rintro e w1 ⟨rfl, hw1⟩
  rw [← hw1] at HB hch
  clear hgc h1b hw1 HC1 k0 z0
  have G1 : Hid (Glob w1) := HG.out.chg4 hch (fun k e => by subst e; exact HC.out.x4)
  have HC1 : Hid (CluP w1 x q cap 1 ds) := HB
  have Hch : Hid (Chg (fun k => k = x) w w1) := hch
  clear HB hch HC HG
  by_cases hi : 0 ≤ i ∧ i < ds.length
  · obtain ⟨k, rfl⟩ := Int.eq_ofNat_of_zero_le hi.1
    have hk : k < ds.length := by omega
    have Hi : Hid (_) := hi
    have hn : namedR ds.length (k : Int) = 0 := by unfold namedR; rw [if_pos hi]
    rw [hn]
    clear hn hi
    have HP : Hid (_) := ProgRead_any s w1 hs G1.out
    go_wp2_with fail
    refine Calls.mono HP.out ?_
    rintro e w2 ⟨rfl, hb2⟩
    have HC2 : Hid (CluP w2 x q cap 1 ds) := HC1.out.below hb2
    have Hch2 : Hid (Chg (fun k => k = x) w w2) := Hch.out.below hb2
    have G2 : Hid (Glob w2) := G1.out.mono hb2
    clear HP HC1 Hch G1 hb2
    cases hp : Thk.read (toL s) with
    | inl m =>
      have Hp : Hid (_) := hp
      have hm := Thk.read_err _ _ hp
      clear hp G2
      rw [readV_inl]
      have HC3 : Hid (CluP (w2.alloc (.cells #[.string ⟨#[]⟩, .int .u8 0, .string ⟨#[]⟩, .int .i64 0] 63)) x q cap 1 ds) := HC2.out.below ((Below.refl _ _).alloc (Nat.le_refl _) _)
      have Hch3 : Hid (Chg (fun k => k = x) w (w2.alloc (.cells #[.string ⟨#[]⟩, .int .u8 0, .string ⟨#[]⟩, .int .i64 0] 63))) := Hch2.out.below ((Below.refl _ _).alloc (Nat.le_refl _) _)
      go_wp2_with fail
      refine leaves_cons (f := 22) (args := #[.pointer (some ⟨x, 0, none⟩)]) (by simp) (by simp [go_sem]) ?_
      refine (unlock_deferred YtmnnojekcloblaaGreatDoor.muLib ⟨x, 0, none⟩ .returning _ ((HC3.out.blk.cell 0).trans rfl) (HC3.out.blk.frozen 0)).mono ?_
      rintro e u' w9 ⟨rfl, rfl, rfl⟩
      exact ⟨_, results_tmp rfl _ _ _, _, _, rfl, DoD.bad m Hi.out Hp.out, HC3.out.turn 0, Chg.setCell (M := fun k => k = x ∨ ∃ j, ∃ h : j < ds.length, k = ds[j].rb) (p := ⟨x, 0, none⟩) (Hch3.out.wide (fun k e => Or.inl e)) (Or.inl rfl) _⟩
    | inr c =>
      have Hp : Hid (_) := hp
      have Hcp : Hid (c.path.length ≤ 1048576) := Nat.le_trans (Thk.read_ok _ _ hp).1 (by decide)
      clear hp
      rw [readV_inr]
      have hba : Below w2.heap.size w2 (w2.alloc (.cells #[.string ⟨c.path.toArray⟩, .int .u8 (c.act.toNat : Int), .string (keptVal c.act ⟨c.val.toArray⟩), .int .i64 c.n] 63)) := (Below.refl _ _).alloc (Nat.le_refl _) _
      have HC3 : Hid (CluP (w2.alloc (.cells #[.string ⟨c.path.toArray⟩, .int .u8 (c.act.toNat : Int), .string (keptVal c.act ⟨c.val.toArray⟩), .int .i64 c.n] 63)) x q cap 1 ds) := HC2.out.below hba
      have Hch3 : Hid (Chg (fun k => k = x) w (w2.alloc (.cells #[.string ⟨c.path.toArray⟩, .int .u8 (c.act.toNat : Int), .string (keptVal c.act ⟨c.val.toArray⟩), .int .i64 c.n] 63))) := Hch2.out.below hba
      have G3 : Hid (Glob (w2.alloc (.cells #[.string ⟨c.path.toArray⟩, .int .u8 (c.act.toNat : Int), .string (keptVal c.act ⟨c.val.toArray⟩), .int .i64 c.n] 63))) := G2.out.mono hba
      have Hch4 : Hid (Blk (w2.alloc (.cells #[.string ⟨c.path.toArray⟩, .int .u8 (c.act.toNat : Int), .string (keptVal c.act ⟨c.val.toArray⟩), .int .i64 c.n] 63)) w2.heap.size #[.string ⟨c.path.toArray⟩, .int .u8 (c.act.toNat : Int), .string (keptVal c.act ⟨c.val.toArray⟩), .int .i64 c.n] 63) := Blk.new w2 _ _
      have HC2x := HC2
      clear hba HC2 Hch2 G2
      go_wp2_with fail
      refine Calls.mono (events_any _ x q cap 1 ds HC3.out) ?_
      rintro e w3 ⟨rfl, hb3⟩
      have HC4 : Hid (CluP w3 x q cap 1 ds) := HC3.out.below hb3
      have Hch5 : Hid (Chg (fun k => k = x) w w3) := Hch3.out.below hb3
      have G4 : Hid (Glob w3) := G3.out.mono hb3
      have HK4 : Hid (Blk w3 w2.heap.size #[.string ⟨c.path.toArray⟩, .int .u8 (c.act.toNat : Int), .string (keptVal c.act ⟨c.val.toArray⟩), .int .i64 c.n] 63) := Hch4.out.below hb3
      clear hb3 HC3 Hch3 G3 Hch4
      by_cases h5 : 500 ≤ sumN ds ds.length
      · have H5 : Hid (_) := h5
        go_wp2_with fail
        refine leaves_cons (f := 22) (args := #[.pointer (some ⟨x, 0, none⟩)]) (by simp) (by simp [go_sem]) ?_
        refine (unlock_deferred YtmnnojekcloblaaGreatDoor.muLib ⟨x, 0, none⟩ .returning _ ((HC4.out.blk.cell 0).trans rfl) (HC4.out.blk.frozen 0)).mono ?_
        rintro e u' w9 ⟨rfl, rfl, rfl⟩
        exact ⟨_, results_tmp rfl _ _ _, _, _, rfl, DoD.full c Hi.out Hp.out H5.out, HC4.out.turn 0, Chg.setCell (M := fun k => k = x ∨ ∃ j, ∃ h : j < ds.length, k = ds[j].rb) (p := ⟨x, 0, none⟩) (Hch5.out.wide (fun k e => Or.inl e)) (Or.inl rfl) _⟩
      · have H5 : Hid (sumN ds ds.length < 500) := by unfold Hid; omega
        have hn5 : ds[k].n + 1 ≤ 500 := by have := sumN_part ds k hk ds.length hk (Nat.le_refl _); omega
        obtain ⟨m, hm⟩ := G4.out.len
        have c2 : w3.cell? ⟨x, 2, none⟩ = some (.slice (some ⟨q, 0, none⟩) ds.length cap) := (HC4.out.blk.cell 2).trans rfl
        have cq := HC4.out.cell k hk
        have v0 : w3.cell? ⟨w2.heap.size, 0, none⟩ = some (.string ⟨c.path.toArray⟩) := (HK4.out.cell 0).trans rfl
        have v1 : w3.cell? ⟨w2.heap.size, 1, none⟩ = some (.int .u8 (c.act.toNat : Int)) := (HK4.out.cell 1).trans rfl
        have v2 : w3.cell? ⟨w2.heap.size, 2, none⟩ = some (.string (keptVal c.act ⟨c.val.toArray⟩)) := (HK4.out.cell 2).trans rfl
        have v3 : w3.cell? ⟨w2.heap.size, 3, none⟩ = some (.int .i64 c.n) := (HK4.out.cell 3).trans rfl
        have hrne : ¬ w2.heap.size = ds[k].rb := fun e => by have := (HC2x.out.rep k hk).blk.lt; omega
        have HA : Hid (Calls Tryz.prog 26 #[.pointer (some ⟨ds[k].rb, 0, none⟩), .agg #[.string ⟨c.path.toArray⟩, .int .u8 (c.act.toNat : Int), .string (keptVal c.act ⟨c.val.toArray⟩), .int .i64 c.n]] w3.drew fun e w' => e = .returned (.tuple #[]) ∧ (∃ io co lo, CluP w' x q cap 1 (ds.set k ⟨ds[k].rb, some io, some co, some lo, ds[k].n + 1, stepC ds[k].C c ds[k].n⟩) ∧ (w.heap.size ≤ io ∧ w.heap.size ≤ co ∧ w.heap.size ≤ lo) ∧ Chg (fun k => k = x ∨ ∃ j, ∃ h : j < ds.length, k = ds[j].rb) w w') ∧
            w'.cell? ⟨x, 2, none⟩ = some (.slice (some ⟨q, 0, none⟩) ds.length cap) ∧ w'.cell? ⟨q, k, none⟩ = some (.pointer (some ⟨ds[k].rb, 0, none⟩)) ∧ w'.cell? ⟨w2.heap.size, 0, none⟩ = some (.string ⟨c.path.toArray⟩) ∧ w'.cell? ⟨w2.heap.size, 1, none⟩ = some (.int .u8 (c.act.toNat : Int)) ∧ w'.cell? ⟨w2.heap.size, 2, none⟩ = some (.string (keptVal c.act ⟨c.val.toArray⟩)) ∧ w'.cell? ⟨w2.heap.size, 3, none⟩ = some (.int .i64 c.n)) := by
          have hdr : Below w3.heap.size w3 w3.drew := (Below.refl _ w3).drew
          have hcl := HC4.out.below hdr
          refine Calls.mono (Accept_any w3.drew _ _ _ _ _ _ _ (hcl.rep k hk) c hn5 Hcp.out m hm) ?_
          rintro e w' ⟨rfl, io, co, lo, hr, hnw, hc⟩
          have hcx := hcl.accept k hk hr hnw hc
          have hz : w.heap.size ≤ w3.drew.heap.size := Nat.le_trans Hch5.out.size hdr.size
          have hx : ¬ x = ds[k].rb := fun e => HC4.out.xr k hk (Or.inl e)
          have hq : ¬ q = ds[k].rb := fun e => HC4.out.qr k hk (Or.inl e)
          have hK5 := (HK4.out.below hdr).chg hc hrne
          have hX5 := (hcl.blk.cell 2)
          obtain ⟨cs, r1, r2⟩ := hcl.row
          refine ⟨rfl, ⟨io, co, lo, hcx, ⟨by omega, by omega, by omega⟩, ((Hch5.out.below hdr).wide (fun _ e => Or.inl e)).then (hc.wide (fun _ e => Or.inr ⟨k, hk, e⟩))⟩, ((hcl.blk.chg hc hx).cell 2).trans rfl, ((r1.chg hc hq).cell k).trans (r2 k hk), (hK5.cell 0).trans rfl, (hK5.cell 1).trans rfl, (hK5.cell 2).trans rfl, (hK5.cell 3).trans rfl⟩
        clear hm HC4 Hch5 G4 HK4 hrne HC2x
        go_wp2_with fail
        go_region_held3 (fun w' => w'.cell? ⟨x, 2, none⟩ = some (.slice (some ⟨q, 0, none⟩) ds.length cap) ∧ w'.cell? ⟨q, k, none⟩ = some (.pointer (some ⟨ds[k].rb, 0, none⟩)) ∧ w'.cell? ⟨w2.heap.size, 0, none⟩ = some (.string ⟨c.path.toArray⟩) ∧ w'.cell? ⟨w2.heap.size, 1, none⟩ = some (.int .u8 (c.act.toNat : Int)) ∧ w'.cell? ⟨w2.heap.size, 2, none⟩ = some (.string (keptVal c.act ⟨c.val.toArray⟩)) ∧ w'.cell? ⟨w2.heap.size, 3, none⟩ = some (.int .i64 c.n)) ((refine ⟨?_, ?_, ?_, ?_, ?_, ?_⟩ <;> assumption)) (first | (go_at_call 26; refine Calls.mono HA.out ?_; rintro e w4 ⟨rfl, hE, d0, d1, d2, d3, d4, d5⟩))
        obtain ⟨io, co, lo, hcx, hnw, hch⟩ := hE
        have HX : Hid (_) := hcx
        have HN : Hid (_) := hnw
        have HH : Hid (_) := hch
        clear hcx hnw hch HA c2 cq v0 v1 v2 v3 d0 d1 d2 d3 d4 d5
        go_wp2_with fail
        refine leaves_cons (f := 22) (args := #[.pointer (some ⟨x, 0, none⟩)]) (by simp) (by simp [go_sem]) ?_
        refine (unlock_deferred YtmnnojekcloblaaGreatDoor.muLib ⟨x, 0, none⟩ .returning _ ((HX.out.blk.cell 0).trans rfl) (HX.out.blk.frozen 0)).mono ?_
        rintro e u' w9 ⟨rfl, rfl, rfl⟩
        exact ⟨_, results_tmp rfl _ _ _, _, _, rfl, DoD.done c k hk io co lo rfl Hp.out H5.out HN.out, HX.out.turn 0, Chg.setCell (M := fun k => k = x ∨ ∃ j, ∃ h : j < ds.length, k = ds[j].rb) (p := ⟨x, 0, none⟩) HH.out (Or.inl rfl) _⟩
  · have hn : namedR ds.length i = 2 := by unfold namedR; rw [if_neg hi]
    have Hi : Hid (_) := hi
    rw [hn]
    clear hn hi
    go_wp2_with fail
    refine leaves_cons (f := 22) (args := #[.pointer (some ⟨x, 0, none⟩)]) (by simp) (by simp [go_sem]) ?_
    refine (unlock_deferred YtmnnojekcloblaaGreatDoor.muLib ⟨x, 0, none⟩ .returning _ ((HC1.out.blk.cell 0).trans rfl) (HC1.out.blk.frozen 0)).mono ?_
    rintro e u' w9 ⟨rfl, rfl, rfl⟩
    exact ⟨_, results_tmp rfl _ _ _, _, _, rfl, DoD.rep Hi.out, HC1.out.turn 0, Chg.setCell (M := fun k => k = x ∨ ∃ j, ∃ h : j < ds.length, k = ds[j].rb) (p := ⟨x, 0, none⟩) (Hch.out.wide (fun k e => Or.inl e)) (Or.inl rfl) _⟩
end Go.Proofs.YtmnnojekcloblaaGreatDoor

namespace Go.Proofs.YtmnnojekcloblaaGreatDoor
open Go.RowKit Go.Maps Go.WideMaps Go.Deep

def ptrs (bs : List Nat) : List Value := bs.map fun b => .pointer (some ⟨b, 0, none⟩)
/-- A cluster that is being made. -/
structure NewP (w0 : World) (w : World) (rv : Value) (rbs : List Nat) : Prop where
  blk : Blk w w0.heap.size #[.int .i32 0, .int .u32 0, rv] 56
  row : w.ownsRow w0.heap.size 57 1 rv rbs.length (ptrs rbs)
  rep : ∀ j (h : j < rbs.length), Blk w rbs[j] #[.int .i64 (j : Int), .map none, .map none, .map none] 107 ∧ w0.heap.size ≤ rbs[j]
  bel : Below w0.heap.size w0 w
theorem blk_types {w : World} {b : Nat} {cs cs' : Array Value} {t t' : TypeId} (h : Blk w b cs t) (h' : Blk w b cs' t') : cs = cs' ∧ t = t' := by
  have e2 : some (Obj.cells _ _ _) = some (Obj.cells _ _ _) := (show w.heap[b]? = _ from h).symm.trans h'
  injection e2 with e2
  injection e2 with e1 e3
  exact ⟨e1, e3⟩
theorem NewP.ne {w0 w : World} {rv : Value} {rbs : List Nat} (h : NewP w0 w rv rbs) {b : Nat} {cs : Array Value} {t : TypeId} (hb : Blk w b cs t) (ht : t ≠ 57) : rv.ownBlock ≠ some b := by
  refine ownsRow_ne h.row (fun cur fz e => ?_)
  have e2 : some (Obj.cells _ _ _) = some (Obj.cells _ _ _) := (show w.heap[b]? = _ from hb).symm.trans e
  injection e2 with e2
  injection e2 with e1 e3
  exact ht e3
/-- One replica more. -/
theorem NewP.more {w0 w w6 : World} {rv : Value} {rbs : List Nat} (h : NewP w0 w rv rbs) {g c : Nat}
    (ho : w6.ownsRow w0.heap.size 57 1 (.slice (some ⟨g, 0, none⟩) (rbs.length + 1) c) (rbs.length + 1) (ptrs rbs ++ [.pointer (some ⟨w.heap.size, 0, none⟩)]))
    (hg : ((w.alloc (.cells #[.int .i64 (rbs.length : Int), .map none, .map none, .map none] 107)).alloc (.cells #[.pointer (some ⟨w.heap.size, 0, none⟩)] 57)).grownBy w6 rv.ownBlock) :
    NewP w0 (w6.setCell ⟨w0.heap.size, 2, none⟩ (.slice (some ⟨g, 0, none⟩) (rbs.length + 1) c)) (.slice (some ⟨g, 0, none⟩) (rbs.length + 1) c) (rbs ++ [w.heap.size]) := by
  have hlr : (rbs ++ [w.heap.size]).length = rbs.length + 1 := by simp
  have hnr : Blk ((w.alloc (.cells #[.int .i64 (rbs.length : Int), .map none, .map none, .map none] 107)).alloc (.cells #[.pointer (some ⟨w.heap.size, 0, none⟩)] 57)) w.heap.size #[.int .i64 (rbs.length : Int), .map none, .map none, .map none] 107 := (Blk.new w _ _).alloc _
  have keep : ∀ {b : Nat} {cs : Array Value} {t : TypeId}, Blk w b cs t → t ≠ 57 → Blk w6 b cs t := fun hb ht => by
    have h2 := (hb.alloc (.cells #[.int .i64 (rbs.length : Int), .map none, .map none, .map none] 107)).alloc (.cells #[.pointer (some ⟨w.heap.size, 0, none⟩)] 57)
    exact (hg.block _ h2.lt (Ne.symm (h.ne hb ht))).trans h2
  have hB := keep h.blk (by decide)
  have hrn : Blk w6 w.heap.size #[.int .i64 (rbs.length : Int), .map none, .map none, .map none] 107 := by
    refine (hg.block _ hnr.lt (fun e => ?_)).trans hnr
    have := (h.row.lt _ e.symm).2
    omega
  have hbl : Below w0.heap.size w0 w6 := by
    have h1 : Below w0.heap.size w0 ((w.alloc (.cells #[.int .i64 (rbs.length : Int), .map none, .map none, .map none] 107)).alloc (.cells #[.pointer (some ⟨w.heap.size, 0, none⟩)] 57)) := (h.bel.alloc h.bel.size _).alloc (Nat.le_trans h.bel.size (by simp)) _
    exact h1.grown hg h1.size (fun k hk => (h.row.lt k hk).1)
  have hgx : g ≠ w0.heap.size := fun e => by
    subst e
    obtain ⟨_, ⟨h1, _⟩ | ⟨g', cp, cur, hv, _, hh, _⟩⟩ := ho
    · cases h1
    · simp only [Value.slice.injEq, Option.some.injEq, Addr.mk.injEq, true_and, and_true] at hv
      obtain ⟨rfl, rfl⟩ := hv
      exact absurd (blk_types hB hh).2 (by decide)
  refine ⟨?_, ?_, fun j hj => ?_, hbl.setCell (p := ⟨w0.heap.size, 2, none⟩) (Nat.le_refl _) _⟩
  · unfold Blk at hB ⊢
    simp [World.setCell, Array.getElem?_modify, hB]
  · rw [hlr]
    have e : ptrs (rbs ++ [w.heap.size]) = ptrs rbs ++ [.pointer (some ⟨w.heap.size, 0, none⟩)] := by simp [ptrs]
    rw [e]
    exact ownsRow_setCell_other ho (a := ⟨w0.heap.size, 2, none⟩) (fun e => hgx (by simpa [Value.ownBlock] using e)) _
  · by_cases hlt : j < rbs.length
    · rw [List.getElem_append_left hlt]
      obtain ⟨r1, r2⟩ := h.rep j hlt
      exact ⟨blk_oth (keep r1 (by decide)) (fun e => by rw [e] at r1; exact absurd (blk_types r1 h.blk).2 (by decide)), r2⟩
    · have hj' : j = rbs.length := by simp at hj; omega
      subst hj'
      rw [List.getElem_append_right (Nat.le_refl _)]
      simp only [Nat.sub_self, List.getElem_cons_zero]
      exact ⟨blk_oth hrn (fun e => absurd (blk_types (e ▸ hrn) hB).2 (by decide)), h.bel.size⟩
/-- A new cluster. -/
theorem NewP.done {w0 w : World} {rv : Value} {rbs : List Nat} (h : NewP w0 w rv rbs) (h4 : 4 ≤ w0.heap.size) (h1 : 1 ≤ rbs.length) (h6 : rbs.length ≤ 6) :
    ∃ q cap, rv = .slice (some ⟨q, 0, none⟩) rbs.length cap ∧ w0.heap.size ≤ q ∧ CluP w w0.heap.size q cap 0 (rbs.map fun b => ⟨b, none, none, none, 0, fun _ => none⟩) := by
  obtain ⟨hx, ⟨e1, e2⟩ | ⟨q, cap, cur, rfl, hq, hh, hcap, _, hsz, htk⟩⟩ := h.row
  · omega
  · refine ⟨q, cap, rfl, hq, ?_, ⟨cur, hh, fun j hj => ?_⟩, fun j hj => ?_, fun i j hi hj hij => ?_, fun j hj => ?_, fun j hj => ?_, by simpa using h6, h4⟩
    · simpa using h.blk
    · have hj' : j < rbs.length := by simpa using hj
      have e : cur.toList[j]? = (ptrs rbs)[j]? := by rw [← htk, List.getElem?_take, if_pos (by omega)]
      rw [← Array.getElem?_toList, e]
      simp [ptrs, hj']
    · have hj' : j < rbs.length := by simpa using hj
      have hr := (h.rep j hj').1
      have hc : cm j 0 = fun _ => none := by funext key; simp [cm]
      have hl : lm j (fun _ => false) = fun _ => none := by funext key; simp [lm]
      have hi : itOf (fun _ => none) = fun _ => none := rfl
      simp only [List.getElem_map]
      exact ⟨hr, ⟨⟨0, fun _ => false, ⟨⟨0, Or.inl ⟨rfl, rfl, hc⟩⟩, ⟨0, Or.inl ⟨rfl, rfl, hl⟩⟩, by omega, fun n h => (by cases h), by omega⟩, rfl, fun n _ => by simp⟩, ⟨0, Or.inl ⟨rfl, rfl, by rw [hi, im_none]⟩⟩, fun n h => absurd rfl h⟩, fun k c h => (by cases h), by omega, by omega⟩
    · have hi' : i < rbs.length := by simpa using hi
      have hj' : j < rbs.length := by simpa using hj
      simp only [List.getElem_map]
      rintro (e | e | e | e)
      · have e0 : rbs[i] = rbs[j] := e
        have r1 := (h.rep i hi').1
        rw [e0] at r1
        have := (blk_types r1 (h.rep j hj').1).1
        simp at this
        omega
      · cases e
      · cases e
      · cases e
    · have hj' : j < rbs.length := by simpa using hj
      simp only [List.getElem_map]
      rintro (e | e | e | e)
      · have e0 : w0.heap.size = rbs[j] := e
        have r1 := (h.rep j hj').1
        rw [← e0] at r1
        exact absurd (blk_types r1 h.blk).2 (by decide)
      · cases e
      · cases e
      · cases e
    · have hj' : j < rbs.length := by simpa using hj
      simp only [List.getElem_map]
      rintro (e | e | e | e)
      · have e0 : q = rbs[j] := e
        have r1 := (h.rep j hj').1
        rw [← e0] at r1
        exact absurd (blk_types r1 hh).2 (by decide)
      · cases e
      · cases e
      · cases e
end Go.Proofs.YtmnnojekcloblaaGreatDoor

namespace Go.Proofs.YtmnnojekcloblaaGreatDoor
open Go.RowKit Go.Maps Go.WideMaps Go.Deep

set_option maxHeartbeats 400000 in
theorem New_bad (r room : Int) (w : World) (h : r < 1 ∨ 6 < r ∨ room < 0 ∨ 50 < room) :
    Calls Tryz.prog 7 #[.int .i64 r, .int .i64 room] w fun e w' => e = .returned (.tuple #[.pointer none, .int .i64 1]) ∧ w' = w := by
  have hd : (decide (r < 1) || decide (6 < r) || decide (room < 0) || decide (50 < room)) = true := by simp; omega
  go_enter Tryz.func7, Tryz.ntmps7
  go_wp2
  all_goals first | (go_ret2; exact ⟨rfl, rfl⟩) | (exfalso; omega)

theorem Tryz.infoPR : (Tryz.prog.info? 57).map (fun i => (i.zero, i.size, i.bytes)) = some (some (.pointer none), 1, 8) := by kernel_rfl

set_option maxHeartbeats 4000000 in
set_option maxRecDepth 100000 in
theorem New_good (r room : Nat) (w : World) (h4 : 4 ≤ w.heap.size) (h1 : 1 ≤ r) (h6 : r ≤ 6) (h50 : room ≤ 50) :
    Calls Tryz.prog 7 #[.int .i64 (r : Int), .int .i64 (room : Int)] w fun e w' => ∃ rv rbs, e = .returned (.tuple #[.pointer (some ⟨w.heap.size, 0, none⟩), .int .i64 0]) ∧ rbs.length = r ∧ NewP w w' rv rbs := by
  obtain ⟨iR, hiR, hzR0, hzR1, hzR2⟩ := info_parts Tryz.infoPR
  go_enter Tryz.func7, Tryz.ntmps7
  go_wp2
  go_loopw [25] (fun i wr => ∃ (rbs : List Nat) (rv : Value), rbs.length ≤ r ∧ i = .int .i64 (rbs.length : Int) ∧ NewP w wr rv rbs) (fun i _ => r - (intOf i).toNat)
  case atStart =>
    exact ⟨[], .slice none 0 0, by simp, rfl, Blk.new w _ _, World.ownsRow_nil _ _ _ _, fun j h => absurd h (by simp), (Below.refl _ _).alloc (Nat.le_refl _) _⟩
  case round =>
    obtain ⟨rbs, rv, hk, rfl, hN⟩ := hrel
    by_cases hlt : rbs.length < r
    · have HN : Hid (NewP w wr rv rbs) := hN
      have hwl : w.heap.size < wr.heap.size := hN.blk.lt
      have c1 : wr.cell? ⟨w.heap.size, 2, none⟩ = some rv := (hN.blk.cell 2).trans rfl
      have c1A : ∀ o, (wr.alloc o).cell? ⟨w.heap.size, 2, none⟩ = some rv := fun o => ((HN.out.blk.alloc o).cell 2).trans rfl
      have c1B : ∀ o o', ((wr.alloc o).alloc o').cell? ⟨w.heap.size, 2, none⟩ = some rv := fun o o' => (((HN.out.blk.alloc o).alloc o').cell 2).trans rfl
      have c1C : ∀ o, (wr.drew.alloc o).cell? ⟨w.heap.size, 2, none⟩ = some rv := c1A
      have c1D : ∀ o o', ((wr.drew.alloc o).alloc o').cell? ⟨w.heap.size, 2, none⟩ = some rv := c1B
      have HD : Hid (NewP w wr.drew rv rbs) := ⟨hN.blk, hN.row, hN.rep, hN.bel.drew⟩
      have HE : Hid (∀ o o', Blk ((wr.drew.alloc o).alloc o') w.heap.size #[.int .i32 0, .int .u32 0, rv] 56) := fun o o' => (HD.out.blk.alloc o).alloc o'
      have m1 : Hid (rbs.length + 1 ≤ maxLen) := by unfold Hid maxLen; omega
      have m2 : Hid ((rbs.length + 1) * 8 ≤ 140737488355328) := by unfold Hid; omega
      have hne : Hid (rv.ownBlock ≠ some w.heap.size) := hN.ne hN.blk (by decide)
      have ha5 : rbs.length ≤ 5 := by omega
      clear hN
      go_wp2_with fail
      go_region_law (first | (go_simp; refine Calls.mono (RepNew_any _ rbs.length ha5) ?_; rintro e w' ⟨rfl, rfl⟩) | (refine step_append_own rfl (.tmp 32) (.tmp 35) 54 rfl w.heap.size 57 iR (.pointer none) 1 8 Tryz.underlying54 hiR hzR0 hzR1 hzR2 rfl (by decide) rv rbs.length (ptrs rbs) rfl ?_ _ 1 1 [.pointer (some ⟨wr.heap.size, 0, none⟩)] rfl rfl ?_ ?_ m1.out m2.out ?_ ?_; (exact (HD.out.row.alloc _).alloc _); (intro j u hj; match j, hj with | 0, hj => (cases hj; simp [Addr.add])); (intro u hu; simp at hu; subst hu; rfl); (simp; omega); intro v6 w6 ho6 hg6; obtain ⟨g6, c6, rfl⟩ := own_some ho6 (Nat.succ_pos _); have k1 := hg6.cell (c1D _ _) (Ne.symm hne.out); have kf : w6.frozen? ⟨w.heap.size, 2, none⟩ = false := Blk.frozen (cs := #[.int .i32 0, .int .u32 0, rv]) (t := 56) ((hg6.block _ (HE.out _ _).lt (Ne.symm hne.out)).trans (HE.out _ _)) 2))
      all_goals
        go_wp2
        go_roundw
        case rel =>
          have hm := HD.out.more ho6 hg6
          exact ⟨rbs ++ [wr.heap.size], .slice (some ⟨g6, 0, none⟩) (rbs.length + 1) c6, by simp <;> omega, by simp <;> go_num, hm⟩
        case measure => simp [intOf]; omega
    · have HN : Hid (NewP w wr rv rbs) := hN
      have hr : rbs.length = r := by omega
      clear hN
      go_wp2
      go_ret2
      exact ⟨rv, rbs, rfl, hr, HN.out⟩
end Go.Proofs.YtmnnojekcloblaaGreatDoor

