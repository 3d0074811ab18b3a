import Derived.Test.YtoiiaankpnhppaaGreatDoorPart21
set_option linter.unusedVariables false
set_option linter.unusedSimpArgs false
namespace Go.Proofs.YtoiiaankpnhppaaGreatDoor
open Go.RowKit Go.Maps Go.WideMaps Go.Shelf

attribute [local go_sem] Oper.semAt_some

set_option maxHeartbeats 1000000 in
theorem alive_any (w : World) (rb : Nat) : Calls Tryz.prog 78 #[.pointer (some ⟨rb, 0, none⟩)] w fun e w' => e = .returned (.func (.func 133) #[] #[.pointer (some ⟨w.heap.size, 0, none⟩)]) ∧ w' = w.alloc (.cells #[.pointer (some ⟨rb, 0, none⟩)] 76) := by
  go_enter Tryz.func78, Tryz.ntmps78
  go_wp2
  go_ret
  exact ⟨rfl, rfl⟩

set_option maxRecDepth 100000 in
set_option maxHeartbeats 4000000 in
theorem alive1_iter (w0 : World) (ab rb a : Nat) (io co lo : Option Nat) (K : Nat → Nat) (C : Nat → Option Thk.Ch) (hk : Blk w0 ab #[.pointer (some ⟨rb, 0, none⟩)] 76) (hR : RepP w0 rb a io co lo K C) :
    Iter Tryz.prog 133 #[.pointer (some ⟨ab, 0, none⟩)] (fun x : Itm => #[Value.agg #[.string x.p, .int .u8 x.a, .string x.v, .int .i64 x.m]]) (SAll (itOf C)) (fun k => k = ab ∨ k = rb ∨ io = some k) w0 := by
  intro l J Jx W hE hJ hJx hY h0
  have hkb : Blk W ab #[.pointer (some ⟨rb, 0, none⟩)] 76 := (hE.2 ab (Or.inl rfl)).trans hk
  have hrb : Blk W rb #[.int .i64 (a : Int), .map io, .map co, .map lo] 112 := (hE.2 rb (Or.inr (Or.inl rfl))).trans hR.blk
  obtain ⟨N, hN⟩ := hR.st.its
  have hMW : MapO Tryz.prog 121 W (.map io) N (im (itOf C)) := by
    rcases hN with h | ⟨b, hb, h⟩
    · exact Or.inl h
    · exact Or.inr ⟨b, hb, h.block (hE.2 b (Or.inr (Or.inr (by cases hb; rfl))))⟩
  have h501 : ∀ k, itOf C k ≠ none → okD k := fun k hk => (hR.st.ok k hk).1
  have a5 := hR.a5
  have hal := hkb.lt
  have hrl := hrb.lt
  have hil : ∀ k, io = some k → k < W.heap.size := fun k hk => hMW.lt k (by rw [hk])
  have cA : ∀ o, (W.alloc o).cell? ⟨ab, 0, none⟩ = some (.pointer (some ⟨rb, 0, none⟩)) := fun o => ((hkb.alloc o).cell 0).trans rfl
  have r1 : ∀ o, (W.alloc o).cell? ⟨rb, 1, none⟩ = some (.map io) := fun o => ((hrb.alloc o).cell 1).trans rfl
  have r2 : ∀ o, (W.alloc o).cell? ⟨rb, 2, none⟩ = some (.map co) := fun o => ((hrb.alloc o).cell 2).trans rfl
  have r3 : ∀ o, (W.alloc o).cell? ⟨rb, 3, none⟩ = some (.map lo) := fun o => ((hrb.alloc o).cell 3).trans rfl
  have HAll : Hid (∀ wx, Calls Tryz.prog 121 #[.agg #[.map io, .map co, .map lo]] wx _) := fun wx => All_any wx io co lo
  clear hR hN hk
  refine callsIn_of_wp_marks Tryz.func133 rfl trivial ?_ rfl
  simp only [Tryz.ntmps133, List.size_toArray, List.length_cons, List.length_nil, Nat.reduceAdd, Nat.reduceSub, Array.replicate_succ, Array.replicate_zero, List.push_toArray, List.append_toArray, List.nil_append, List.cons_append]
  gi_wp2_with fail
  refine ⟨trivial, (callsIn_wide.2 (HAll.out _)).mono ?_⟩
  rintro e w1 ⟨rfl, rfl⟩
  gi_wp2_with fail
  have hb2 : Below W.heap.size W ((W.alloc (.cells #[.func (.yield l) #[] #[]] 185)).alloc (.cells #[.map io, .map co, .map lo] 106)) := ((Below.refl _ W).alloc (Nat.le_refl _) _).alloc (by simp) _
  have ky : Blk ((W.alloc (.cells #[.func (.yield l) #[] #[]] 185)).alloc (.cells #[.map io, .map co, .map lo] 106)) W.heap.size #[.func (.yield l) #[] #[]] 185 := (Blk.new W _ _).alloc _
  have ks : Blk ((W.alloc (.cells #[.func (.yield l) #[] #[]] 185)).alloc (.cells #[.map io, .map co, .map lo] 106)) (W.heap.size + 1) #[.map io, .map co, .map lo] 106 := by
    have := Blk.new (W.alloc (.cells #[.func (.yield l) #[] #[]] 185)) #[.map io, .map co, .map lo] 106
    rwa [World.size_alloc] at this
  generalize ((W.alloc (.cells #[.func (.yield l) #[] #[]] 185)).alloc (.cells #[.map io, .map co, .map lo] 106)) = w3 at *
  have hs3 : W.heap.size + 1 < w3.heap.size := ks.lt
  have hIt : Iter Tryz.prog 165 #[.pointer (some ⟨W.heap.size + 1, 0, none⟩)] (fun x : Itm => #[dotE x.n, Value.agg #[.string x.p, .int .u8 x.a, .string x.v, .int .i64 x.m]]) (SAll (itOf C)) (fun k => k = W.heap.size + 1 ∨ io = some k) w3 := All1_iter w3 (W.heap.size + 1) io co lo (itOf C) N ks (hMW.below hb2) h501 (fun k v h => itOf_item h)
  obtain ⟨P, hP⟩ : ∃ P : (Nat → Prop) → Nat → Prop, P = fun T k => T k ∨ k = W.heap.size ∨ k = W.heap.size + 1 := ⟨_, rfl⟩
  have hPT : ∀ {T T' : Nat → Prop} {A B : World}, Chg T A B → (∀ k, T' k → (T k ∨ A.heap.size ≤ k) ∧ k < B.heap.size) → W.heap.size + 2 ≤ A.heap.size → Chg (P T) A B ∧ ∀ k, P T' k → (P T k ∨ A.heap.size ≤ k) ∧ k < B.heap.size := by
    intro T T' A B hc hT hs
    refine ⟨hc.mono (fun k _ hk => by rw [hP]; exact Or.inl hk), fun k hk => ?_⟩
    rw [hP] at hk ⊢
    have := hc.size
    rcases hk with hk | hk
    · exact ⟨(hT k hk).1.imp Or.inl id, (hT k hk).2⟩
    · exact ⟨Or.inl (Or.inr hk), by omega⟩
  refine range_iter (gf := 165) (lb := #[.pointer (some ⟨W.heap.size + 1, 0, none⟩)]) rfl (enters_of Tryz.func165 (by kernel_rfl) rfl) hIt (KeepT.refl _ _) (fun k hk => by rcases hk with rfl | hk; exact hs3; have := hil k hk; omega) (fun _ => rfl)
    (fun T pre W' => J (P T) pre W' ∧ Blk W' W.heap.size #[.func (.yield l) #[] #[]] 185 ∧ ¬ T W.heap.size ∧ W.heap.size + 2 ≤ W'.heap.size) (fun c T pre W' => c = .ret ∧ Jx (P T) pre W' ∧ W.heap.size + 2 ≤ W'.heap.size)
    (fun T T' pre A B h hc hT => by
      have h1 := hPT hc hT h.2.2.2
      exact ⟨hJ _ _ _ _ _ h.1 h1.1 h1.2, h.2.1.chg hc h.2.2.1, fun hk => by rcases (hT _ hk).1 with h2 | h2; exact h.2.2.1 h2; have := h.2.2.2; omega, Nat.le_trans h.2.2.2 hc.size⟩)
    (fun c T T' pre A B h hc hT => by
      have h1 := hPT hc hT h.2.2
      exact ⟨h.1, hJx _ _ _ _ _ h.2.1 h1.1 h1.2, Nat.le_trans h.2.2 hc.size⟩)
    ⟨hJ _ _ _ _ _ h0 (Chg.of_below hb2) (fun k hk => by rw [hP] at hk; rcases hk with hk | hk; exact hk.elim; exact ⟨Or.inr (by omega), by omega⟩), ky, fun h => h, by omega⟩ ?round ?done ?stop
  case round =>
    rintro l' T pre x W1 hTl hT ⟨hJ1, hky, hTw, hsz⟩ hEW ⟨ys, hys, hpre⟩
    obtain ⟨xn, xp, xa, xv, xm⟩ := x
    gi_wp2
    refine ⟨⟨by simp, fun k hk => ?_⟩, ?_⟩
    · refine ((Below.refl W1.heap.size W1).alloc (Nat.le_refl _) _).block k (hk.elim (fun h => ?_) (fun h => (hT k h).2))
      rcases h with rfl | h
      · omega
      · have := hil k h; omega
    intro W2 hc2 hs2 hE2
    have hTs : ∀ k, T k → k < W2.heap.size := fun k hk => by rw [hs2]; have := (hT k hk).2; simp; omega
    have hch : Chg T W1 W2 := (Chg.of_below ((Below.refl W1.heap.size W1).alloc (Nat.le_refl _) _)).trans hc2
    have h1 := hPT hch (fun k hk => ⟨Or.inl hk, hTs k hk⟩) hsz
    have hJ2 : J (P T) pre W2 := hJ _ _ _ _ _ hJ1 h1.1 h1.2
    have hky2 := hky.chg hch hTw
    have ke : Blk W2 W1.heap.size #[.string xp, .int .u8 xa, .string xv, .int .i64 xm] 81 := (Blk.new W1 _ _).chg hc2 (fun hk => by have := (hT _ hk).2; omega)
    have y0 := (hky2.cell 0).trans rfl
    have b0 := (ke.cell 0).trans rfl
    have b1 := (ke.cell 1).trans rfl
    have b2 := (ke.cell 2).trans rfl
    have b3 := (ke.cell 3).trans rfl
    obtain ⟨fn, tmps, assign, body, hy, hRd⟩ := hY (P T) pre ⟨xn, xp, xa, xv, xm⟩ W2 hJ2 ⟨ys, hys, hpre⟩
    try dsimp only at hy
    have Hk2 : Hid (Blk W2 W.heap.size #[.func (.yield l) #[] #[]] 185) := hky2
    have hsz2 : W.heap.size + 2 ≤ W2.heap.size := Nat.le_trans hsz hch.size
    clear hky hky2 ke hch hc2 hs2 hE2 hEW hJ1 hJ2 h1
    gi_wp2
    refine RoundIn.mono (roundIn_inRound (roundIn_wide_any hRd)) ?_
    rintro e W3 (⟨rfl, hJ3, hk3⟩ | ⟨rfl, hJx3, hk3⟩)
    · have HF : Hid (J (P T) (pre ++ [⟨xn, xp, xa, xv, xm⟩]) W3 ∧ KeepT (fun k => (k = ab ∨ k = rb ∨ io = some k) ∨ P T k) W2 W3) := ⟨hJ3, hk3⟩
      clear hJ3 hk3 y0 b0 b1 b2 b3 hy hRd
      gi_wp2
      refine ⟨⟨HF.out.1, (HF.out.2.2 _ (Or.inr (by rw [hP]; exact Or.inr (Or.inl rfl)))).trans Hk2.out, hTw, Nat.le_trans hsz2 HF.out.2.1⟩, HF.out.2.mono (fun k hk => ?_)⟩
      rcases hk with (rfl | hk) | hk
      · exact Or.inr (by rw [hP]; exact Or.inr (Or.inr rfl))
      · exact Or.inl (Or.inr (Or.inr hk))
      · exact Or.inr (by rw [hP]; exact Or.inl hk)
    · have HF : Hid (Jx (P T) (pre ++ [⟨xn, xp, xa, xv, xm⟩]) W3 ∧ KeepT (fun k => (k = ab ∨ k = rb ∨ io = some k) ∨ P T k) W2 W3) := ⟨hJx3, hk3⟩
      clear hJx3 hk3 y0 b0 b1 b2 b3 hy hRd
      gi_wp2
      refine ⟨⟨rfl, HF.out.1, Nat.le_trans hsz2 HF.out.2.1⟩, HF.out.2.mono (fun k hk => ?_)⟩
      rcases hk with (rfl | hk) | hk
      · exact Or.inr (by rw [hP]; exact Or.inr (Or.inr rfl))
      · exact Or.inl (Or.inr (Or.inr hk))
      · exact Or.inr (by rw [hP]; exact Or.inl hk)
  case done =>
    rintro D T xs W' hD hTD hS' ⟨hJ1, hky, hTw, hsz⟩ hT hK
    gi_wp2
    refine ⟨by simp, .inl ⟨_, _, rfl, run_takeDeferred hK, ?_⟩⟩
    refine ⟨_, results_none rfl _ _ _, ⟨_, rfl⟩, Or.inl ⟨xs, hS', P T, ?_⟩⟩
    have h1 := hPT (T := T) (T' := T) (chg_putObj W' D (.deferred none) hTD) (fun k hk => ⟨Or.inl hk, by rw [size_putObj]; exact (hT k hk).2⟩) hsz
    exact hJ _ _ _ _ _ hJ1 h1.1 h1.2
  case stop =>
    rintro D T c pre W' hD hTD ⟨rfl, hJ1, hsz⟩ hT hK
    gi_wp2
    refine ⟨by simp, .inl ⟨_, _, rfl, run_takeDeferred hK, ?_⟩⟩
    refine ⟨_, results_none rfl _ _ _, ⟨_, rfl⟩, Or.inr ⟨pre, P T, ?_⟩⟩
    have h1 := hPT (T := T) (T' := T) (chg_putObj W' D (.deferred none) hTD) (fun k hk => ⟨Or.inl hk, by rw [size_putObj]; exact (hT k hk).2⟩) hsz
    exact hJx _ _ _ _ _ hJ1 h1.1 h1.2
end Go.Proofs.YtoiiaankpnhppaaGreatDoor
namespace Go.Proofs.YtoiiaankpnhppaaGreatDoor
open Go.RowKit Go.Maps Go.WideMaps Go.Shelf

attribute [local go_sem] Oper.semAt_some

set_option maxHeartbeats 1000000 in
theorem here_any (w : World) (p : ByteArray) (gf : Nat) (lb : Array Value) : Calls Tryz.prog 130 #[.string p, .func (.func gf) #[] lb] w fun e w' => e = .returned (.func (.func 180) #[] #[.pointer (some ⟨w.heap.size + 1, 0, none⟩), .pointer (some ⟨w.heap.size, 0, none⟩)]) ∧ w' = (w.alloc (.cells #[.string p] 78)).alloc (.cells #[.func (.func gf) #[] lb] 132) := by
  go_enter Tryz.func130, Tryz.ntmps130
  go_wp2
  go_ret
  exact ⟨rfl, rfl⟩

def atP (p : ByteArray) (xs : List Itm) : List Itm := xs.filter (fun x => x.p.toList == p.toList)
def SHere (S : List Itm → Prop) (p : ByteArray) (ys : List Itm) : Prop := ∃ xs, S xs ∧ ys = atP p xs

set_option maxRecDepth 100000 in
set_option maxHeartbeats 4000000 in
theorem here1_iter (w0 : World) (fb pb : Nat) (p : ByteArray) (gf : Nat) (lb : Array Value) (S : List Itm → Prop) (E : Nat → Prop) (hit : Iter Tryz.prog gf lb (fun x : Itm => #[Value.agg #[.string x.p, .int .u8 x.a, .string x.v, .int .i64 x.m]]) S E w0) (eg : ∀ args w, (callFunc gf args).run Tryz.prog w = .ok (.enter gf args) w) (hEl : ∀ k, E k → k < w0.heap.size)
    (hf : Blk w0 fb #[.func (.func gf) #[] lb] 132) (hp : Blk w0 pb #[.string p] 78) :
    Iter Tryz.prog 180 #[.pointer (some ⟨fb, 0, none⟩), .pointer (some ⟨pb, 0, none⟩)] (fun x : Itm => #[Value.agg #[.string x.p, .int .u8 x.a, .string x.v, .int .i64 x.m]]) (SHere S p) (fun k => k = fb ∨ k = pb ∨ E k) w0 := by
  intro l J Jx W hE hJ hJx hY h0
  have hfW : Blk W fb #[.func (.func gf) #[] lb] 132 := (hE.2 fb (Or.inl rfl)).trans hf
  have hpW : Blk W pb #[.string p] 78 := (hE.2 pb (Or.inr (Or.inl rfl))).trans hp
  have hfl := hfW.lt
  have hpl := hpW.lt
  have hs0 : w0.heap.size ≤ W.heap.size := hE.1
  have hE0 : KeepT E w0 W := hE.mono (fun k hk => Or.inr (Or.inr hk))
  have cA : ∀ o, (W.alloc o).cell? ⟨fb, 0, none⟩ = some (.func (.func gf) #[] lb) := fun o => ((hfW.alloc o).cell 0).trans rfl
  clear hf hp
  refine callsIn_of_wp_marks Tryz.func180 rfl trivial ?_ rfl
  simp only [Tryz.ntmps180, List.size_toArray, List.length_cons, List.length_nil, Nat.reduceAdd, Nat.reduceSub, Array.replicate_succ, Array.replicate_zero, List.push_toArray, List.append_toArray, List.nil_append, List.cons_append]
  gi_wp2_with fail
  have hb2 : Below W.heap.size W (W.alloc (.cells #[.func (.yield l) #[] #[]] 185)) := (Below.refl _ W).alloc (Nat.le_refl _) _
  have ky : Blk (W.alloc (.cells #[.func (.yield l) #[] #[]] 185)) W.heap.size #[.func (.yield l) #[] #[]] 185 := Blk.new W _ _
  have kp2 := hpW.below hb2
  generalize (W.alloc (.cells #[.func (.yield l) #[] #[]] 185)) = w3 at *
  have hs3 : W.heap.size < w3.heap.size := ky.lt
  obtain ⟨P, hP⟩ : ∃ P : (Nat → Prop) → Nat → Prop, P = fun T k => T k ∨ k = W.heap.size := ⟨_, rfl⟩
  have hPT : ∀ {T T' : Nat → Prop} {A B : World}, Chg T A B → (∀ k, T' k → (T k ∨ A.heap.size ≤ k) ∧ k < B.heap.size) → W.heap.size + 1 ≤ A.heap.size → Chg (P T) A B ∧ ∀ k, P T' k → (P T k ∨ A.heap.size ≤ k) ∧ k < B.heap.size := by
    intro T T' A B hc hT hs
    refine ⟨hc.mono (fun k _ hk => by rw [hP]; exact Or.inl hk), fun k hk => ?_⟩
    rw [hP] at hk ⊢
    have := hc.size
    rcases hk with hk | hk
    · exact ⟨(hT k hk).1.imp Or.inl id, (hT k hk).2⟩
    · exact ⟨Or.inl (Or.inr hk), by omega⟩
  refine range_iter (E := fun k => k = pb ∨ E k) (w0 := w3) (S := S) (encs := fun x : Itm => #[Value.agg #[.string x.p, .int .u8 x.a, .string x.v, .int .i64 x.m]]) (gf := gf) (lb := lb) rfl eg ?it (KeepT.refl _ _) (fun k hk => by rcases hk with rfl | hk; omega; have := hEl k hk; omega) (fun _ => rfl)
    (fun T pre W' => J (P T) (atP p pre) W' ∧ Blk W' W.heap.size #[.func (.yield l) #[] #[]] 185 ∧ ¬ T W.heap.size ∧ W.heap.size + 1 ≤ W'.heap.size) (fun c T pre W' => c = .ret ∧ Jx (P T) (atP p pre) W' ∧ W.heap.size + 1 ≤ W'.heap.size)
    (fun T T' pre A B h hc hT => by
      have h1 := hPT hc hT h.2.2.2
      exact ⟨hJ _ _ _ _ _ h.1 h1.1 h1.2, h.2.1.chg hc h.2.2.1, fun hk => by rcases (hT _ hk).1 with h2 | h2; exact h.2.2.1 h2; have := h.2.2.2; omega, Nat.le_trans h.2.2.2 hc.size⟩)
    (fun c T T' pre A B h hc hT => by
      have h1 := hPT hc hT h.2.2
      exact ⟨h.1, hJx _ _ _ _ _ h.2.1 h1.1 h1.2, Nat.le_trans h.2.2 hc.size⟩)
    ⟨hJ _ _ _ _ _ h0 (Chg.of_below hb2) (fun k hk => by rw [hP] at hk; rcases hk with hk | hk; exact hk.elim; exact ⟨Or.inr (by omega), by omega⟩), ky, fun h => h, by omega⟩ ?round ?done ?stop
  case it =>
    intro l2 J2 Jx2 W2 hk2 g1 g2 g3 g4
    refine hit l2 J2 Jx2 W2 ((hE0.trans ⟨hb2.size, fun k hk => hb2.block k (by have := hEl k hk; omega)⟩).trans (hk2.mono (fun k hk => Or.inr hk))) g1 g2 (fun T pre x W1 h1 h2 => ?_) g4
    refine YieldAt.mono (g3 T pre x W1 h1 h2) ?_
    rintro e W' (⟨rfl, h3, h4⟩ | ⟨rfl, h3, h4⟩)
    · exact Or.inl ⟨rfl, h3, h4.mono (fun k hk => hk.imp Or.inr id)⟩
    · exact Or.inr ⟨rfl, h3, h4.mono (fun k hk => hk.imp Or.inr id)⟩
  case round =>
    rintro l' T pre x W1 hTl hT ⟨hJ1, hky, hTw, hsz⟩ hEW ⟨ys, hys, hpre⟩
    have hpw1 : Blk W1 pb #[.string p] 78 := (hEW.2 pb (Or.inl rfl)).trans kp2
    obtain ⟨xn, xp, xa, xv, xm⟩ := x
    gi_wp2
    refine ⟨⟨by simp, fun k hk => ?_⟩, ?_⟩
    · refine ((Below.refl W1.heap.size W1).alloc (Nat.le_refl _) _).block k (hk.elim (fun h => ?_) (fun h => (hT k h).2))
      rcases h with rfl | h
      · omega
      · have := hEl k h; omega
    intro W2 hc2 hs2 hE2
    have hTs : ∀ k, T k → k < W2.heap.size := fun k hk => by rw [hs2]; have := (hT k hk).2; simp; omega
    have hch : Chg T W1 W2 := (Chg.of_below ((Below.refl W1.heap.size W1).alloc (Nat.le_refl _) _)).trans hc2
    have h1 := hPT hch (fun k hk => ⟨Or.inl hk, hTs k hk⟩) hsz
    have hJ2 : J (P T) (atP p pre) W2 := hJ _ _ _ _ _ hJ1 h1.1 h1.2
    have hky2 := hky.chg hch hTw
    have hpw2 : Blk W2 pb #[.string p] 78 := (hE2.2 pb (Or.inl rfl)).trans kp2
    have ke : Blk W2 W1.heap.size #[.string xp, .int .u8 xa, .string xv, .int .i64 xm] 81 := (Blk.new W1 _ _).chg hc2 (fun hk => by have := (hT _ hk).2; omega)
    have y0 := (hky2.cell 0).trans rfl
    have p0 := (hpw2.cell 0).trans rfl
    have b0 := (ke.cell 0).trans rfl
    have b1 := (ke.cell 1).trans rfl
    have b2 := (ke.cell 2).trans rfl
    have b3 := (ke.cell 3).trans rfl
    have Hk2 : Hid (Blk W2 W.heap.size #[.func (.yield l) #[] #[]] 185) := hky2
    have hsz2 : W.heap.size + 1 ≤ W2.heap.size := Nat.le_trans hsz hch.size
    have HJ2 : Hid (J (P T) (atP p pre) W2) := hJ2
    have HT2 : Hid (KeepT (fun k => (k = pb ∨ E k) ∨ T k) W2 W2) := KeepT.refl _ _
    have hall : atP p (pre ++ [⟨xn, xp, xa, xv, xm⟩]) = atP p pre ++ (if xp.toList == p.toList then [⟨xn, xp, xa, xv, xm⟩] else []) := by
      unfold atP; rw [List.filter_append]; congr 1; simp only [List.filter_cons, List.filter_nil]
    clear hky hky2 ke hch hc2 hs2 hE2 hEW hJ1 hJ2 h1 hpw1 hpw2
    cases hxp : (xp.toList == p.toList) with
    | false =>
      rw [hxp] at hall
      simp only [Bool.false_eq_true, if_false, List.append_nil] at hall
      gi_wp2
      refine ⟨fun _ h => (by cases h), ?_⟩
      gi_wp2
      refine ⟨⟨by rw [hall]; exact HJ2.out, Hk2.out, hTw, hsz2⟩, HT2.out⟩
    | true =>
      rw [hxp] at hall
      simp only [if_true] at hall
      obtain ⟨fn, tmps, assign, body, hy, hRd⟩ := hY (P T) (atP p pre) ⟨xn, xp, xa, xv, xm⟩ W2 HJ2.out ⟨atP p ys, ⟨ys, hys, rfl⟩, by rw [← hall]; exact hpre.filter _⟩
      try dsimp only at hy
      gi_wp2
      refine RoundIn.mono (roundIn_inRound (roundIn_wide_any hRd)) ?_
      rintro e W3 (⟨rfl, hJ3, hk3⟩ | ⟨rfl, hJx3, hk3⟩)
      · have HF : Hid (J (P T) (atP p pre ++ [⟨xn, xp, xa, xv, xm⟩]) W3 ∧ KeepT (fun k => (k = fb ∨ k = pb ∨ E k) ∨ P T k) W2 W3) := ⟨hJ3, hk3⟩
        clear hJ3 hk3 y0 b0 b1 b2 b3 hy hRd
        gi_wp2
        refine ⟨⟨by rw [hall]; exact HF.out.1, (HF.out.2.2 _ (Or.inr (by rw [hP]; exact Or.inr rfl))).trans Hk2.out, hTw, Nat.le_trans hsz2 HF.out.2.1⟩, HF.out.2.mono (fun k hk => ?_)⟩
        rcases hk with (rfl | hk) | hk
        · exact Or.inl (Or.inr (Or.inl rfl))
        · exact Or.inl (Or.inr (Or.inr hk))
        · exact Or.inr (by rw [hP]; exact Or.inl hk)
      · have HF : Hid (Jx (P T) (atP p pre ++ [⟨xn, xp, xa, xv, xm⟩]) W3 ∧ KeepT (fun k => (k = fb ∨ k = pb ∨ E k) ∨ P T k) W2 W3) := ⟨hJx3, hk3⟩
        clear hJx3 hk3 y0 b0 b1 b2 b3 hy hRd
        gi_wp2
        refine ⟨⟨rfl, by rw [hall]; exact HF.out.1, Nat.le_trans hsz2 HF.out.2.1⟩, HF.out.2.mono (fun k hk => ?_)⟩
        rcases hk with (rfl | hk) | hk
        · exact Or.inl (Or.inr (Or.inl rfl))
        · exact Or.inl (Or.inr (Or.inr hk))
        · exact Or.inr (by rw [hP]; exact Or.inl hk)
  case done =>
    rintro D T xs W' hD hTD hS' ⟨hJ1, hky, hTw, hsz⟩ hT hK
    gi_wp2
    refine ⟨by simp, .inl ⟨_, _, rfl, run_takeDeferred hK, ?_⟩⟩
    refine ⟨_, results_none rfl _ _ _, ⟨_, rfl⟩, Or.inl ⟨atP p xs, ⟨xs, hS', rfl⟩, P T, ?_⟩⟩
    have h1 := hPT (T := T) (T' := T) (chg_putObj W' D (.deferred none) hTD) (fun k hk => ⟨Or.inl hk, by rw [size_putObj]; exact (hT k hk).2⟩) hsz
    exact hJ _ _ _ _ _ hJ1 h1.1 h1.2
  case stop =>
    rintro D T c pre W' hD hTD ⟨rfl, hJ1, hsz⟩ hT hK
    gi_wp2
    refine ⟨by simp, .inl ⟨_, _, rfl, run_takeDeferred hK, ?_⟩⟩
    refine ⟨_, results_none rfl _ _ _, ⟨_, rfl⟩, Or.inr ⟨atP p pre, P T, ?_⟩⟩
    have h1 := hPT (T := T) (T' := T) (chg_putObj W' D (.deferred none) hTD) (fun k hk => ⟨Or.inl hk, by rw [size_putObj]; exact (hT k hk).2⟩) hsz
    exact hJx _ _ _ _ _ hJ1 h1.1 h1.2
end Go.Proofs.YtoiiaankpnhppaaGreatDoor
namespace Go.Proofs.YtoiiaankpnhppaaGreatDoor
open Go.RowKit Go.Maps Go.WideMaps Go.Shelf

attribute [local go_sem] Oper.semAt_some

theorem Tryz.infoStr : (Tryz.prog.info? 9).map (fun i => (i.zero, i.size, i.bytes)) = some (some (.string ⟨#[]⟩), 1, 16) := by kernel_rfl
def svals (l : List ByteArray) : List Value := l.map Value.string
theorem svals_snoc (l : List ByteArray) (s : ByteArray) : svals (l ++ [s]) = svals l ++ [.string s] := by simp [svals]

set_option maxRecDepth 100000 in
set_option maxHeartbeats 4000000 in
theorem written_any (w : World) (gf : Nat) (lb : Array Value) (S : List Itm → Prop) (E : Nat → Prop) (hit : Iter Tryz.prog gf lb (fun x : Itm => #[Value.agg #[.string x.p, .int .u8 x.a, .string x.v, .int .i64 x.m]]) S E w) (eg : ∀ args w, (callFunc gf args).run Tryz.prog w = .ok (.enter gf args) w) (hE : ∀ k, E k → k < w.heap.size) (hS : ∀ xs, S xs → xs.length ≤ 1000) :
    Calls Tryz.prog 132 #[.func (.func gf) #[] lb] w fun e w' => ∃ v xs, e = .returned v ∧ S xs ∧ w'.ownsRow w.heap.size 9 1 v xs.length (svals (xs.map Itm.v)) ∧ Below w.heap.size w w' := by
  obtain ⟨i0, hi, hz0, hz1, hz2⟩ := info_parts Tryz.infoStr
  refine (callsIn_wide (n := 3)).1 ?_
  refine callsIn_of_wp_marks Tryz.func132 rfl trivial ?_ rfl
  simp only [Tryz.ntmps132, List.size_toArray, List.length_cons, List.length_nil, Nat.reduceAdd, Nat.reduceSub, Array.replicate_succ, Array.replicate_zero, List.push_toArray, List.append_toArray, List.nil_append, List.cons_append]
  gi_wp2
  have hbw : Below w.heap.size w (w.alloc (.cells #[.slice none 0 0] 128)) := (Below.refl _ w).alloc (Nat.le_refl _) _
  refine range_iter (gf := gf) (lb := lb) rfl eg hit ⟨hbw.size, fun k hk => hbw.block k (hE k hk)⟩ (fun k hk => Nat.lt_of_lt_of_le (hE k hk) hbw.size) (fun _ => rfl)
    (fun T pre W => Coll w w.heap.size 128 9 1 (svals (pre.map Itm.v)) pre.length T W) (fun _ _ _ _ => False)
    (fun T T' pre W W' h hc hT => h.stab hc hT) (fun _ _ _ _ _ _ h _ _ => h)
    ⟨_, Boxed.new w _ _, World.ownsRow_nil _ _ _ _, fun h => h, fun _ _ h => h, hbw, fun _ h => h.elim, Nat.le_refl _⟩ ?round ?done ?stop
  case round =>
    rintro l T pre x W hTl hT ⟨v, hC⟩ hEW ⟨ys, hys, hpre⟩
    have hlen : pre.length + 1 ≤ 1000 := by have := hS ys hys; have := hpre.length_le; simp at this; omega
    obtain ⟨xn, xp, xa, xv, xm⟩ := x
    gi_wp2
    refine ⟨⟨by simp, fun k hk => ?_⟩, ?_⟩
    · exact ((Below.refl _ W).alloc (Nat.le_refl _) _).block k (hk.elim (fun h => Nat.lt_of_lt_of_le (hE k h) hC.below.size) (fun h => (hT k h).2))
    intro W2 hc2 hs2 hE2
    have hTs : ∀ k, T k → k < W2.heap.size := fun k hk => by rw [hs2]; have := (hT k hk).2; simp; omega
    have hC2 : CollV w w.heap.size 128 9 1 (svals (pre.map Itm.v)) pre.length T W2 v := hC.stab ((Chg.of_below ((Below.refl _ W).alloc (Nat.le_refl _) _)).trans hc2) (fun k hk => ⟨Or.inl hk, hTs k hk⟩)
    have kd : Blk W2 W.heap.size #[.string xp, .int .u8 xa, .string xv, .int .i64 xm] 81 := (Blk.new W _ _).chg hc2 (fun hk => by have := (hT _ hk).2; omega)
    have c0 := hC2.bx.cell
    have d2 := (kd.cell 2).trans rfl
    have HC2 : Hid (CollV w w.heap.size 128 9 1 (svals (pre.map Itm.v)) pre.length T W2 v) := hC2
    have hb2 : w.heap.size ≤ W2.heap.size := hC2.below.size
    have hml : Hid (pre.length + 1 ≤ maxLen) := by unfold Hid maxLen; omega
    have hmb : Hid ((pre.length + 1) * 16 ≤ 140737488355328) := by unfold Hid; omega
    have Hcn : Hid (∀ j u, ([.string xv] : List Value)[j]? = some u → (W2.alloc (.cells #[.string xv] 9)).cell? ((⟨W2.heap.size, 0, none⟩ : Addr).add j) = some u) := cell_one_new W2 _ _
    clear hC hC2 kd hc2 hE2 hs2
    gi_wp2_with (first | (gi_at_builtin; refine wpListIn_append_own_at _ rfl (.tmp 7) (.tmp 10) 128 rfl w.heap.size 9 i0 (.string ⟨#[]⟩) 1 16 Tryz.underlying128 hi hz0 hz1 hz2 rfl (by decide) v pre.length _ rfl (HC2.out.row.alloc _) ⟨W2.heap.size, 0, none⟩ 1 1 [.string xv] rfl rfl Hcn.out (by simp [Value.oneCell']) hml.out hmb.out (by simp; omega) ?_; intro v' w1 hown' hg' _ hloc; have happ := HC2.out.app (E := E) (by decide) hown' hg' hloc hTs hE; obtain ⟨g', cap', rfl⟩ := ownsRow_succ hown'; have hc1 := happ.1.cell; have hf1 := happ.1.frozen))
    refine ⟨?_, happ.2.2⟩
    have h2 := happ.2.1
    rw [← svals_snoc] at h2
    exact ⟨_, by rw [List.length_append, List.map_append]; exact h2⟩
  case done =>
    rintro D T xs W hD hTD hS' ⟨v, hC⟩ hT hK
    have c0 := hC.bx.cell
    have HC : Hid (CollV w w.heap.size 128 9 1 (svals (xs.map Itm.v)) xs.length T W v) := hC
    clear hC
    gi_wp2
    refine ⟨by simp, .inl ⟨_, _, rfl, run_takeDeferred hK, ?_⟩⟩
    refine ⟨_, results_tmp rfl _ _ _, v, xs, rfl, hS', ?_, ?_⟩
    · exact ownsRow_putObj HC.out.row _ hK rfl
    · exact (HC.out.stab (T' := T) (chg_putObj W D (.deferred none) hTD) (fun k hk => ⟨Or.inl hk, by rw [size_putObj]; exact (hT k hk).2⟩)).below
  case stop =>
    rintro D T c pre W _ _ h
    exact h.elim

set_option maxRecDepth 100000 in
set_option maxHeartbeats 4000000 in
theorem flag_any (w : World) (gf : Nat) (lb : Array Value) (S : List Itm → Prop) (E : Nat → Prop) (hit : Iter Tryz.prog gf lb (fun x : Itm => #[Value.agg #[.string x.p, .int .u8 x.a, .string x.v, .int .i64 x.m]]) S E w) (eg : ∀ args w, (callFunc gf args).run Tryz.prog w = .ok (.enter gf args) w) (hE : ∀ k, E k → k < w.heap.size) :
    Calls Tryz.prog 129 #[.func (.func gf) #[] lb] w fun e w' => ∃ xs b, e = .returned (.string (if b = true then ⟨#[49]⟩ else ⟨#[48]⟩)) ∧ S xs ∧ (b = true ↔ xs ≠ []) ∧ Below w.heap.size w w' := by
  refine (callsIn_wide (n := 3)).1 ?_
  refine callsIn_of_wp_marks Tryz.func129 rfl trivial ?_ rfl
  simp only [Tryz.ntmps129, List.size_toArray, List.length_cons, List.length_nil, Nat.reduceAdd, Nat.reduceSub, Array.replicate_succ, Array.replicate_zero, List.push_toArray, List.append_toArray, List.nil_append, List.cons_append]
  gi_wp2
  have hbw : Below w.heap.size w (w.alloc (.cells #[.string ⟨#[]⟩] 9)) := (Below.refl _ w).alloc (Nat.le_refl _) _
  obtain ⟨I, hI⟩ : ∃ I : ByteArray → (Nat → Prop) → World → Prop, I = fun s T W => Blk W w.heap.size #[.string s] 9 ∧ ¬ T w.heap.size ∧ Below w.heap.size w W ∧ ∀ k, T k → w.heap.size ≤ k := ⟨_, rfl⟩
  have hst : ∀ s {T T' : Nat → Prop} {W W' : World}, I s T W → Chg T W W' → (∀ k, T' k → (T k ∨ W.heap.size ≤ k) ∧ k < W'.heap.size) → I s T' W' := by
    intro s T T' W W' h hc hT
    rw [hI] at h ⊢
    obtain ⟨h1, h2, h3, h4⟩ := h
    refine ⟨h1.chg hc h2, fun hk => ?_, ?_, fun k hk => ?_⟩
    · rcases (hT _ hk).1 with h5 | h5
      · exact h2 h5
      · have := h1.lt; omega
    · exact h3.trans ⟨hc.os, hc.tape, hc.output, hc.size, fun k hk => hc.block k (Nat.lt_of_lt_of_le hk h3.size) (fun ht => by have := h4 k ht; omega)⟩
    · rcases (hT k hk).1 with h5 | h5
      · exact h4 k h5
      · exact Nat.le_trans h3.size h5
  refine range_iter (gf := gf) (lb := lb) rfl eg hit ⟨hbw.size, fun k hk => hbw.block k (hE k hk)⟩ (fun k hk => Nat.lt_of_lt_of_le (hE k hk) hbw.size) (fun _ => rfl)
    (fun T pre W => I ⟨#[]⟩ T W ∧ pre = []) (fun c T pre W => c = .ret ∧ I ⟨#[49]⟩ T W ∧ ∃ ys, S ys ∧ ys ≠ [])
    (fun T T' pre W W' h hc hT => ⟨hst _ h.1 hc hT, h.2⟩) (fun c T T' pre W W' h hc hT => ⟨h.1, hst _ h.2.1 hc hT, h.2.2⟩)
    ⟨by rw [hI]; exact ⟨Blk.new w _ _, fun h => h, hbw, fun _ h => h.elim⟩, rfl⟩ ?round ?done ?stop
  case round =>
    rintro l T pre x W hTl hT ⟨hIW, rfl⟩ hEW ⟨ys, hys, hpre⟩
    gi_wp2
    refine ⟨KeepT.refl _ _, ?_⟩
    intro W2 hc2 hs2 hE2
    have h2 := hst _ (T' := T) hIW hc2 (fun k hk => ⟨Or.inl hk, by rw [hs2]; exact (hT k hk).2⟩)
    rw [hI] at h2
    have c0 := (h2.1.cell 0).trans rfl
    have f0 := h2.1.frozen
    gi_wp2
    refine ⟨⟨rfl, ?_, ys, hys, fun e => by rw [e] at hpre; simp at hpre⟩, ?_⟩
    · rw [hI]
      refine ⟨?_, h2.2.1, h2.2.2.1.setCell (p := ⟨w.heap.size, 0, none⟩) (Nat.le_refl _) _, h2.2.2.2⟩
      have := h2.1
      unfold Blk at this ⊢
      simp [World.setCell, Array.getElem?_modify, this]
    · refine ⟨by simp [World.setCell], fun k hk => Below.heap_setCell W2 ⟨w.heap.size, 0, none⟩ _ k (fun e => ?_)⟩
      subst e
      rcases hk with hk | hk
      · have := hE _ hk; simp at this
      · exact h2.2.1 hk
  case done =>
    rintro D T xs W hD hTD hS' ⟨hIW, rfl⟩ hT hK
    have h2 := hIW
    rw [hI] at h2
    have c0 := (h2.1.cell 0).trans rfl
    have f0 := h2.1.frozen
    have hDne : D ≠ w.heap.size := fun e => h2.2.1 (e ▸ hTD)
    gi_wp2
    refine ⟨by simp, .inl ⟨_, _, rfl, run_takeDeferred (b := D) (ds := []) ?_, ?_⟩⟩
    · exact (Below.heap_setCell W ⟨w.heap.size, 0, none⟩ _ D hDne).trans hK
    · have hk1 : Blk ((W.setCell ⟨w.heap.size, 0, none⟩ (.string ⟨#[48]⟩)).putObj D (.deferred none)) w.heap.size #[.string ⟨#[48]⟩] 9 := by
        refine (World.putObj_heap_other (fun e => hDne e.symm)).trans ?_
        have := h2.1
        unfold Blk at this
        simp [World.setCell, Array.getElem?_modify, this]
      have hc1 := (hk1.cell 0).trans rfl
      have hb1 : Below w.heap.size w (W.setCell ⟨w.heap.size, 0, none⟩ (.string ⟨#[48]⟩)) := h2.2.2.1.setCell (p := ⟨w.heap.size, 0, none⟩) (Nat.le_refl _) _
      refine ⟨.string ⟨#[48]⟩, by simp [results, Tryz.results129, go_sem, hc1], [], false, by simp, hS', by simp, ?_⟩
      exact hb1.trans ⟨rfl, rfl, rfl, by simp [World.putObj], fun k hk => World.putObj_heap_other (fun e => by have := h2.2.2.2 D hTD; omega)⟩
  case stop =>
    rintro D T c pre W hD hTD ⟨rfl, hIW, ys, hys, hne⟩ hT hK
    have h2 := hIW
    rw [hI] at h2
    have hDne : D ≠ w.heap.size := fun e => h2.2.1 (e ▸ hTD)
    gi_wp2
    refine ⟨by simp, .inl ⟨_, _, rfl, run_takeDeferred hK, ?_⟩⟩
    have hk1 : Blk (W.putObj D (.deferred none)) w.heap.size #[.string ⟨#[49]⟩] 9 := (World.putObj_heap_other (fun e => hDne e.symm)).trans h2.1
    have hc1 := (hk1.cell 0).trans rfl
    refine ⟨.string ⟨#[49]⟩, by simp [results, Tryz.results129, go_sem, hc1], ys, true, by simp, hys, by simpa using hne, ?_⟩
    exact h2.2.2.1.trans ⟨rfl, rfl, rfl, by simp [World.putObj], fun k hk => World.putObj_heap_other (fun e => by have := h2.2.2.2 D hTD; omega)⟩
end Go.Proofs.YtoiiaankpnhppaaGreatDoor
namespace Go.Proofs.YtoiiaankpnhppaaGreatDoor
open Go.RowKit Go.Maps Go.WideMaps Go.Shelf Go.Sort

attribute [local go_sem] Oper.semAt_some

def sumOf (xs : List Itm) : Int := (xs.map Itm.m).sum
theorem sumOf_snoc (xs : List Itm) (x : Itm) : sumOf (xs ++ [x]) = sumOf xs + x.m := by simp [sumOf]
theorem sumOf_bound : ∀ xs : List Itm, (∀ x ∈ xs, -1000000000 ≤ x.m ∧ x.m ≤ 1000000000) → -(1000000000 * (xs.length : Int)) ≤ sumOf xs ∧ sumOf xs ≤ 1000000000 * (xs.length : Int) := by
  intro xs
  induction xs with
  | nil => intro _; simp [sumOf]
  | cons x r ih =>
    intro h
    have h1 := ih (fun y hy => h y (by simp [hy]))
    have h2 := h x (by simp)
    have e : sumOf (x :: r) = x.m + sumOf r := by simp [sumOf]
    rw [e]
    simp only [List.length_cons]
    omega
theorem below_gr {w w' : World} (h : ∃ k os, w' = grow (w.drewN k) os) : Below w.heap.size w w' := by
  obtain ⟨k, os, rfl⟩ := h
  exact ⟨rfl, rfl, rfl, by simp [World.drewN], fun j hj => heap_grow_old _ _ hj⟩

set_option maxRecDepth 100000 in
set_option maxHeartbeats 4000000 in
theorem sum_any (w : World) (hG : Glob w) (gf : Nat) (lb : Array Value) (S : List Itm → Prop) (E : Nat → Prop) (hit : Iter Tryz.prog gf lb (fun x : Itm => #[Value.agg #[.string x.p, .int .u8 x.a, .string x.v, .int .i64 x.m]]) S E w) (eg : ∀ args w, (callFunc gf args).run Tryz.prog w = .ok (.enter gf args) w) (hE : ∀ k, E k → k < w.heap.size) (hS : ∀ xs, S xs → xs.length ≤ 1000 ∧ ∀ x ∈ xs, -1000000000 ≤ x.m ∧ x.m ≤ 1000000000) :
    Calls Tryz.prog 131 #[.func (.func gf) #[] lb] w fun e w' => ∃ xs, e = .returned (.string ⟨(Lib.itoa (sumOf xs)).toArray⟩) ∧ S xs ∧ Below w.heap.size w w' := by
  have hbd : ∀ ys pre, S ys → pre <+: ys → -1000000000000 ≤ sumOf pre ∧ sumOf pre ≤ 1000000000000 := fun ys pre hy hp => by
    have h1 := hS ys hy
    have h2 := sumOf_bound pre (fun x hx => h1.2 x (hp.subset hx))
    have h3 := hp.length_le
    omega
  refine (callsIn_wide (n := 3)).1 ?_
  refine callsIn_of_wp_marks Tryz.func131 rfl trivial ?_ rfl
  simp only [Tryz.ntmps131, List.size_toArray, List.length_cons, List.length_nil, Nat.reduceAdd, Nat.reduceSub, Array.replicate_succ, Array.replicate_zero, List.push_toArray, List.append_toArray, List.nil_append, List.cons_append]
  gi_wp2
  have hbw : Below w.heap.size w (w.alloc (.cells #[.int .i64 0] 2)) := (Below.refl _ w).alloc (Nat.le_refl _) _
  obtain ⟨I, hI⟩ : ∃ I : Int → (Nat → Prop) → World → Prop, I = fun s T W => Blk W w.heap.size #[.int .i64 s] 2 ∧ ¬ T w.heap.size ∧ Below w.heap.size w W ∧ ∀ k, T k → w.heap.size ≤ k := ⟨_, rfl⟩
  have hst : ∀ s {T T' : Nat → Prop} {W W' : World}, I s T W → Chg T W W' → (∀ k, T' k → (T k ∨ W.heap.size ≤ k) ∧ k < W'.heap.size) → I s T' W' := by
    intro s T T' W W' h hc hT
    rw [hI] at h ⊢
    obtain ⟨h1, h2, h3, h4⟩ := h
    refine ⟨h1.chg hc h2, fun hk => ?_, ?_, fun k hk => ?_⟩
    · rcases (hT _ hk).1 with h5 | h5
      · exact h2 h5
      · have := h1.lt; omega
    · exact h3.trans ⟨hc.os, hc.tape, hc.output, hc.size, fun k hk => hc.block k (Nat.lt_of_lt_of_le hk h3.size) (fun ht => by have := h4 k ht; omega)⟩
    · rcases (hT k hk).1 with h5 | h5
      · exact h4 k h5
      · exact Nat.le_trans h3.size h5
  refine range_iter (gf := gf) (lb := lb) rfl eg hit ⟨hbw.size, fun k hk => hbw.block k (hE k hk)⟩ (fun k hk => Nat.lt_of_lt_of_le (hE k hk) hbw.size) (fun _ => rfl)
    (fun T pre W => I (sumOf pre) T W) (fun c T pre W => False)
    (fun T T' pre W W' h hc hT => hst _ h hc hT) (fun c T T' pre W W' h hc hT => h)
    (by rw [hI]; exact ⟨Blk.new w _ _, fun h => h, hbw, fun _ h => h.elim⟩) ?round ?done ?stop
  case round =>
    rintro l T pre x W hTl hT hIW hEW ⟨ys, hys, hpre⟩
    have hb1 := hbd ys _ hys hpre
    rw [sumOf_snoc] at hb1
    have hwW : w.heap.size ≤ W.heap.size := by rw [hI] at hIW; exact hIW.2.2.1.size
    obtain ⟨xn, xp, xa, xv, xm⟩ := x
    gi_wp2
    refine ⟨⟨by simp, fun k hk => ?_⟩, ?_⟩
    · exact ((Below.refl _ W).alloc (Nat.le_refl _) _).block k (hk.elim (fun h => Nat.lt_of_lt_of_le (hE k h) hwW) (fun h => (hT k h).2))
    intro W2 hc2 hs2 hE2
    have hTs : ∀ k, T k → k < W2.heap.size := fun k hk => by rw [hs2]; have := (hT k hk).2; simp; omega
    have h2 := hst _ (T' := T) hIW ((Chg.of_below ((Below.refl _ W).alloc (Nat.le_refl _) _)).trans hc2) (fun k hk => ⟨Or.inl hk, hTs k hk⟩)
    rw [hI] at h2
    have kd : Blk W2 W.heap.size #[.string xp, .int .u8 xa, .string xv, .int .i64 xm] 81 := (Blk.new W _ _).chg hc2 (fun hk => by have := (hT _ hk).2; omega)
    have c0 := (h2.1.cell 0).trans rfl
    have f0 := h2.1.frozen
    have d3 := (kd.cell 3).trans rfl
    have hwr : IntKind.i64.wrap (sumOf pre + xm) = sumOf pre + xm := wrap_in _ (by first | omega | (simp only at hb1; omega)) (by first | omega | (simp only at hb1; omega))
    have H2 : Hid (Blk W2 w.heap.size #[.int .i64 (sumOf pre)] 2 ∧ ¬ T w.heap.size ∧ Below w.heap.size w W2 ∧ ∀ k, T k → w.heap.size ≤ k) := h2
    have hsn := sumOf_snoc pre ⟨xn, xp, xa, xv, xm⟩
    try simp only at hsn
    try simp only at hb1
    generalize sumOf pre = sp at *
    clear h2 kd hc2 hs2 hE2 hIW hEW
    gi_wp2
    refine ⟨?_, ?_⟩
    · refine (show _ ∧ _ ∧ _ ∧ _ from ⟨?_, H2.out.2.1, H2.out.2.2.1.setCell (p := ⟨w.heap.size, 0, none⟩) (Nat.le_refl _) _, H2.out.2.2.2⟩)
      rw [hsn]
      have := H2.out.1
      unfold Blk at this ⊢
      simp [World.setCell, Array.getElem?_modify, this, hwr]
    · refine ⟨by simp [World.setCell], fun k hk => Below.heap_setCell W2 ⟨w.heap.size, 0, none⟩ _ k (fun e => ?_)⟩
      subst e
      rcases hk with hk | hk
      · have := hE _ hk; simp at this
      · exact H2.out.2.1 hk
  case done =>
    rintro D T xs W hD hTD hS' hIW hT hK
    have h2 := hIW
    rw [hI] at h2
    have c0 := (h2.1.cell 0).trans rfl
    have hb1 := hbd xs xs hS' (List.prefix_refl _)
    have Hf : Hid (_) := Tryz.strconv_FormatInt_10 (sumOf xs) (by omega) (by omega) W (hG.mono h2.2.2.1).tab
    have HB : Hid (Below w.heap.size w W) := h2.2.2.1
    clear h2 hIW
    gi_wp2_with fail
    refine ⟨trivial, (callsIn_wide.2 Hf.out).mono ?_⟩
    rintro e w5 ⟨rfl, hgr⟩
    have hb5 := below_gr hgr
    have hK5 : w5.heap[D]? = some (.deferred (some [])) := (hb5.block D (Array.getElem?_eq_some_iff.1 hK).1).trans hK
    clear hgr Hf c0
    gi_wp2_with fail
    refine ⟨by simp, .inl ⟨_, _, rfl, run_takeDeferred hK5, ?_⟩⟩
    refine ⟨_, results_tmp rfl _ _ _, xs, rfl, hS', ?_⟩
    exact (HB.out.trans (hb5.mono HB.out.size)).trans ⟨rfl, rfl, rfl, by simp [World.putObj], fun k hk => World.putObj_heap_other (fun e => by simp at hD; omega)⟩
  case stop =>
    rintro D T c pre W _ _ h
    exact h.elim
end Go.Proofs.YtoiiaankpnhppaaGreatDoor
namespace Go.Proofs.YtoiiaankpnhppaaGreatDoor
open Go.RowKit Go.Maps Go.WideMaps Go.Shelf Go.Sort

attribute [local go_sem] Oper.semAt_some

def stepsOf (p : ByteArray) (xs : List Itm) : List ByteArray := (xs.filter (fun x => (toL p ++ [47]).isPrefixOf (toL x.p))).map (fun x => ⟨(stepSeg (toL p) (toL x.p)).toArray⟩)
theorem stepsOf_snoc (p : ByteArray) (xs : List Itm) (x : Itm) : stepsOf p (xs ++ [x]) = stepsOf p xs ++ (if (toL p ++ [47]).isPrefixOf (toL x.p) = true then [⟨(stepSeg (toL p) (toL x.p)).toArray⟩] else []) := by
  unfold stepsOf
  rw [List.filter_append, List.map_append]
  congr 1
  simp only [List.filter_cons, List.filter_nil]
  split <;> simp
theorem stepsOf_len (p : ByteArray) (xs : List Itm) : (stepsOf p xs).length ≤ xs.length := by
  unfold stepsOf; rw [List.length_map]; exact List.length_filter_le _ _

set_option maxRecDepth 100000 in
set_option maxHeartbeats 4000000 in
theorem steps_any (w : World) (m : Int) (hm : w.cell? ⟨0, 0, none⟩ = some (.int .i64 m)) (p : ByteArray) (hps : p.size ≤ 1048576) (gf : Nat) (lb : Array Value) (S : List Itm → Prop) (E : Nat → Prop) (hit : Iter Tryz.prog gf lb (fun x : Itm => #[Value.agg #[.string x.p, .int .u8 x.a, .string x.v, .int .i64 x.m]]) S E w) (eg : ∀ args w, (callFunc gf args).run Tryz.prog w = .ok (.enter gf args) w) (hE : ∀ k, E k → k < w.heap.size) (hS : ∀ xs, S xs → xs.length ≤ 1000 ∧ ∀ x ∈ xs, x.p.size ≤ 1048576) :
    Calls Tryz.prog 128 #[.string p, .func (.func gf) #[] lb] w fun e w' => ∃ v xs, e = .returned v ∧ S xs ∧ w'.ownsRow w.heap.size 9 1 v (stepsOf p xs).length (svals (stepsOf p xs)) ∧ Below w.heap.size w w' := by
  obtain ⟨i0, hi, hz0, hz1, hz2⟩ := info_parts Tryz.infoStr
  have h0l : 0 < w.heap.size := block_lt_of_cell hm
  have hmB : Hid (∀ wx, Below w.heap.size w wx → wx.cell? ⟨0, 0, none⟩ = some (.int .i64 m)) := fun wx hx => (hx.cell (p := ⟨0, 0, none⟩) h0l).trans hm
  clear hm
  refine (callsIn_wide (n := 3)).1 ?_
  refine callsIn_of_wp_marks Tryz.func128 rfl trivial ?_ rfl
  simp only [Tryz.ntmps128, List.size_toArray, List.length_cons, List.length_nil, Nat.reduceAdd, Nat.reduceSub, Array.replicate_succ, Array.replicate_zero, List.push_toArray, List.append_toArray, List.nil_append, List.cons_append]
  gi_wp2
  have hbw : Below w.heap.size w ((w.alloc (.cells #[.string p] 78)).alloc (.cells #[.slice none 0 0] 128)) := ((Below.refl _ w).alloc (Nat.le_refl _) _).alloc (by simp) _
  have kp : Blk ((w.alloc (.cells #[.string p] 78)).alloc (.cells #[.slice none 0 0] 128)) w.heap.size #[.string p] 78 := (Blk.new w _ _).alloc _
  have kf : Blk ((w.alloc (.cells #[.string p] 78)).alloc (.cells #[.slice none 0 0] 128)) (w.heap.size + 1) #[.slice none 0 0] 128 := by
    have := Blk.new (w.alloc (.cells #[.string p] 78)) #[.slice none 0 0] 128
    rwa [World.size_alloc] at this
  generalize ((w.alloc (.cells #[.string p] 78)).alloc (.cells #[.slice none 0 0] 128)) = w3 at *
  have hs3 : w.heap.size + 1 < w3.heap.size := kf.lt
  refine range_iter (gf := gf) (lb := lb) rfl eg hit ⟨hbw.size, fun k hk => hbw.block k (hE k hk)⟩ (fun k hk => Nat.lt_of_lt_of_le (hE k hk) hbw.size) (fun _ => rfl)
    (fun T pre W => Coll w (w.heap.size + 1) 128 9 1 (svals (stepsOf p pre)) (stepsOf p pre).length T W ∧ Blk W w.heap.size #[.string p] 78 ∧ ¬ T w.heap.size) (fun _ _ _ _ => False)
    (fun T T' pre W W' h hc hT => ⟨h.1.stab hc hT, h.2.1.chg hc h.2.2, fun hk => by rcases (hT _ hk).1 with h1 | h1; exact h.2.2 h1; have := h.2.1.lt; omega⟩) (fun _ _ _ _ _ _ h _ _ => h)
    ⟨⟨_, kf, World.ownsRow_nil _ _ _ _, fun h => h, fun _ _ h => h, hbw, fun _ h => h.elim, by omega⟩, kp, fun h => h⟩ ?round ?done ?stop
  case round =>
    rintro l T pre x W hTl hT ⟨⟨v, hC⟩, hkp, hTw⟩ hEW ⟨ys, hys, hpre⟩
    have hxs : x.p.size ≤ 1048576 := (hS ys hys).2 x (hpre.subset (by simp))
    have hln : (stepsOf p pre).length + 1 ≤ 1001 := by have := (hS ys hys).1; have := hpre.length_le; have := stepsOf_len p pre; simp at *; omega
    have Hsn : Hid (stepsOf p (pre ++ [x]) = stepsOf p pre ++ (if (toL p ++ [47]).isPrefixOf (toL x.p) = true then [⟨(stepSeg (toL p) (toL x.p)).toArray⟩] else [])) := stepsOf_snoc p pre x
    obtain ⟨xn, xp, xa, xv, xm⟩ := x
    simp only at hxs Hsn
    gi_wp2
    refine ⟨⟨by simp, fun k hk => ?_⟩, ?_⟩
    · exact ((Below.refl _ W).alloc (Nat.le_refl _) _).block k (hk.elim (fun h => Nat.lt_of_lt_of_le (hE k h) hC.below.size) (fun h => (hT k h).2))
    intro W2 hc2 hs2 hE2
    have hTs : ∀ k, T k → k < W2.heap.size := fun k hk => by rw [hs2]; have := (hT k hk).2; simp; omega
    have hch : Chg T W W2 := (Chg.of_below ((Below.refl W.heap.size W).alloc (Nat.le_refl _) _)).trans hc2
    have hC2 := hC.stab hch (fun k hk => ⟨Or.inl hk, hTs k hk⟩)
    have hkp2 := hkp.chg hch hTw
    have ke : Blk W2 W.heap.size #[.string xp, .int .u8 xa, .string xv, .int .i64 xm] 81 := (Blk.new W _ _).chg hc2 (fun hk => by have := (hT _ hk).2; omega)
    have p0 := (hkp2.cell 0).trans rfl
    have b0 := (ke.cell 0).trans rfl
    have HC2 : Hid (CollV w (w.heap.size + 1) 128 9 1 (svals (stepsOf p pre)) (stepsOf p pre).length T W2 v) := hC2
    have HP2 : Hid (Blk W2 w.heap.size #[.string p] 78) := hkp2
    have Hst : Hid (_) := Step_any p xp m W2 hps hxs (hmB.out _ hC2.below)
    clear hC hC2 hkp hkp2 ke hch hc2 hs2 hE2 hEW
    gi_wp2_with fail
    refine ⟨trivial, CallsIn.inRound l ((callsIn_wide.2 Hst.out).mono ?_)⟩
    rintro e w4 ⟨t, rfl, ht, _, hb4⟩
    have hT4 : ∀ k, T k → k < w4.heap.size := fun k hk => Nat.lt_of_lt_of_le (hTs k hk) hb4.size
    have HC4 : Hid (CollV w (w.heap.size + 1) 128 9 1 (svals (stepsOf p pre)) (stepsOf p pre).length T w4 v) := HC2.out.stab (Chg.of_below hb4) (fun k hk => ⟨Or.inl hk, hT4 k hk⟩)
    have HP4 : Hid (Blk w4 w.heap.size #[.string p] 78) := HP2.out.below hb4
    have Hkp4 : Hid (KeepT (fun k => E k ∨ T k) W2 w4) := ⟨hb4.size, fun k hk => hb4.block k (hk.elim (fun h => Nat.lt_of_lt_of_le (hE k h) HC2.out.below.size) (hTs k))⟩
    have c0 := HC4.out.bx.cell
    have hbs : w.heap.size ≤ w4.heap.size := HC4.out.below.size
    clear hb4 Hst p0 b0 HC2 HP2
    cases hpp : (toL p ++ [47]).isPrefixOf (toL xp) with
    | false =>
      rw [hpp] at Hsn
      gi_wp2_with fail
      refine ⟨⟨?_, HP4.out, hTw⟩, Hkp4.out⟩
      have h1 := Hsn.out
      simp only [Bool.false_eq_true, if_false, List.append_nil] at h1
      rw [h1]
      exact ⟨v, HC4.out⟩
    | true =>
      rw [hpp] at Hsn ht
      have ht2 : t = ⟨(stepSeg (toL p) (toL xp)).toArray⟩ := by rw [← ht rfl, mk_toL]
      have hml : Hid ((stepsOf p pre).length + 1 ≤ maxLen) := by unfold Hid maxLen; omega
      have hmb : Hid (((stepsOf p pre).length + 1) * 16 ≤ 140737488355328) := by unfold Hid; omega
      have Hcn : Hid (∀ j u, ([.string t] : List Value)[j]? = some u → (w4.alloc (.cells #[.string t] 9)).cell? ((⟨w4.heap.size, 0, none⟩ : Addr).add j) = some u) := cell_one_new w4 _ _
      have Ht2 : Hid (t = ⟨(stepSeg (toL p) (toL xp)).toArray⟩) := ht2
      clear ht ht2
      gi_wp2_with (first | (gi_at_builtin; refine wpListIn_append_own_at _ rfl (.tmp 19) (.tmp 21) 128 rfl w.heap.size 9 i0 (.string ⟨#[]⟩) 1 16 Tryz.underlying128 hi hz0 hz1 hz2 rfl (by decide) v _ _ rfl (HC4.out.row.alloc _) ⟨w4.heap.size, 0, none⟩ 1 1 [.string t] rfl rfl Hcn.out (by simp [Value.oneCell']) hml.out hmb.out (by simp; omega) ?_; intro v' w5 hown' hg' _ hloc; have happ := HC4.out.app (E := E) (by decide) hown' hg' hloc hT4 hE; obtain ⟨g', cap', rfl⟩ := ownsRow_succ hown'; have hc1 := happ.1.cell; have hf1 := happ.1.frozen; have hk5 : Blk w5 w.heap.size #[.string p] 78 := (hg'.block w.heap.size (by simp; have := HP4.out.lt; omega) (fun e => ownsRow_ne HC4.out.row (fun cur fz e2 => by rw [show w4.heap[w.heap.size]? = _ from HP4.out] at e2; cases e2) e.symm)).trans (HP4.out.alloc _)))
      refine ⟨⟨?_, ?_, hTw⟩, Hkp4.out.trans happ.2.2⟩
      · have h1 := Hsn.out
        simp only [if_true] at h1
        rw [h1, ← Ht2.out, svals_snoc, List.length_append]
        exact ⟨_, happ.2.1⟩
      · exact hk5.chg (M := fun k => k = w.heap.size + 1) ((Chg.refl (fun k => k = w.heap.size + 1) w5).setCell (p := ⟨w.heap.size + 1, 0, none⟩) rfl _) (by omega)
  case done =>
    rintro D T xs W hD hTD hS' ⟨⟨v, hC⟩, hkp, hTw⟩ hT hK
    have c0 := hC.bx.cell
    have HC : Hid (CollV w (w.heap.size + 1) 128 9 1 (svals (stepsOf p xs)) (stepsOf p xs).length T W v) := hC
    clear hC hkp
    gi_wp2
    refine ⟨by simp, .inl ⟨_, _, rfl, run_takeDeferred hK, ?_⟩⟩
    refine ⟨_, results_tmp rfl _ _ _, v, xs, rfl, hS', ?_, ?_⟩
    · exact ownsRow_putObj HC.out.row _ hK rfl
    · exact (HC.out.stab (T' := T) (chg_putObj W D (.deferred none) hTD) (fun k hk => ⟨Or.inl hk, by rw [size_putObj]; exact (hT k hk).2⟩)).below
  case stop =>
    rintro D T c pre W _ _ h
    exact h.elim
end Go.Proofs.YtoiiaankpnhppaaGreatDoor

