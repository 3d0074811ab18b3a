import Derived.Test.YtoiiaankpnhppaaGreatDoorPart10
set_option linter.unusedVariables false
set_option linter.unusedSimpArgs false
namespace Go.Proofs.YtoiiaankpnhppaaGreatDoor
open Go.RowKit Go.Maps Go.WideMaps

structure OM (w : World) (iv dv : Value) (It0 : Nat → Option Value) (ns : List Nat) (ib cb lb B : Nat) (S : Nat → Prop) (It : Nat → Option Value) (wx : World) : Prop where
  st : StoreS wx ib cb lb S It
  new : w.heap.size < ib ∧ w.heap.size < cb ∧ w.heap.size < lb ∧ w.heap.size < B
  apart : B ≠ ib ∧ B ≠ cb ∧ B ≠ lb
  bx : Blk wx B #[.map (some ib), .map (some cb), .map (some lb)] 106
  r0 : ∃ u0 u1 u2, Blk wx w.heap.size #[u0, u1, u2] 106
  ds : SliceD wx dv ns
  src : ∃ N, MapO Tryz.prog 121 wx iv N (im It0)
  old : (∀ b, dv.ownBlock = some b → b < w.heap.size) ∧ ∀ b, iv = .map (some b) → b < w.heap.size
  below : Below w.heap.size w wx
section
variable {w : World} {iv dv : Value} {It0 : Nat → Option Value} {ns : List Nat} {ib cb lb B : Nat} {S S' : Nat → Prop} {It : Nat → Option Value} {wx wy : World}
theorem OM.mono (h : OM w iv dv It0 ns ib cb lb B S It wx) (hb : Below wx.heap.size wx wy) : OM w iv dv It0 ns ib cb lb B S It wy := by
  obtain ⟨u0, u1, u2, hr⟩ := h.r0
  obtain ⟨N, hN⟩ := h.src
  exact ⟨h.st.below hb, h.new, h.apart, h.bx.below hb, ⟨u0, u1, u2, hr.below hb⟩, h.ds.below hb, ⟨N, hN.below hb⟩, h.old, h.below.trans (hb.mono h.below.size)⟩
theorem OM.chgs {M : Nat → Prop} (h : OM w iv dv It0 ns ib cb lb B S It wx) (hM : ∀ k, M k → w.heap.size < k ∧ k ≠ B) (hs : StoreS wy ib cb lb S' It) (hg : Chg M wx wy) : OM w iv dv It0 ns ib cb lb B S' It wy := by
  obtain ⟨u0, u1, u2, hr⟩ := h.r0
  obtain ⟨N, hN⟩ := h.src
  refine ⟨hs, h.new, h.apart, h.bx.chg hg (fun m => (hM _ m).2 rfl), ⟨u0, u1, u2, hr.chg hg (fun m => by have := hM _ m; omega)⟩, h.ds.chg hg (fun b hb m => by have := hM _ m; have := h.old.1 b hb; omega), ⟨N, hN.chg hg (fun b hb m => by have := hM _ m; have := h.old.2 b hb; omega)⟩, h.old, ?_⟩
  exact h.below.trans ⟨hg.os, hg.tape, hg.output, hg.size, fun k hk => hg.block k (Nat.lt_of_lt_of_le hk h.below.size) (fun m => by have := hM _ m; omega)⟩
theorem OM.turn {r : Nat} (h : OM w iv dv It0 ns ib cb lb B S It wx) (hg : wx.grownBy wy (some r)) (hr : w.heap.size < r ∧ r ≠ ib ∧ r ≠ cb ∧ r ≠ lb ∧ r ≠ B) : OM w iv dv It0 ns ib cb lb B S It wy := by
  have hc : Chg (fun k => k = r) wx wy := (Chg.refl _ wx).grown hg (fun k e => by cases e; exact Or.inl rfl)
  exact h.chgs (fun k m => by subst m; exact ⟨hr.1, hr.2.2.2.2⟩) (h.st.chg hc (fun e => hr.2.1 e.symm) (fun e => hr.2.2.1 e.symm) (fun e => hr.2.2.2.1 e.symm)) hc
theorem OM.iff (h : OM w iv dv It0 ns ib cb lb B S It wx) (hS : ∀ n, 1 ≤ nth n → (S' n ↔ S n)) : OM w iv dv It0 ns ib cb lb B S' It wx :=
  ⟨⟨h.st.ctx.iff hS, h.st.its, h.st.ne, fun n hn => by have := h.st.ok n hn; exact ⟨this.1, (hS n this.1.2.1).2 this.2⟩⟩, h.new, h.apart, h.bx, h.r0, h.ds, h.src, h.old, h.below⟩
theorem OM.add {n : Nat} (h : OM w iv dv It0 ns ib cb lb B S It wx) (hc : CtxS wy cb lb (fun k => S k ∨ k = n)) (hg : Chg (fun k => k = cb ∨ k = lb) wx wy) : OM w iv dv It0 ns ib cb lb B (fun k => S k ∨ k = n) It wy := by
  have hn := h.new
  have ha := h.apart
  have hi := h.st.ne
  exact h.chgs (M := fun k => k = cb ∨ k = lb) (fun k m => by omega) ⟨hc, h.st.its.imp fun N g => g.block (hg.block _ g.lt (by omega)), hi, fun k hk => by have := h.st.ok k hk; exact ⟨this.1, Or.inl this.2⟩⟩ hg
end
open Classical in
noncomputable def metI (It : Nat → Option Value) (left : Value → Prop) : Nat → Option Value := fun k => if left (dotE k) then none else It k
theorem metI_start (It : Nat → Option Value) : metI It (fun key => (im It key).isSome = true) = fun _ => none := by
  funext k
  unfold metI
  by_cases h : (im It (dotE k)).isSome = true
  · exact if_pos h
  · refine (if_neg h).trans ?_
    rw [im_dot] at h
    cases hk : It k with
    | none => rfl
    | some v => rw [hk] at h; exact absurd rfl h
theorem metI_none {It : Nat → Option Value} {left : Value → Prop} (h : ∀ key, ¬ left key) : metI It left = It := by
  funext k; unfold metI; rw [if_neg (h _)]
theorem metI_step {It : Nat → Option Value} {left : Value → Prop} {n : Nat} {v : Value} (hI : It n = some v) : metI It (fun y => left y ∧ ¬ y = dotE n) = fun k => if k = n then some v else metI It left k := by
  funext k
  unfold metI
  by_cases e : k = n
  · subst e; rw [if_neg (fun h => h.2 rfl), if_pos rfl, hI]
  · have : ¬ (dotE k = dotE n) := fun h => e (dotE_inj h)
    rw [if_neg e]
    by_cases hl : left (dotE k)
    · rw [if_pos ⟨hl, this⟩, if_pos hl]
    · rw [if_neg (fun h => hl h.1), if_neg hl]

set_option maxHeartbeats 8000000 in
set_option maxRecDepth 100000 in
theorem Of_any (w : World) (io : Option Nat) (dv : Value) (It0 : Nat → Option Value) (ns : List Nat) (N0 : Nat) (hI : MapO Tryz.prog 121 w (.map io) N0 (im It0)) (hIv : ∀ n v, It0 n = some v → ItemV v) (hIo : ∀ n, It0 n ≠ none → okD n)
    (hd : SliceD w dv ns) (hl : ns.length ≤ 1000000) (hns : ∀ n ∈ ns, okD n) :
    Calls Tryz.prog 120 #[.map io, dv] w fun e w' => ∃ ib cb lb, e = .returned (.agg #[.map (some ib), .map (some cb), .map (some lb)]) ∧ StoreS w' ib cb lb (fun n => It0 n ≠ none ∨ n ∈ ns) It0 ∧ (w.heap.size ≤ ib ∧ w.heap.size ≤ cb ∧ w.heap.size ≤ lb) ∧ Below w.heap.size w w' := by
  have hmm := @run_makeMap Tryz.prog
  have HD : Hid (SliceD w dv ns) := hd
  have HI : Hid (MapO Tryz.prog 121 w (.map io) N0 (im It0)) := hI
  have Hdb : Hid (∀ b, dv.ownBlock = some b → b < w.heap.size) := by
    rcases hd with ⟨rfl, _⟩ | ⟨b, off, cap, rfl, _, h3, _⟩
    · intro b hb; cases hb
    · intro b' hb; cases hb; exact h3
  have hshape : ∃ ao cap, dv = .slice ao ns.length cap ∧ ns.length ≤ cap := by
    rcases hd with ⟨rfl, rfl⟩ | ⟨b, off, cap, rfl, h2, _⟩
    · exact ⟨none, 0, rfl, Nat.le_refl _⟩
    · exact ⟨_, cap, rfl, h2⟩
  obtain ⟨ao, cap, hdv, hcap⟩ := hshape
  have Hns : Hid (∀ n ∈ ns, okD n) := hns
  have Hvv : Hid (∀ n v, It0 n = some v → ItemV v) := hIv
  have Hok : Hid (∀ n, It0 n ≠ none → okD n) := hIo
  clear hd hns hI hIv hIo
  subst hdv
  go_enter Tryz.func120, Tryz.ntmps120
  go_wp2_with fail
  refine Calls.mono (newContext_any _) ?_
  rintro e w1 ⟨cb, lb, rfl, hc1, hcb, hlb, hb1⟩
  have HG0 : Hid (∀ ob, ob = .cells #[.map (some (w.heap.size + 1)), .map (some cb), .map (some lb)] 106 → OM w (.map io) (.slice ao ns.length cap) It0 ns (w.heap.size + 1) cb lb w1.heap.size (fun _ => False) (fun _ => none) (w1.alloc ob)) := fun ob hob => by
    subst hob
    have e1 : (w.alloc (.cells #[.map none, .map none, .map none] 106)).heap.size = w.heap.size + 1 := by simp
    have e2 : ((w.alloc (.cells #[.map none, .map none, .map none] 106)).alloc (.map #[] 0)).heap.size = w.heap.size + 2 := by simp
    have m1 := MapV.made (w.alloc (.cells #[.map none, .map none, .map none] 106)) Tryz.prog 121
    rw [e1] at m1
    rw [e2] at hcb hlb hb1
    have hs := hb1.size
    have m1' : MapV Tryz.prog 121 w1 (w.heap.size + 1) 0 (fun _ => none) := m1.block (hb1.block _ (by omega))
    have hr : Blk w1 w.heap.size #[.map none, .map none, .map none] 106 := (hb1.block _ (by omega)).trans ((Blk.new w _ _).alloc _)
    have hbw : Below w.heap.size w w1 := (((Below.refl _ w).alloc (Nat.le_refl _) _).alloc (by simp) _).trans (hb1.mono (by omega))
    have hz := (Below.refl _ w1).alloc (Nat.le_refl _) (.cells #[.map (some (w.heap.size + 1)), .map (some cb), .map (some lb)] 106)
    have hx := hc1.below hz
    have hlt := hc1.lt
    refine ⟨⟨hx, ⟨0, by rw [im_none]; exact m1'.block (hz.block _ m1'.lt)⟩, by omega, fun n hn => absurd rfl hn⟩, by omega, by omega, Blk.new w1 _ _, ⟨_, _, _, hr.below hz⟩, HD.out.below (hbw.trans (hz.mono hbw.size)), ⟨N0, HI.out.below (hbw.trans (hz.mono hbw.size))⟩, ⟨Hdb.out, HI.out.lt⟩, hbw.trans (hz.mono hbw.size)⟩
  clear HD HI hc1 hcb hlb hb1 hmm
  have hG := HG0.out _ rfl
  have HG : Hid (OM w (.map io) (.slice ao ns.length cap) It0 ns (w.heap.size + 1) cb lb w1.heap.size (fun _ => False) (fun _ => none) _) := hG
  obtain ⟨Ni, hNi⟩ := hG.src
  have hszs : w1.heap.size < (w1.alloc (.cells #[.map (some (w.heap.size + 1)), .map (some cb), .map (some lb)] 106)).heap.size := by simp
  have hgn := hG.new
  have hglt := hG.st.lt
  clear HG0 hG
  simp only [World.size_alloc] at hglt
  go_wp2_with (first | (at_range; refine wpList_rangeO rfl (.tmp 13) 100 rfl 81 kDot Tryz.underlying100 rfl hNi ?_; intro w3 hr3 hg3 hs3; have hJ3 : OM w (.map io) (.slice ao ns.length cap) It0 ns (w.heap.size + 1) cb lb w1.heap.size (fun _ => False) (fun _ => none) w3 := (HG.out.mono ((Below.refl _ _).grown hg3 (Nat.le_refl _) (fun k e => by cases e))); rw [World.size_alloc] at hr3 ⊢; clear HG hNi hg3 hs3; go_frame))
  go_loopg [6] Ni (fun g v6 wx => ∃ (left : Value → Prop) (q : Nat), g = q ∧ RangeO Tryz.prog 121 wx (.map io) (w1.heap.size + 1) Ni (im It0) left q ∧ OM w (.map io) (.slice ao ns.length cap) It0 ns (w.heap.size + 1) cb lb w1.heap.size (fun k => metI It0 left k ≠ none) (metI It0 left) wx)
  case atStart =>
    refine ⟨_, _, rfl, hr3, ?_⟩
    rw [metI_start]
    exact hJ3.iff (fun n _ => by simp)
  case round =>
    obtain ⟨left, q, hq, hR, hJ⟩ := hrel
    have HR : Hid (RangeO Tryz.prog 121 wr (.map io) (w1.heap.size + 1) Ni (im It0) left q) := hR
    have HJ : Hid (OM w (.map io) (.slice ao ns.length cap) It0 ns (w.heap.size + 1) cb lb w1.heap.size (fun k => metI It0 left k ≠ none) (metI It0 left) wr) := hJ
    have Hsh : Hid (∀ key v, left key → im It0 key = some v → ∃ x : Nat × ByteArray × Int × ByteArray × Int, key = (fun x : Nat × ByteArray × Int × ByteArray × Int => dotE x.1) x ∧ v = (fun x : Nat × ByteArray × Int × ByteArray × Int => Value.agg #[.string x.2.1, .int .u8 x.2.2.1, .string x.2.2.2.1, .int .i64 x.2.2.2.2]) x) := fun key v _ hk => by
      obtain ⟨n, h1, h2⟩ := im_shape hk
      obtain ⟨s0, x1, s2, x3, h3⟩ := Hvv.out n v h2
      exact ⟨(n, s0, x1, s2, x3), h1, h3⟩
    clear hR hJ hr3 hJ3
    go_wp2_with (first | (at_next; (refine wpList_nextO rfl (.tmp 14) rfl kDot (fun x : Nat × ByteArray × Int × ByteArray × Int => dotE x.1) (fun x : Nat × ByteArray × Int × ByteArray × Int => Value.agg #[.string x.2.1, .int .u8 x.2.2.1, .string x.2.2.2.1, .int .i64 x.2.2.2.2]) rfl HR.out Hsh.out ?_ ?_)))
    · intro hl0
      have hK : OM w (.map io) (.slice ao ns.length cap) It0 ns (w.heap.size + 1) cb lb w1.heap.size (fun k => It0 k ≠ none ∨ k ∈ ns.take 0) It0 wr := by
        have := HJ.out
        rw [metI_none hl0] at this
        exact this.iff (fun n _ => by simp)
      have HK : Hid (OM w (.map io) (.slice ao ns.length cap) It0 ns (w.heap.size + 1) cb lb w1.heap.size (fun k => It0 k ≠ none ∨ k ∈ ns.take 0) It0 wr) := hK
      clear HR HJ Hsh hK
      go_wp2_with fail
      go_loopg [30] ns.length (fun g v30 wx => ∃ i : Nat, i + g = ns.length ∧ v30 = .int .i64 (i : Int) ∧ OM w (.map io) (.slice ao ns.length cap) It0 ns (w.heap.size + 1) cb lb w1.heap.size (fun k => It0 k ≠ none ∨ k ∈ ns.take i) It0 wx)
      case atStart => exact ⟨0, by omega, rfl, HK.out⟩
      case round =>
        obtain ⟨i, hig, rfl, hG⟩ := hrel
        have HG : Hid (OM w (.map io) (.slice ao ns.length cap) It0 ns (w.heap.size + 1) cb lb w1.heap.size (fun k => It0 k ≠ none ∨ k ∈ ns.take i) It0 wr) := hG
        clear HK
        by_cases hi : i < ns.length
        · obtain ⟨b, off, cap', hv, hcap', hb, hcells⟩ := hG.ds.resolve_left (fun h => by rw [h.2] at hi; simp at hi)
          simp only [Value.slice.injEq] at hv
          obtain ⟨rfl, _, rfl⟩ := hv
          have k0 := (hcells i hi).1
          have k1 := (hcells i hi).2
          have hni := Hns.out _ (List.getElem_mem hi)
          have hall : ns.take (i + 1) = ns.take i ++ [ns[i]] := List.take_succ_eq_append_getElem hi
          have b1A : ∀ o, (wr.alloc o).cell? ⟨w1.heap.size, 1, none⟩ = some (.map (some cb)) := fun o => ((HG.out.bx.alloc o).cell 1).trans rfl
          have b2A : ∀ o, (wr.alloc o).cell? ⟨w1.heap.size, 2, none⟩ = some (.map (some lb)) := fun o => ((HG.out.bx.alloc o).cell 2).trans rfl
          have Hadd : Hid (∀ wx, Below wr.heap.size wr wx → Calls Tryz.prog 164 #[.agg #[.map (some cb), .map (some lb)], dotE ns[i]] wx fun e w' => e = .returned (.tuple #[]) ∧ OM w (.map io) (.slice (some ⟨b, off, none⟩) ns.length cap) It0 ns (w.heap.size + 1) cb lb w1.heap.size (fun k => It0 k ≠ none ∨ k ∈ ns.take (i + 1)) It0 w') := fun wx hb => by
            have hG' := HG.out.mono hb
            refine Calls.mono (add_any wx cb lb ns[i] _ hG'.st.ctx hni) ?_
            rintro e w' ⟨rfl, h1, h2⟩
            exact ⟨rfl, (hG'.add h1 h2).iff (fun n _ => by rw [hall, List.mem_append, List.mem_singleton, or_assoc])⟩
          generalize ns[i] = n at *
          clear hG hcells
          go_wp2_with fail
          refine Calls.mono (Hadd.out _ ?_) ?_
          · go_grown
          rintro e w7 ⟨rfl, hG7⟩
          have HG7 : Hid (OM w (.map io) (.slice (some ⟨b, off, none⟩) ns.length cap) It0 ns (w.heap.size + 1) cb lb w1.heap.size (fun k => It0 k ≠ none ∨ k ∈ ns.take (i + 1)) It0 w7) := hG7
          clear hG7 Hadd b1A b2A k0 k1
          go_wp2_with fail
          go_roundg (ns.length - (i + 1))
          case measure => omega
          case rel => exact ⟨i + 1, by omega, by go_num, HG7.out⟩
        · have b0 := (hG.bx.cell 0).trans rfl
          have b1 := (hG.bx.cell 1).trans rfl
          have b2 := (hG.bx.cell 2).trans rfl
          obtain ⟨u0, u1, u2, hr⟩ := hG.r0
          have r0 := (hr.cell 0).trans rfl
          have r1 := (hr.cell 1).trans rfl
          have r2 := (hr.cell 2).trans rfl
          have f0 := hr.frozen
          have hw := hG.below.size
          have hn := hG.new
          have HF : Hid (∀ wx, Chg (fun k => k = w.heap.size) wr wx → StoreS wx (w.heap.size + 1) cb lb (fun n => It0 n ≠ none ∨ n ∈ ns) It0) := fun wx hc => by
            have h := HG.out.st.chg hc (by omega) (by omega) (by omega)
            rw [List.take_of_length_le (by omega)] at h
            exact h
          have HB : Hid (Below w.heap.size w wr) := HG.out.below
          clear hG hr
          go_wp2_with fail
          refine bodyPost_ret (v := .agg #[.map (some (w.heap.size + 1)), .map (some cb), .map (some lb)]) (by simp [results, Tryz.results120, go_sem, r0, r1, r2, cs_same, cs_oth, World.cell?_setCell_other]) rfl ⟨_, _, _, rfl, HF.out _ ?_, by omega, ?_⟩
          · exact (((Chg.refl (fun k => k = w.heap.size) wr).setCell (p := ⟨w.heap.size, 0, none⟩) rfl _).setCell (p := ⟨w.heap.size, 1, none⟩) rfl _).setCell (p := ⟨w.heap.size, 2, none⟩) rfl _
          · exact ((HB.out.setCell (p := ⟨w.heap.size, 0, none⟩) (Nat.le_refl _) _).setCell (p := ⟨w.heap.size, 1, none⟩) (Nat.le_refl _) _).setCell (p := ⟨w.heap.size, 2, none⟩) (Nat.le_refl _) _
    · intro n s0 x1 s2 x3 w4 q4 hlk hmk hR4 hlt4 hg4 hs4 hen4
      have hIn : It0 n = some (.agg #[.string s0, .int .u8 x1, .string s2, .int .i64 x3]) := by rw [← im_dot It0 n]; exact hmk
      have hok := Hok.out n (by rw [hIn]; simp)
      obtain ⟨kl, hkl⟩ := keyE n (by have := hok.1; omega)
      have hrl : w1.heap.size + 1 < w4.heap.size := by have := HR.out.lt; omega
      have HJ4 : Hid (OM w (.map io) (.slice ao ns.length cap) It0 ns (w.heap.size + 1) cb lb w1.heap.size (fun k => metI It0 left k ≠ none) (metI It0 left) w4) := HJ.out.turn hg4 (by omega)
      have HR4 : Hid (RangeO Tryz.prog 121 w4 (.map io) (w1.heap.size + 1) Ni (im It0) (fun y => left y ∧ ¬ y = dotE n) q4) := hR4
      have HM : Hid (metI It0 (fun y => left y ∧ ¬ y = dotE n) = fun k => if k = n then some (.agg #[.string s0, .int .u8 x1, .string s2, .int .i64 x3]) else metI It0 left k) := metI_step hIn
      have hbz : Below w4.heap.size w4 ((w4.alloc (.cells #[.int .i64 (who n : Int), .int .i64 (nth n : Int)] 121)).alloc (.cells #[.string s0, .int .u8 x1, .string s2, .int .i64 x3] 81)) := by go_grown
      have HJz : Hid (∀ ob ob', OM w (.map io) (.slice ao ns.length cap) It0 ns (w.heap.size + 1) cb lb w1.heap.size (fun k => metI It0 left k ≠ none) (metI It0 left) ((w4.alloc ob).alloc ob')) := fun ob ob' => HJ4.out.mono (((Below.refl _ w4).alloc (Nat.le_refl _) ob).alloc (by simp) ob')
      have HRz : Hid (∀ ob ob', RangeO Tryz.prog 121 ((w4.alloc ob).alloc ob') (.map io) (w1.heap.size + 1) Ni (im It0) (fun y => left y ∧ ¬ y = dotE n) q4) := fun ob ob' => HR4.out.chg (M := fun _ => False) (Chg.of_below (((Below.refl _ w4).alloc (Nat.le_refl _) ob).alloc (by simp) ob')) (fun _ _ h => h) (fun h => h)
      have kdz : Hid (∀ ob', Blk ((w4.alloc (.cells #[.int .i64 (who n : Int), .int .i64 (nth n : Int)] 121)).alloc ob') w4.heap.size #[.int .i64 (who n : Int), .int .i64 (nth n : Int)] 121) := fun ob' => (Blk.new w4 _ _).alloc _
      have b0A : ∀ o o', ((w4.alloc o).alloc o').cell? ⟨w1.heap.size, 0, none⟩ = some (.map (some (w.heap.size + 1))) := fun o o' => (((HJ4.out.bx.alloc o).alloc o').cell 0).trans rfl
      obtain ⟨Nj, hNj⟩ := HJ4.out.st.its
      have hNb : Nj ≤ 3072 := items_bound hNj (fun k hk => (HJ4.out.st.ok k hk).1)
      have hmx : Nj < maxLen := by unfold maxLen; omega
      have HNj : Hid (∀ o o', MapV Tryz.prog 121 ((w4.alloc o).alloc o') (w.heap.size + 1) Nj (im (metI It0 left))) := fun o o' => hNj.block ((((Below.refl _ w4).alloc (Nat.le_refl _) o).alloc (by simp) o').block _ hNj.lt)
      clear hR4 hg4 HR HJ Hsh hNj hbz
      have hne4 := HJ4.out.st.ne
      have hap4 := HJ4.out.apart
      have hn4 := HJ4.out.new
      have hio4 := HJ4.out.old.2
      have HP : Hid (∀ o o' w6 N6, ((w4.alloc o).alloc o').grownBy w6 (some (w.heap.size + 1)) → MapV Tryz.prog 121 w6 (w.heap.size + 1) N6 (upd (im (metI It0 left)) (dotE n) (.agg #[.string s0, .int .u8 x1, .string s2, .int .i64 x3])) → ∀ w7, CtxS w7 cb lb (fun k => metI It0 left k ≠ none ∨ k = n) → Chg (fun k => k = cb ∨ k = lb) w6 w7 →
          OM w (.map io) (.slice ao ns.length cap) It0 ns (w.heap.size + 1) cb lb w1.heap.size (fun k => metI It0 (fun y => left y ∧ ¬ y = dotE n) k ≠ none) (metI It0 (fun y => left y ∧ ¬ y = dotE n)) w7 ∧ RangeO Tryz.prog 121 w7 (.map io) (w1.heap.size + 1) Ni (im It0) (fun y => left y ∧ ¬ y = dotE n) q4) := fun o o' w6 N6 hg6 hm6 w7 hc7 hch7 => by
        have hJz := HJz.out o o'
        have hcg : Chg (fun k => k = w.heap.size + 1) ((w4.alloc o).alloc o') w6 := (Chg.refl _ _).grown hg6 (fun k e => by cases e; exact Or.inl rfl)
        have hct : Chg (fun k => k = w.heap.size + 1 ∨ k = cb ∨ k = lb) ((w4.alloc o).alloc o') w7 := Chg.trans (b := w6) ⟨hcg.os, hcg.tape, hcg.output, hcg.size, fun k hk hm => hcg.block k hk (fun e => hm (Or.inl e))⟩ ⟨hch7.os, hch7.tape, hch7.output, hch7.size, fun k hk hm => hch7.block k hk (fun e => hm (Or.inr e))⟩
        constructor
        · obtain ⟨u0, u1, u2, hr⟩ := hJz.r0
          obtain ⟨N, hN⟩ := hJz.src
          have hM : ∀ k, (k = w.heap.size + 1 ∨ k = cb ∨ k = lb) → w.heap.size < k ∧ k ≠ w1.heap.size := fun k m => by omega
          refine ⟨⟨hc7.iff (fun k _ => ?_), ⟨N6, ?_⟩, hJz.st.ne, fun k hk => ?_⟩, hJz.new, hJz.apart, hJz.bx.chg hct (fun m => (hM _ m).2 rfl), ⟨u0, u1, u2, hr.chg hct (fun m => by have := hM _ m; omega)⟩, hJz.ds.chg hct (fun b hb m => by have := hM _ m; have := hJz.old.1 b hb; omega), ⟨N, hN.chg hct (fun b hb m => by have := hM _ m; have := hJz.old.2 b hb; omega)⟩, hJz.old, ?_⟩
          · rw [HM.out]
            by_cases e : k = n
            · subst e; simp
            · simp [e]
          · rw [HM.out, ← im_upd]
            exact hm6.block (hch7.block _ hm6.lt (by omega))
          · rw [HM.out] at hk
            by_cases e : k = n
            · subst e; exact ⟨hok, by rw [HM.out]; simp⟩
            · have hk2 : metI It0 left k ≠ none := by simpa [e] using hk
              exact ⟨(hJz.st.ok k hk2).1, by rw [HM.out]; simpa [e] using hk2⟩
          · exact hJz.below.trans ⟨hct.os, hct.tape, hct.output, hct.size, fun k hk => hct.block k (Nat.lt_of_lt_of_le hk hJz.below.size) (fun m => by have := hM _ m; omega)⟩
        · exact (HRz.out o o').chg hct (fun b hb m => by have := hio4 b hb; omega) (by omega)
      have HC : Hid (∀ o o' w6, ((w4.alloc o).alloc o').grownBy w6 (some (w.heap.size + 1)) → CtxS w6 cb lb (fun k => metI It0 left k ≠ none) ∧ Blk w6 w1.heap.size #[.map (some (w.heap.size + 1)), .map (some cb), .map (some lb)] 106) := fun o o' w6 hg6 => by
        have hJz := HJz.out o o'
        have hcg : Chg (fun k => k = w.heap.size + 1) ((w4.alloc o).alloc o') w6 := (Chg.refl _ _).grown hg6 (fun k e => by cases e; exact Or.inl rfl)
        exact ⟨hJz.st.ctx.chg hcg (by omega) (by omega), hJz.bx.grown hg6 (by omega)⟩
      have HKD : Hid (∀ o' w6, ((w4.alloc (.cells #[.int .i64 (who n : Int), .int .i64 (nth n : Int)] 121)).alloc o').grownBy w6 (some (w.heap.size + 1)) → Blk w6 wr.heap.size #[.int .i64 (who n : Int), .int .i64 (nth n : Int)] 121) := fun o' w6 hg6 => by
        rw [← hs4]
        exact (kdz.out o').grown hg6 (by omega)
      clear HJz HRz kdz HJ4 HR4
      go_wp2_with (first | (at_mapUpdate; (refine wpList_store rfl (.tmp 21) (.tmp 22) (.tmp 23) 100 rfl 81 kDot Tryz.underlying100 rfl (HNj.out _ _) hmx (dotE n) (.agg #[.string s0, .int .u8 x1, .string s2, .int .i64 x3]) _ rfl rfl hkl ?_; intro w6 hm6 hg6 hs6; have hP := HP.out _ _ _ _ hg6 hm6; have hC6 := HC.out _ _ _ hg6; have kd6 := HKD.out _ _ hg6; have b1 := (hC6.2.cell 1).trans rfl; have b2 := (hC6.2.cell 2).trans rfl; have d0 := (kd6.cell 0).trans rfl; have d1 := (kd6.cell 1).trans rfl; have HP6 : Hid (_) := hP; clear hP)))
      refine Calls.mono (add_any w6 cb lb n _ hC6.1 hok) ?_
      rintro e w7 ⟨rfl, hc7, hch7⟩
      have HQ : Hid (_) := HP6.out w7 hc7 hch7
      clear hC6 kd6 b1 b2 d0 d1 HP6 hc7 hch7
      go_wp2_with fail
      go_roundg q4
      case measure => omega
      case rel => exact ⟨_, q4, rfl, HQ.out.2, HQ.out.1⟩

theorem wpList_ins {P : Program} {k : TypeId} {w : World} {b N : Nat} {m : Value → Option Value} {ops : Array Oper} {rest : List Oper} {o : Oper} {a : Act} {Q : Exit → Act → World → Prop} (hg : o.guard = none) (mo x v : Operand) (t : TypeId) (hop : o.op = Op.insert t mo x v) (e : TypeId) (K : Keyed P k) (ht : P.underlying t = some (.map k e))
    (hm : a.eval mo = .map (some b)) (h : MapV P k w b N m) (hn : N < maxLen) (key val : Value) (kl : Lit) (hx : a.eval x = key) (hv : a.eval v = val) (hk : keyOf P k key = some kl)
    (hK : ∀ w', MapV P k w' b (if (m key).isSome then N else N + 1) (upd m key val) → w.grownBy w' (some b) → w'.heap.size = w.heap.size → wpList P ops Q rest (a.put o.dst undef) w') : wpList P ops Q (o :: rest) a w := by
  refine wpList_plain hg fun K' hK' => ?_
  obtain ⟨w', hrun, r1, r2, r3⟩ := h.store K ht hn val hk
  unfold Oper.wp
  simp [execOp, hop, hm, hx, hv, hrun, Result.andThen]
  exact hK' _ _ (hK w' r1 r2 r3)

set_option maxHeartbeats 4000000 in
set_option maxRecDepth 100000 in
theorem Gone_any (w : World) (dv : Value) (ns : List Nat) (hd : SliceD w dv ns) (hl : ns.length ≤ 1000000) (hns : ∀ n ∈ ns, okD n) :
    Calls Tryz.prog 70 #[dv] w fun e w' => ∃ ib cb lb, e = .returned (.agg #[.map (some ib), .map (some cb), .map (some lb)]) ∧ StoreS w' ib cb lb (fun n => n ∈ ns) (fun _ => none) ∧ (w.heap.size ≤ ib ∧ w.heap.size ≤ cb ∧ w.heap.size ≤ lb) ∧ Below w.heap.size w w' := by
  have hshape : ∃ ao cap, dv = .slice ao ns.length cap := by
    rcases hd with ⟨rfl, rfl⟩ | ⟨b, off, cap, rfl, h2, _⟩
    · exact ⟨none, 0, rfl⟩
    · exact ⟨_, cap, rfl⟩
  obtain ⟨ao, cap, hdv⟩ := hshape
  subst hdv
  have Hof : Hid (∀ ob, Calls Tryz.prog 120 #[.map none, .slice ao ns.length cap] (w.alloc ob) fun e w' => ∃ ib cb lb, e = .returned (.agg #[.map (some ib), .map (some cb), .map (some lb)]) ∧ StoreS w' ib cb lb (fun n => n ∈ ns) (fun _ => none) ∧ (w.heap.size < ib ∧ w.heap.size < cb ∧ w.heap.size < lb) ∧ Below (w.heap.size + 1) (w.alloc ob) w') := fun ob => by
    have hb : Below w.heap.size w (w.alloc ob) := (Below.refl _ w).alloc (Nat.le_refl _) _
    refine Calls.mono (Of_any (w.alloc ob) none (.slice ao ns.length cap) (fun _ => none) ns 0 (Or.inl ⟨rfl, rfl, im_none⟩) (fun n v h => by cases h) (fun n h => absurd rfl h) (hd.below hb) hl hns) ?_
    rintro e w' ⟨ib, cb, lb, rfl, h1, h2, h3⟩
    simp only [World.size_alloc] at h2 h3
    refine ⟨ib, cb, lb, rfl, ⟨h1.ctx.iff (fun n _ => by simp), h1.its, h1.ne, fun n hn => absurd rfl hn⟩, by omega, h3⟩
  clear hd hns
  go_enter Tryz.func70, Tryz.ntmps70
  go_wp2_with fail
  refine Calls.mono (Hof.out _) ?_
  rintro e w1 ⟨ib, cb, lb, rfl, hst, hn, hb⟩
  have kr : Blk w1 w.heap.size #[.map none, .map none, .map none] 106 := (hb.block _ (by omega)).trans (Blk.new w _ _)
  have r0 := (kr.cell 0).trans rfl
  have r1 := (kr.cell 1).trans rfl
  have r2 := (kr.cell 2).trans rfl
  have f0 := kr.frozen
  have HB : Hid (Below w.heap.size w w1) := ((Below.refl _ w).alloc (Nat.le_refl _) _).trans (hb.mono (by omega))
  have HS : Hid (StoreS w1 ib cb lb (fun n => n ∈ ns) (fun _ => none)) := hst
  clear hst hb kr Hof
  go_wp2_with fail
  refine bodyPost_ret (v := .agg #[.map (some ib), .map (some cb), .map (some lb)]) (by simp [results, Tryz.results70, go_sem, r0, r1, r2, cs_same, cs_oth, World.cell?_setCell_other]) rfl ⟨_, _, _, rfl, HS.out.chg (M := fun k => k = w.heap.size) ?_ (by omega) (by omega) (by omega), by omega, ?_⟩
  · exact (((Chg.refl (fun k => k = w.heap.size) w1).setCell (p := ⟨w.heap.size, 0, none⟩) rfl _).setCell (p := ⟨w.heap.size, 1, none⟩) rfl _).setCell (p := ⟨w.heap.size, 2, none⟩) rfl _
  · exact ((HB.out.setCell (p := ⟨w.heap.size, 0, none⟩) (Nat.le_refl _) _).setCell (p := ⟨w.heap.size, 1, none⟩) (Nat.le_refl _) _).setCell (p := ⟨w.heap.size, 2, none⟩) (Nat.le_refl _) _

set_option maxHeartbeats 4000000 in
set_option maxRecDepth 100000 in
theorem One_any (w : World) (n : Nat) (c0 c1 c2 c3 : Value) (hn : okD n) (hsh : ∃ s0 x1 s2 x3, c0 = .string s0 ∧ c1 = .int .u8 x1 ∧ c2 = .string s2 ∧ c3 = .int .i64 x3) :
    Calls Tryz.prog 73 #[dotE n, .agg #[c0, c1, c2, c3]] w fun e w' => ∃ ib cb lb, e = .returned (.agg #[.map (some ib), .map (some cb), .map (some lb)]) ∧ StoreS w' ib cb lb (fun k => k = n) (fun k => if k = n then some (.agg #[c0, c1, c2, c3]) else none) ∧ (w.heap.size ≤ ib ∧ w.heap.size ≤ cb ∧ w.heap.size ≤ lb) ∧ Below w.heap.size w w' := by
  obtain ⟨s0, x1, s2, x3, rfl, rfl, rfl, rfl⟩ := hsh
  obtain ⟨kl, hkl⟩ := keyE n (by have := hn.1; omega)
  have hmm := @run_makeMap Tryz.prog
  have HM : Hid (∀ o1 o2 o3, MapV Tryz.prog 121 ((((w.alloc o1).alloc o2).alloc o3).alloc (.map #[] 0)) (w.heap.size + 1 + 1 + 1) 0 (fun _ => none)) := fun o1 o2 o3 => by
    have := MapV.made (((w.alloc o1).alloc o2).alloc o3) Tryz.prog 121
    simpa using this
  have Hof : Hid (∀ wx N m, MapV Tryz.prog 121 wx (w.heap.size + 1 + 1 + 1) N m → m = upd (fun _ => none) (dotE n) (.agg #[.string s0, .int .u8 x1, .string s2, .int .i64 x3]) → Calls Tryz.prog 120 #[.map (some (w.heap.size + 1 + 1 + 1)), .slice none 0 0] wx fun e w' => ∃ ib cb lb, e = .returned (.agg #[.map (some ib), .map (some cb), .map (some lb)]) ∧ StoreS w' ib cb lb (fun k => k = n) (fun k => if k = n then some (.agg #[.string s0, .int .u8 x1, .string s2, .int .i64 x3]) else none) ∧ (wx.heap.size ≤ ib ∧ wx.heap.size ≤ cb ∧ wx.heap.size ≤ lb) ∧ Below wx.heap.size wx w') := fun wx N m hm he => by
    have hmi : m = im (fun k => if k = n then some (.agg #[.string s0, .int .u8 x1, .string s2, .int .i64 x3]) else none) := by
      rw [he, ← im_none, im_upd]
    rw [hmi] at hm
    refine Calls.mono (Of_any wx (some (w.heap.size + 1 + 1 + 1)) (.slice none 0 0) _ [] N (Or.inr ⟨_, rfl, hm⟩) (fun k v h => ?_) (fun k h => ?_) (Or.inl ⟨rfl, rfl⟩) (by simp) (fun k hk => by cases hk)) ?_
    · split at h
      · cases h; exact ⟨_, _, _, _, rfl⟩
      · cases h
    · by_cases e : k = n
      · subst e; exact hn
      · rw [if_neg e] at h; exact absurd rfl h
    · rintro e w' ⟨ib, cb, lb, rfl, h1, h2, h3⟩
      refine ⟨ib, cb, lb, rfl, ⟨h1.ctx.iff (fun k _ => ?_), h1.its, h1.ne, fun k hk => ?_⟩, h2, h3⟩
      · by_cases e : k = n <;> simp [e]
      · by_cases e : k = n
        · subst e; exact ⟨hn, rfl⟩
        · rw [if_neg e] at hk; exact absurd rfl hk
  have kr : Hid (∀ o1 o2, Blk ((w.alloc o1).alloc o2 |>.alloc (.cells #[.map none, .map none, .map none] 106)) (w.heap.size + 1 + 1) #[.map none, .map none, .map none] 106) := fun o1 o2 => by
    have := Blk.new ((w.alloc o1).alloc o2) #[.map none, .map none, .map none] 106
    simpa using this
  go_enter Tryz.func73, Tryz.ntmps73
  go_wp2_with (first | (refine wpList_ins rfl (.tmp 5) (.tmp 6) (.tmp 7) 100 rfl 81 kDot Tryz.underlying100 rfl (HM.out _ _ _) (by unfold maxLen; omega) (dotE n) (.agg #[.string s0, .int .u8 x1, .string s2, .int .i64 x3]) _ rfl rfl hkl ?_; intro w6 hm6 hg6 hs6; have kr6 := ((kr.out _ _).alloc (.map #[] 0)).grown hg6 (by omega); have hb6 : Below w.heap.size w w6 := (Below.grown (w := ((((w.alloc _).alloc _).alloc _).alloc (.map #[] 0))) (by go_grown) hg6 (by simp; omega) (fun k e => by cases e; omega))))
  refine Calls.mono (Hof.out w6 _ _ hm6 rfl) ?_
  rintro e w7 ⟨ib, cb, lb, rfl, hst, hnew, hb7⟩
  have k7 := kr6.below hb7
  have hs7 : w.heap.size + 1 + 1 + 1 < w6.heap.size := hm6.lt
  have r0 := (k7.cell 0).trans rfl
  have r1 := (k7.cell 1).trans rfl
  have r2 := (k7.cell 2).trans rfl
  have f0 := k7.frozen
  have HB : Hid (Below w.heap.size w w7) := hb6.trans (hb7.mono hb6.size)
  have HS : Hid (StoreS w7 ib cb lb (fun k => k = n) (fun k => if k = n then some (.agg #[.string s0, .int .u8 x1, .string s2, .int .i64 x3]) else none)) := hst
  clear hst hb7 kr6 k7 Hof hm6 hg6 hb6 kr HM
  go_wp2_with fail
  refine bodyPost_ret (v := .agg #[.map (some ib), .map (some cb), .map (some lb)]) (by simp [results, Tryz.results73, go_sem, r0, r1, r2, cs_same, cs_oth, World.cell?_setCell_other]) rfl ⟨_, _, _, rfl, HS.out.chg (M := fun k => k = w.heap.size + 1 + 1) ?_ (by omega) (by omega) (by omega), by omega, ?_⟩
  · exact (((Chg.refl (fun k => k = w.heap.size + 1 + 1) w7).setCell (p := ⟨w.heap.size + 1 + 1, 0, none⟩) rfl _).setCell (p := ⟨w.heap.size + 1 + 1, 1, none⟩) rfl _).setCell (p := ⟨w.heap.size + 1 + 1, 2, none⟩) rfl _
  · exact ((HB.out.setCell (p := ⟨w.heap.size + 1 + 1, 0, none⟩) (by show w.heap.size ≤ w.heap.size + 1 + 1; omega) _).setCell (p := ⟨w.heap.size + 1 + 1, 1, none⟩) (by show w.heap.size ≤ w.heap.size + 1 + 1; omega) _).setCell (p := ⟨w.heap.size + 1 + 1, 2, none⟩) (by show w.heap.size ≤ w.heap.size + 1 + 1; omega) _

theorem StoreR.hasI {w : World} {iv cv lv : Value} {S : Nat → Prop} {It : Nat → Option Value} (h : StoreR w iv cv lv S It) : ∃ c L N, CtxV w cv lv c L ∧ (∀ n, 1 ≤ nth n → (S n ↔ inK c L n)) ∧ MapO Tryz.prog 121 w iv N (im It) := by
  obtain ⟨⟨c, L, h1, _, h2⟩, ⟨N, h3⟩, _⟩ := h
  exact ⟨c, L, N, h1, h2, h3⟩

set_option maxHeartbeats 4000000 in
set_option maxRecDepth 100000 in
theorem gone1_any (w : World) (iv cv lv : Value) (n db : Nat) (S : Nat → Prop) (It : Nat → Option Value) (h : StoreR w iv cv lv S It) (hIt : ∀ v, It n = some v → ∃ s0 x1 s2 x3, v = .agg #[.string s0, .int .u8 x1, .string s2, .int .i64 x3]) (hn : okD n) (hd : Blk w db #[.int .i64 (who n : Int), .int .i64 (nth n : Int)] 121) :
    Calls Tryz.prog 171 #[.agg #[iv, cv, lv], .pointer (some ⟨db, 0, none⟩)] w fun e w' => ∃ b : Bool, e = .returned (.bool b) ∧ (b = true ↔ It n = none ∧ S n) ∧ Below w.heap.size w w' := by
  obtain ⟨c, L, N, hC, hS, hI⟩ := h.hasI
  obtain ⟨kl, hkl⟩ := keyE n (by have := hn.1; omega)
  have hn5 := hn.1
  have HC : Hid (CtxV w cv lv c L) := hC
  have HI : Hid (∀ wy, Below w.heap.size w wy → MapO Tryz.prog 121 wy iv N (im It)) := fun wy hb => hI.below hb
  have hdl := hd.lt
  have HD : Hid (Blk w db #[.int .i64 (who n : Int), .int .i64 (nth n : Int)] 121) := hd
  have d0 : ∀ o, (w.alloc o).cell? ⟨db, 0, none⟩ = some (.int .i64 (who n : Int)) := fun o => ((HD.out.alloc o).cell 0).trans rfl
  have d1 : ∀ o, (w.alloc o).cell? ⟨db, 1, none⟩ = some (.int .i64 (nth n : Int)) := fun o => ((HD.out.alloc o).cell 1).trans rfl
  have d0' : ∀ o o', ((w.alloc o).alloc o').cell? ⟨db, 0, none⟩ = some (.int .i64 (who n : Int)) := fun o o' => (((HD.out.alloc o).alloc o').cell 0).trans rfl
  have d1' : ∀ o o', ((w.alloc o).alloc o').cell? ⟨db, 1, none⟩ = some (.int .i64 (nth n : Int)) := fun o o' => (((HD.out.alloc o).alloc o').cell 1).trans rfl
  have him : im It (dotE n) = It n := im_dot It n
  have HSn : Hid (S n ↔ inK c L n) := hS n hn.2.1
  clear h hC hS hI hd
  cases hv : It n with
  | some v =>
    obtain ⟨s0, x1, s2, x3, rfl⟩ := hIt v hv
    rw [hv] at him
    have hu : (im It (dotE n)).getD (.agg #[.string ⟨#[]⟩, .int .u8 0, .string ⟨#[]⟩, .int .i64 0]) = .agg #[.string s0, .int .u8 x1, .string s2, .int .i64 x3] := by rw [him]; (first | done | rfl)
    have hc : (im It (dotE n)).isSome = true := by rw [him]; (first | done | rfl)
    clear hIt him
    go_enter Tryz.func171, Tryz.ntmps171
    go_wp2_with (first | (at_lookup; refine wpList_lookO_ok rfl (.tmp 8) (.tmp 9) 100 rfl 81 kDot Tryz.underlying100 (zCh _) rfl (HI.out _ ?_) (dotE n) _ rfl hkl _ hu _ hc ?_; (go_grown)))
    go_ret
    exact ⟨false, rfl, by simp, by go_grown⟩
  | none =>
    rw [hv] at him
    have hu : (im It (dotE n)).getD (.agg #[.string ⟨#[]⟩, .int .u8 0, .string ⟨#[]⟩, .int .i64 0]) = .agg #[.string ⟨#[]⟩, .int .u8 0, .string ⟨#[]⟩, .int .i64 0] := by rw [him]; (first | done | rfl)
    have hc : (im It (dotE n)).isSome = false := by rw [him]; (first | done | rfl)
    clear hIt him
    go_enter Tryz.func171, Tryz.ntmps171
    go_wp2_with (first | (at_lookup; refine wpList_lookO_ok rfl (.tmp 8) (.tmp 9) 100 rfl 81 kDot Tryz.underlying100 (zCh _) rfl (HI.out _ ?_) (dotE n) _ rfl hkl _ hu _ hc ?_; (go_grown)))
    have hbw : Below w.heap.size w ((w.alloc (.cells #[iv, cv, lv] 106)).alloc (.cells #[.string ⟨#[]⟩, .int .u8 0, .string ⟨#[]⟩, .int .i64 0] 81)) := by go_grown
    refine Calls.mono (has_any _ cv lv c n L (HC.out.below hbw) hn5) ?_
    rintro e w1 ⟨rfl, hb1⟩
    have HB1 : Hid (Below w.heap.size w w1) := hbw.trans (hb1.mono hbw.size)
    clear hbw hb1 d0 d1 d0' d1' HD HI
    go_wp2
    go_ret
    refine ⟨_, rfl, ?_, HB1.out⟩
    rw [HSn.out]
    simp [inK]

structure StD where
  io : Option Nat
  co : Option Nat
  lo : Option Nat
  S : Nat → Prop
  It : Nat → Option Value
structure StD.At (w : World) (s : StD) : Prop where
  r : StoreR w (Value.map s.io) (Value.map s.co) (Value.map s.lo) s.S s.It
  v : ∀ n x, s.It n = some x → ItemV x

structure SliceS (w : World) (b off : Nat) (sts : List StD) : Prop where
  lt : b < w.heap.size
  c0 : ∀ j (h : j < sts.length), w.cell? ⟨b, off + j * 3, none⟩ = some (Value.map sts[j].io)
  c1 : ∀ j (h : j < sts.length), w.cell? ⟨b, off + j * 3 + 1, none⟩ = some (Value.map sts[j].co)
  c2 : ∀ j (h : j < sts.length), w.cell? ⟨b, off + j * 3 + 2, none⟩ = some (Value.map sts[j].lo)
  ok : ∀ s ∈ sts, s.At w
theorem StD.At.chg {M : Nat → Prop} {w w' : World} {s : StD} (h : s.At w) (hc : Chg M w w') (hm : ∀ b, (Value.map s.io) = .map (some b) ∨ (Value.map s.co) = .map (some b) ∨ (Value.map s.lo) = .map (some b) → ¬ M b) : s.At w' := ⟨h.r.chg hc hm, h.v⟩
theorem SliceS.chg {M : Nat → Prop} {w w' : World} {b off : Nat} {sts : List StD} (h : SliceS w b off sts) (hc : Chg M w w') (hb : ¬ M b) (hm : ∀ s ∈ sts, ∀ b, (Value.map s.io) = .map (some b) ∨ (Value.map s.co) = .map (some b) ∨ (Value.map s.lo) = .map (some b) → ¬ M b) : SliceS w' b off sts := by
  have e : ∀ i, w'.cell? ⟨b, i, none⟩ = w.cell? ⟨b, i, none⟩ := fun i => World.cell?_of_block (w := w) (hc.block b h.lt hb)
  exact ⟨Nat.lt_of_lt_of_le h.lt hc.size, fun j hj => (e _).trans (h.c0 j hj), fun j hj => (e _).trans (h.c1 j hj), fun j hj => (e _).trans (h.c2 j hj), fun s hs => (h.ok s hs).chg hc (hm s hs)⟩
theorem SliceS.below {w w' : World} {b off : Nat} {sts : List StD} (h : SliceS w b off sts) (hb : Below w.heap.size w w') : SliceS w' b off sts := h.chg (M := fun _ => False) (Chg.of_below hb) (fun h => h) (fun _ _ _ _ h => h)

set_option maxHeartbeats 4000000 in
set_option maxRecDepth 100000 in
theorem IndexFunc_any (w : World) (n db b off cap : Nat) (sts : List StD) (h : SliceS w b off sts) (hcap : sts.length ≤ cap) (hl : sts.length ≤ 1000) (hn : okD n) (hd : Blk w db #[.int .i64 (who n : Int), .int .i64 (nth n : Int)] 121) :
    Calls Tryz.prog 214 #[.slice (some ⟨b, off, none⟩) sts.length cap, .func (.func 171) #[] #[.pointer (some ⟨db, 0, none⟩)]] w fun e w' => ∃ r : Int, e = .returned (.int .i64 r) ∧ (0 ≤ r ↔ ∃ s ∈ sts, s.It n = none ∧ s.S n) ∧ Below w.heap.size w w' := by
  have HS : Hid (SliceS w b off sts) := h
  have HD : Hid (Blk w db #[.int .i64 (who n : Int), .int .i64 (nth n : Int)] 121) := hd
  clear h hd
  go_enter Tryz.func214, Tryz.ntmps214
  go_wp2_with fail
  go_loopg [8] sts.length (fun g v8 wx => ∃ i : Nat, i + g = sts.length ∧ v8 = .int .i64 (i : Int) ∧ Below w.heap.size w wx ∧ ∀ s ∈ sts.take i, ¬ (s.It n = none ∧ s.S n))
  case atStart => exact ⟨0, by omega, rfl, Below.refl _ _, by simp⟩
  case round =>
    obtain ⟨i, hig, rfl, hb, hno⟩ := hrel
    have HB : Hid (Below w.heap.size w wr) := hb
    have Hno : Hid (∀ s ∈ sts.take i, ¬ (s.It n = none ∧ s.S n)) := hno
    clear hb hno
    by_cases hi : i < sts.length
    · have hS2 := HS.out.below HB.out
      have k0 := hS2.c0 i hi
      have k1 := hS2.c1 i hi
      have k2 := hS2.c2 i hi
      have hAt := hS2.ok _ (List.getElem_mem hi)
      have hmem : sts[i] ∈ sts := List.getElem_mem hi
      have hall : sts.take (i + 1) = sts.take i ++ [sts[i]] := List.take_succ_eq_append_getElem hi
      have Hmore : Hid (¬ (sts[i].It n = none ∧ sts[i].S n) → ∀ s ∈ sts.take (i + 1), ¬ (s.It n = none ∧ s.S n)) := fun hx s hs => by
        rw [hall, List.mem_append, List.mem_singleton] at hs
        rcases hs with hs | rfl
        · exact Hno.out s hs
        · exact hx
      have Hc : Hid (_) := gone1_any wr (Value.map sts[i].io) (Value.map sts[i].co) (Value.map sts[i].lo) n db sts[i].S sts[i].It hAt.r (fun v hv => hAt.v n v hv) hn (HD.out.below HB.out)
      generalize sts[i] = s at *
      clear hS2 hAt hall
      go_wp2_with fail
      refine Calls.mono Hc.out ?_
      rintro e w2 ⟨bb, rfl, hbb, hb2⟩
      have HB2 : Hid (Below w.heap.size w w2) := HB.out.trans (hb2.mono HB.out.size)
      clear Hc hb2 k0 k1 k2
      cases bb with
      | true =>
        have hg := hbb.1 rfl
        clear hbb
        go_wp2_with fail
        go_ret
        exact ⟨(i : Int), rfl, ⟨fun _ => ⟨s, hmem, hg⟩, fun _ => by omega⟩, HB2.out⟩
      | false =>
        have hg : ¬ (s.It n = none ∧ s.S n) := fun h => by have := hbb.2 h; cases this
        clear hbb
        go_wp2_with fail
        go_roundg (sts.length - (i + 1))
        case measure => omega
        case rel => exact ⟨i + 1, by omega, by go_num, HB2.out, Hmore.out hg⟩
    · go_wp2_with fail
      go_ret
      refine ⟨-1, rfl, ⟨fun h => by omega, fun ⟨s, hs, hg⟩ => ?_⟩, HB.out⟩
      exact absurd hg (Hno.out s (by rw [List.take_of_length_le (by omega)]; exact hs))

set_option maxHeartbeats 4000000 in
set_option maxRecDepth 100000 in
theorem ContainsFunc_any (w : World) (n db b off cap : Nat) (sts : List StD) (h : SliceS w b off sts) (hcap : sts.length ≤ cap) (hl : sts.length ≤ 1000) (hn : okD n) (hd : Blk w db #[.int .i64 (who n : Int), .int .i64 (nth n : Int)] 121) :
    Calls Tryz.prog 170 #[.slice (some ⟨b, off, none⟩) sts.length cap, .func (.func 171) #[] #[.pointer (some ⟨db, 0, none⟩)]] w fun e w' => ∃ r : Bool, e = .returned (.bool r) ∧ (r = true ↔ ∃ s ∈ sts, s.It n = none ∧ s.S n) ∧ Below w.heap.size w w' := by
  have Hc : Hid (_) := IndexFunc_any w n db b off cap sts h hcap hl hn hd
  clear h hd
  go_enter Tryz.func170, Tryz.ntmps170
  go_wp2_with fail
  refine Calls.mono Hc.out ?_
  rintro e w2 ⟨r, rfl, hr, hb⟩
  have HR : Hid (0 ≤ r ↔ ∃ s ∈ sts, s.It n = none ∧ s.S n) := hr
  clear hr Hc
  go_wp2
  go_ret
  exact ⟨_, rfl, by rw [← HR.out]; simp, hb⟩

set_option maxHeartbeats 4000000 in
set_option maxRecDepth 100000 in
theorem goneInAny_any (w : World) (n b off cap : Nat) (sts : List StD) (h : SliceS w b off sts) (hcap : sts.length ≤ cap) (hl : sts.length ≤ 1000) (hn : okD n) :
    Calls Tryz.prog 124 #[dotE n, .slice (some ⟨b, off, none⟩) sts.length cap] w fun e w' => ∃ r : Bool, e = .returned (.bool r) ∧ (r = true ↔ ∃ s ∈ sts, s.It n = none ∧ s.S n) ∧ Below w.heap.size w w' := by
  have Hc : Hid (∀ wx, wx = w.alloc (.cells #[.int .i64 (who n : Int), .int .i64 (nth n : Int)] 121) → Calls Tryz.prog 170 #[.slice (some ⟨b, off, none⟩) sts.length cap, .func (.func 171) #[] #[.pointer (some ⟨w.heap.size, 0, none⟩)]] wx fun e w' => ∃ r : Bool, e = .returned (.bool r) ∧ (r = true ↔ ∃ s ∈ sts, s.It n = none ∧ s.S n) ∧ Below w.heap.size w w') := fun wx hx => by
    subst hx
    have hb : Below w.heap.size w (w.alloc (.cells #[.int .i64 (who n : Int), .int .i64 (nth n : Int)] 121)) := (Below.refl _ w).alloc (Nat.le_refl _) _
    refine Calls.mono (ContainsFunc_any _ n w.heap.size b off cap sts (h.below hb) hcap hl hn (Blk.new w _ _)) ?_
    rintro e w' ⟨r, rfl, hr, hb2⟩
    exact ⟨r, rfl, hr, hb.trans (hb2.mono hb.size)⟩
  clear h
  go_enter Tryz.func124, Tryz.ntmps124
  go_wp2_with fail
  refine Calls.mono (Hc.out _ rfl) ?_
  rintro e w2 ⟨r, rfl, hr, hb⟩
  have HR : Hid (r = true ↔ ∃ s ∈ sts, s.It n = none ∧ s.S n) := hr
  clear hr Hc
  go_wp2
  go_ret
  exact ⟨_, rfl, HR.out, hb⟩

def goneAt (sts : List StD) (n : Nat) : Prop := ∃ s ∈ sts, s.It n = none ∧ s.S n

structure JN (w : World) (sts : List StD) (b off ib cb lb B : Nat) (S D : Nat → Prop) (It : Nat → Option Value) (wx : World) : Prop where
  st : StoreS wx ib cb lb S It
  sl : SliceS wx b off sts
  old : b < w.heap.size ∧ ∀ s ∈ sts, ∀ k, (Value.map s.io) = .map (some k) ∨ (Value.map s.co) = .map (some k) ∨ (Value.map s.lo) = .map (some k) → k < w.heap.size
  new : w.heap.size < ib ∧ w.heap.size < cb ∧ w.heap.size < lb ∧ w.heap.size < B
  apart : B ≠ ib ∧ B ≠ cb ∧ B ≠ lb
  bx : Blk wx B #[.map (some ib), .map (some cb), .map (some lb)] 106
  r0 : Blk wx w.heap.size #[.map none, .map none, .map none] 106
  below : Below w.heap.size w wx
  p1 : ∀ n v, It n = some v → (∃ s ∈ sts, s.It n = some v) ∧ ¬ goneAt sts n
  p2 : ∀ n, D n → ¬ goneAt sts n → It n ≠ none

section
variable {w : World} {sts : List StD} {b off ib cb lb B : Nat} {S D : Nat → Prop} {It : Nat → Option Value} {wx wy : World}
theorem JN.chg {M : Nat → Prop} (h : JN w sts b off ib cb lb B S D It wx) (hc : Chg M wx wy) (hM : ∀ k, M k → w.heap.size < k ∧ k ≠ ib ∧ k ≠ cb ∧ k ≠ lb ∧ k ≠ B) : JN w sts b off ib cb lb B S D It wy := by
  have ho := h.old
  refine ⟨h.st.chg hc (fun m => (hM _ m).2.1 rfl) (fun m => (hM _ m).2.2.1 rfl) (fun m => (hM _ m).2.2.2.1 rfl), h.sl.chg hc (fun m => by have := hM _ m; omega) (fun s hs k hk m => by have := hM _ m; have := ho.2 s hs k hk; omega), ho, h.new, h.apart, h.bx.chg hc (fun m => (hM _ m).2.2.2.2 rfl), h.r0.chg hc (fun m => by have := hM _ m; omega), ?_, h.p1, h.p2⟩
  exact h.below.trans ⟨hc.os, hc.tape, hc.output, hc.size, fun k hk => hc.block k (Nat.lt_of_lt_of_le hk h.below.size) (fun m => by have := hM _ m; omega)⟩
theorem JN.mono (h : JN w sts b off ib cb lb B S D It wx) (hb : Below wx.heap.size wx wy) : JN w sts b off ib cb lb B S D It wy := h.chg (M := fun _ => False) (Chg.of_below hb) (fun _ h => h.elim)
theorem JN.turn {r : Nat} (h : JN w sts b off ib cb lb B S D It wx) (hg : wx.grownBy wy (some r)) (hr : w.heap.size < r ∧ r ≠ ib ∧ r ≠ cb ∧ r ≠ lb ∧ r ≠ B) : JN w sts b off ib cb lb B S D It wy :=
  h.chg (M := fun k => k = r) ((Chg.refl _ wx).grown hg (fun k e => by cases e; exact Or.inl rfl)) (fun k e => by subst e; exact hr)
theorem JN.ctx {S' : Nat → Prop} (h : JN w sts b off ib cb lb B S D It wx) (hc : CtxS wy cb lb S') (hg : Chg (fun k => k = cb ∨ k = lb) wx wy) (hS : ∀ n, S n → S' n) : JN w sts b off ib cb lb B S' D It wy := by
  have ho := h.old
  have hn := h.new
  have ha := h.apart
  have hi := h.st.ne
  refine ⟨⟨hc, h.st.its.imp fun N g => g.block (hg.block _ g.lt (by omega)), hi, fun n hn => by have := h.st.ok n hn; exact ⟨this.1, hS n this.2⟩⟩, h.sl.chg hg (by omega) (fun s hs k hk m => by have := ho.2 s hs k hk; omega), ho, hn, ha, h.bx.chg hg (by omega), h.r0.chg hg (by omega), ?_, h.p1, h.p2⟩
  exact h.below.trans ⟨hg.os, hg.tape, hg.output, hg.size, fun k hk => hg.block k (Nat.lt_of_lt_of_le hk h.below.size) (by omega)⟩
theorem JN.seen {D' : Nat → Prop} (h : JN w sts b off ib cb lb B S D It wx) (hD : ∀ n, D' n → ¬ goneAt sts n → D n ∨ It n ≠ none) : JN w sts b off ib cb lb B S D' It wx :=
  ⟨h.st, h.sl, h.old, h.new, h.apart, h.bx, h.r0, h.below, h.p1, fun n h1 h2 => (hD n h1 h2).elim (fun h3 => h.p2 n h3 h2) id⟩
theorem JN.put {n N : Nat} {v : Value} (h : JN w sts b off ib cb lb B S D It wx) (hg : wx.grownBy wy (some ib)) (hm : MapV Tryz.prog 121 wy ib N (upd (im It) (dotE n) v)) (h1 : okD n) (h3 : S n) (hv : ∃ s ∈ sts, s.It n = some v) (hng : ¬ goneAt sts n) : JN w sts b off ib cb lb B S (fun k => D k ∨ k = n) (fun k => if k = n then some v else It k) wy := by
  have ho := h.old
  have hn := h.new
  have ha := h.apart
  have hi := h.st.ne
  have hc : Chg (fun k => k = ib) wx wy := (Chg.refl _ wx).grown hg (fun k e => by cases e; exact Or.inl rfl)
  refine ⟨h.st.put hg hm h1 h3, h.sl.chg hc (by omega) (fun s hs k hk m => by have := ho.2 s hs k hk; omega), ho, hn, ha, h.bx.chg hc (by omega), h.r0.chg hc (by omega), ?_, ?_, ?_⟩
  · exact h.below.trans ⟨hc.os, hc.tape, hc.output, hc.size, fun k hk => hc.block k (Nat.lt_of_lt_of_le hk h.below.size) (by omega)⟩
  · intro k u hk
    by_cases e : k = n
    · subst e; simp at hk; subst hk; exact ⟨hv, hng⟩
    · simp [e] at hk; exact h.p1 k u hk
  · intro k hk hk2
    by_cases e : k = n
    · simp [e]
    · simp only [if_neg e]; exact h.p2 k (hk.resolve_right e) hk2
end
end Go.Proofs.YtoiiaankpnhppaaGreatDoor

