import Derived.Laws.BytesArg
import Derived.Deep.DeepCutAuto
import Derived.Test.YtoiiaankpnhppaaGreatDoorPart12
set_option linter.unusedVariables false
set_option linter.unusedSimpArgs false
namespace Go.Proofs.YtoiiaankpnhppaaGreatDoor
open Go.RowKit Go.Maps Go.WideMaps Go.Shelf

attribute [local go_sem] Oper.semAt_some
theorem MapO.outF {B : Nat} {w w' : World} {io : Option Nat} {N : Nat} {m : Value → Option Value} (h : MapO Tryz.prog 121 w (.map io) N m) (hF : OutF B w w') : MapO Tryz.prog 121 w' (.map io) N m := by
  rcases h with h | ⟨b, h1, h2⟩
  · exact Or.inl h
  · exact Or.inr ⟨b, h1, h2.block (hF.block b h2.lt (fun hm => by obtain ⟨_, cs, fz, e⟩ := hm; exact h2.noTag e))⟩
theorem ownsRow_outF {B base : Nat} {w w' : World} {e : TypeId} {size : Nat} {v : Value} {n : Nat} {xs : List Value} (h : w.ownsRow base e size v n xs) (hF : OutF B w w') (he : e ≠ 5) : w'.ownsRow base e size v n xs := by
  refine ownsRow_chg h hF (fun g hg hm => ?_)
  obtain ⟨_, cs, fz, e2⟩ := hm
  rcases h.2 with ⟨rfl, _⟩ | ⟨g', cap, cur, rfl, _, h3, _⟩
  · cases hg
  · cases hg
    rw [h3] at e2
    cases e2
    exact he rfl

theorem all_len {w : World} {v : Value} {N : Nat} {It : Nat → Option Value} {xs : List Itm} (h : MapO Tryz.prog 121 w v N (im It)) (hx : SAll It xs) : xs.length = N := by
  obtain ⟨ns, h1, h2, h3⟩ := im_count h
  have hn : (xs.map Itm.n).Nodup := hx.1.1
  have hp : (xs.map Itm.n).Perm ns := (List.perm_ext_iff_of_nodup hn h1).2 (fun n => (hx.1.2 n).trans (h3 n).symm)
  have := hp.length_eq
  rw [List.length_map, h2] at this
  exact this
theorem items_small (C : Nat → Option Thk.Ch) (h : ∀ k c, C k = some c → (txtC c).length ≤ 1000) : ∀ pre : List Itm, ((wIt C pre).flatMap encI).length ≤ pre.length * 1006
  | [] => by simp [wIt]
  | x :: pre => by
    have ih := items_small C h pre
    unfold wIt at ih ⊢
    rw [List.map_cons, List.flatMap_cons, List.length_append, List.length_cons]
    have a1 := encN_len (who x.n)
    have a2 := encN_len (nth x.n)
    have h6 : ∀ t : Thk.Bs, t.length ≤ 1000 → (encI (x.n, t)).length ≤ 1006 := fun t ht => by
      have a3 := encN_len t.length
      unfold encI encD; simp only [List.length_append]; omega
    refine Nat.le_trans (Nat.add_le_add (h6 _ ?_) ih) (by omega)
    cases hc : C x.n with
    | none => simp
    | some c => exact h _ _ hc
theorem wpIn_norm {F : Fence} {n : Nat} {P : Program} {s : Code} {Q : Exit → Act → World → Prop} {a : Act} {w : World} (h : ∀ K : Act → World → Prop, (∀ a w, Q .normal a w → K a w) → s.wpIn F n P (Exit.then K (fun _ _ _ => False)) a w) : s.wpIn F n P Q a w := by
  refine wpIn_mono (h (fun a w => Q .normal a w) (fun _ _ h => h)) ?_
  intro e a w hq
  cases e with
  | normal => exact hq
  | exit id => exact False.elim hq
  | goto l => exact False.elim hq
  | ret => exact False.elim hq
  | panic ch => exact False.elim hq
  | outgrown => exact False.elim hq
structure RowsX (w : World) (ao : Option Addr) (cap : Nat) (rs : List (Nat × Nat)) (io co lo : Option Nat) (N : Nat) (C : Nat → Option Thk.Ch) (wx : World) : Prop where
  row : wx.ownsRow w.heap.size 249 3 (.slice ao rs.length cap) rs.length (rcells rs)
  st : Blk wx (w.heap.size + 1) #[.map io, .map co, .map lo] 106
  mp : MapO Tryz.prog 121 wx (.map io) N (im (itOf C))
theorem RowsX.outF {w : World} {ao : Option Addr} {cap : Nat} {rs : List (Nat × Nat)} {io co lo : Option Nat} {N : Nat} {C : Nat → Option Thk.Ch} {wx wy : World} {B : Nat} (h : RowsX w ao cap rs io co lo N C wx) (hF : OutF B wx wy) : RowsX w ao cap rs io co lo N C wy :=
  ⟨ownsRow_outF h.row hF (by decide), hF.blk h.st (by decide), h.mp.outF hF⟩
theorem RowsX.chg0 {w : World} {ao : Option Addr} {cap : Nat} {rs : List (Nat × Nat)} {io co lo : Option Nat} {N : Nat} {C : Nat → Option Thk.Ch} {wx wy : World} {v : Value} {b : Nat} (h : RowsX w ao cap rs io co lo N C wx) (hb : Blk wx b #[v] 88) (hc : Chg (fun k => k = b) wx wy) : RowsX w ao cap rs io co lo N C wy := by
  have hn : ∀ k, (∀ cur fz, wx.heap[k]? ≠ some (.cells cur 88 fz)) → k ≠ b := fun k hk e => hk _ _ (e ▸ hb)
  refine ⟨ownsRow_chg h.row hc (fun g hg => ?_), h.st.chg hc (hn _ (fun cur fz e => ?_)), ?_⟩
  · intro e
    exact ownsRow_ne h.row (fun cur fz e2 => by rw [show wx.heap[b]? = _ from hb] at e2; cases e2) (e ▸ hg)
  · rw [show wx.heap[w.heap.size + 1]? = _ from h.st] at e; cases e
  · rcases h.mp with h1 | ⟨k, h1, h2⟩
    · exact Or.inl h1
    · exact Or.inr ⟨k, h1, h2.block (hc.block k h2.lt (hn k (fun cur fz e => h2.noTag e)))⟩
theorem RowsX.at {w : World} {ao : Option Addr} {cap : Nat} {rs : List (Nat × Nat)} {io co lo : Option Nat} {N : Nat} {C : Nat → Option Thk.Ch} {wx : World} (h : RowsX w ao cap rs io co lo N C wx) (i : Nat) (hi : i < rs.length) : ∃ g, ao = some ⟨g, 0, none⟩ ∧ wx.cell? ⟨g, i * 3, none⟩ = some (.int .i64 (who rs[i].1 : Int)) ∧ wx.cell? ⟨g, i * 3 + 1, none⟩ = some (.int .i64 (nth rs[i].1 : Int)) ∧ wx.cell? ⟨g, i * 3 + 2, none⟩ = some (.int .i64 (rs[i].2 : Int)) := by
  have hcl := fun g (hg : (Value.slice ao rs.length cap).ownBlock = some g) => h.row.cells hg
  rcases h.row.2 with ⟨h1, h2⟩ | ⟨g, cap', cur, h1, _⟩
  · omega
  · cases h1
    have hg := rcells_get rs i hi
    have a1 := hcl g rfl _ _ hg.1
    have a2 := hcl g rfl _ _ hg.2.1
    have a3 := hcl g rfl _ _ hg.2.2
    rw [addr0] at a1 a2 a3
    exact ⟨g, rfl, a1, a2, a3⟩
theorem enc_small (l : Thk.Bs) (rs : List (Nat × Nat)) (i : Nat) (hl : l.length ≤ 100) (hr : rs.length ≤ 500) : (l ++ encN rs.length ++ (rs.take i).flatMap encR).length ≤ 20000 := by
  have h1 := encN_len rs.length
  have h2 : ∀ ys : List (Nat × Nat), (ys.flatMap encR).length ≤ ys.length * 6 := by
    intro ys
    induction ys with
    | nil => simp
    | cons y ys ih =>
      rw [List.flatMap_cons, List.length_append, List.length_cons]
      have a1 := encN_len (who y.1)
      have a2 := encN_len (nth y.1)
      have a3 := encN_len y.2
      have : (encR y).length ≤ 6 := by unfold encR encD; simp only [List.length_append]; omega
      omega
  have h3 := h2 (rs.take i)
  have h4 : (rs.take i).length ≤ rs.length := by rw [List.length_take]; omega
  simp only [List.length_append]
  omega
theorem OutV.shape {B : Nat} {w : World} {v : Value} {l : Thk.Bs} (h : OutV B w v l) : ∃ ao n cap, v = .slice ao n cap := by
  rcases h.2 with ⟨h1, h2⟩ | ⟨g, cap, cur, h1, _, _, h4, _⟩
  · exact ⟨_, _, _, h1⟩
  · exact ⟨_, _, _, h1⟩

set_option maxRecDepth 100000 in
set_option maxHeartbeats 8000000 in
theorem wStore_any (w : World) (hG : Glob w) (B : Nat) (hB3 : 3 < B) (v : Value) (l : Thk.Bs) (h : OutV B w v l) (hB : B ≤ w.heap.size) (hl : l.length ≤ 100) (io co lo : Option Nat) (c : Nat → Nat) (L : Nat → Bool) (C : Nat → Option Thk.Ch) (N : Nat)
    (hctx : CtxV w (.map co) (.map lo) c L) (hits : MapO Tryz.prog 121 w (.map io) N (im (itOf C))) (hok : ∀ k, C k ≠ none → okD k) (hN : N ≤ 500)
    (hns : ∀ ns : List Nat, ns.Nodup → (∀ d, d ∈ ns ↔ 1 ≤ nth d ∧ inK c L d) → ns.length ≤ 500)
    (hch : ∀ k c, C k = some c → (c.act = 43 ∨ c.act = 94 ∨ c.act = 61 ∨ c.act = 62) ∧ (-9223372036854775808 ≤ c.n ∧ c.n ≤ 9223372036854775807) ∧ c.path.length ≤ 1048576 ∧ (keptVal c.act ⟨c.val.toArray⟩).size ≤ 1048576 ∧ (txtC c).length ≤ 1000) :
    Calls Tryz.prog 147 #[v, .agg #[.map io, .map co, .map lo]] w fun e w' => ∃ v' ns rs xs, e = .returned v' ∧ ns.Nodup ∧ (∀ d, d ∈ ns ↔ 1 ≤ nth d ∧ inK c L d) ∧ Runs ns ns.length rs ∧ SAll (itOf C) xs ∧ OutV B w' v' (l ++ encS rs (wIt C xs)) ∧ OutF B w w' := by
  have h3w := hG.size
  obtain ⟨va, vn, vc, rfl⟩ := h.shape
  have HG : Hid (∀ wx, OutF B w wx → Glob wx) := fun wx hF => hG.chg hF (fun k hk => by have := hk.1; omega)
  obtain ⟨w1, hw1⟩ : ∃ w1, w1 = (w.alloc (.cells #[.slice va vn vc] 88)).alloc (.cells #[.map io, .map co, .map lo] 106) := ⟨_, rfl⟩
  have hb1 : Below w.heap.size w w1 := by rw [hw1]; exact ((Below.refl _ w).alloc (Nat.le_refl _) _).alloc (by simp) _
  have kv : Blk w1 w.heap.size #[.slice va vn vc] 88 := by rw [hw1]; exact (Blk.new w _ _).alloc _
  have ks : Blk w1 (w.heap.size + 1) #[.map io, .map co, .map lo] 106 := by
    have := Blk.new (w.alloc (.cells #[.slice va vn vc] 88)) #[.map io, .map co, .map lo] 106
    rw [World.size_alloc] at this
    rw [hw1]; exact this
  have HR : Hid (Calls Tryz.prog 200 #[.agg #[.map io, .map co, .map lo]] w1 fun e w' => ∃ u ns rs, e = .returned u ∧ (ns.Nodup ∧ (∀ d, d ∈ ns ↔ 1 ≤ nth d ∧ inK c L d) ∧ Runs ns ns.length rs) ∧ w'.ownsRow w.heap.size 249 3 u rs.length (rcells rs) ∧ WrV w w.heap.size B l (fun _ => False) w' (.slice va vn vc) ∧ Blk w' (w.heap.size + 1) #[.map io, .map co, .map lo] 106 ∧ MapO Tryz.prog 121 w' (.map io) N (im (itOf C))) := by
    refine Calls.mono (sRuns_any w1 io co lo c L (hctx.below hb1)) ?_
    rintro e w' ⟨u, ns, rs, rfl, h1, h2, h3, h4, h5⟩
    have hs1 := hb1.size
    have hbw : Below w.heap.size w w' := hb1.trans (h5.mono hs1)
    exact ⟨u, ns, rs, rfl, ⟨h1, h2, h3⟩, own_base h4 hs1, ⟨kv.below h5, own_below h hbw, fun h => h, fun _ _ h => h, OutF.of_below hbw, fun _ h => h.elim, Nat.le_refl _⟩, ks.below h5, hits.below hbw⟩
  have s0 := (ks.cell 0).trans rfl
  have s1 := (ks.cell 1).trans rfl
  have s2 := (ks.cell 2).trans rfl
  have hs1 : w.heap.size + 1 < w1.heap.size := ks.lt
  have Hch : Hid (∀ k c, C k = some c → (c.act = 43 ∨ c.act = 94 ∨ c.act = 61 ∨ c.act = 62) ∧ (-9223372036854775808 ≤ c.n ∧ c.n ≤ 9223372036854775807) ∧ c.path.length ≤ 1048576 ∧ (keptVal c.act ⟨c.val.toArray⟩).size ≤ 1048576 ∧ (txtC c).length ≤ 1000) := hch
  have Hns : Hid (∀ ns : List Nat, ns.Nodup → (∀ d, d ∈ ns ↔ 1 ≤ nth d ∧ inK c L d) → ns.length ≤ 500) := hns
  have HAll : Hid (∀ wx, Calls Tryz.prog 121 #[.agg #[.map io, .map co, .map lo]] wx _) := fun wx => All_any wx io co lo
  have Hok : Hid (∀ k, C k ≠ none → okD k) := hok
  have Hw1 : Hid (w1 = (w.alloc (.cells #[.slice va vn vc] 88)).alloc (.cells #[.map io, .map co, .map lo] 106)) := hw1
  clear hG h hctx hits hok hns hch hb1 kv ks hw1
  refine (callsIn_wide (n := 3)).1 ?_
  refine callsIn_of_wp_marks Tryz.func147 rfl trivial ?_ rfl
  simp only [Tryz.ntmps147, List.size_toArray, List.length_cons, List.length_nil, Nat.reduceAdd, Nat.reduceSub, Array.replicate_succ, Array.replicate_zero, List.push_toArray, List.append_toArray, List.nil_append, List.cons_append]
  gi_wp2_with fail
  rw [← Hw1.out]
  refine ⟨trivial, (callsIn_wide.2 HR.out).mono ?_⟩
  rintro e w2 ⟨u5, ns, rs, rfl, hnr, hrow, hwr, hks, hmp⟩
  have hrl : rs.length ≤ 500 := Nat.le_trans hnr.2.2.len (Hns.out ns hnr.1 hnr.2.1)
  have HN1 : Hid (Calls Tryz.prog 199 #[.slice va vn vc, .int .i64 (rs.length : Int)] w2 _) := Number_loc B w2 (.slice va vn vc) l rs.length hwr.row (Nat.le_trans hB hwr.fr.size) (by omega) (by omega)
  have b0 := (hwr.bk.cell 0).trans rfl
  have f0 := hwr.bk.frozen
  obtain ⟨ao, cap, hu5, hcap⟩ : ∃ ao cap, u5 = .slice ao rs.length cap ∧ rs.length ≤ cap := by
    rcases hrow.2 with ⟨h1, h2⟩ | ⟨g, cap, cur, h1, _, _, h4, _⟩
    · exact ⟨none, 0, by rw [h1, h2], by omega⟩
    · exact ⟨_, cap, h1, h4⟩
  subst hu5
  have HS : Hid (w2.ownsRow w.heap.size 249 3 (.slice ao rs.length cap) rs.length (rcells rs) ∧ WrV w w.heap.size B l (fun _ => False) w2 (.slice va vn vc) ∧ Blk w2 (w.heap.size + 1) #[.map io, .map co, .map lo] 106 ∧ MapO Tryz.prog 121 w2 (.map io) N (im (itOf C))) := ⟨hrow, hwr, hks, hmp⟩
  have Hnr : Hid (ns.Nodup ∧ (∀ d, d ∈ ns ↔ 1 ≤ nth d ∧ inK c L d) ∧ Runs ns ns.length rs) := hnr
  clear hnr hrow hwr hks hmp HR Hw1 Hns s0 s1 s2
  gi_wp2_with fail
  refine ⟨trivial, (callsIn_wide.2 HN1.out).mono ?_⟩
  rintro e w3 ⟨v3, rfl, ho3, hg3⟩
  obtain ⟨va3, vn3, vc3, rfl⟩ := ho3.shape
  have hw3 := HS.out.2.1.put (fun _ h => h.elim) hg3 ho3
  have hF3 : OutF B w2 w3 := hg3.outF HS.out.2.1.row
  have c3 : Blk w3 w.heap.size #[.slice va vn vc] 88 := hg3.blk HS.out.2.1.row HS.out.2.1.bk (by decide)
  have b3 := (c3.cell 0).trans rfl
  have f3 := c3.frozen
  have HW3 : Hid (WrV w w.heap.size B (l ++ encN rs.length) (fun _ => False) (w3.setCell ⟨w.heap.size, 0, none⟩ (.slice va3 vn3 vc3)) (.slice va3 vn3 vc3)) := hw3
  have hcx : Chg (fun k => k = w.heap.size) w3 (w3.setCell ⟨w.heap.size, 0, none⟩ (.slice va3 vn3 vc3)) := (Chg.refl (fun k => k = w.heap.size) w3).setCell (p := ⟨w.heap.size, 0, none⟩) rfl _
  have HX3 : Hid (RowsX w ao cap rs io co lo N C (w3.setCell ⟨w.heap.size, 0, none⟩ (.slice va3 vn3 vc3))) := (RowsX.outF ⟨HS.out.1, HS.out.2.2.1, HS.out.2.2.2⟩ hF3).chg0 c3 hcx
  clear hw3 hF3 c3 hg3 ho3 hcx HS HN1
  gi_wp2_with fail
  gi_loopg [18] rs.length (fun g v18 wx => ∃ i : Nat, i + g = rs.length ∧ v18 = .int .i64 (i : Int) ∧ (∃ a n k, WrV w w.heap.size B (l ++ encN rs.length ++ (rs.take i).flatMap encR) (fun _ => False) wx (.slice a n k)) ∧ RowsX w ao cap rs io co lo N C wx)
  case atStart => exact ⟨0, by omega, rfl, ⟨_, _, _, by simpa using HW3.out⟩, HX3.out⟩
  case round =>
    obtain ⟨i, hig, rfl, ⟨xa, xn, xc, hwi⟩, hxi⟩ := hrel
    clear HW3 HX3 b3 f3
    by_cases him : i < rs.length
    · obtain ⟨g, hgeq, hc0, hc1, hc2⟩ := hxi.at i him
      subst hgeq
      have hrk := Hnr.out.2.2.ok _ (List.getElem_mem him)
      have hfl : Hid ((rs.take (i + 1)).flatMap encR = (rs.take i).flatMap encR ++ encR rs[i]) := by unfold Hid; rw [List.take_succ_eq_append_getElem him, List.flatMap_append, List.flatMap_singleton]
      have hlen : Hid ((l ++ encN rs.length ++ (rs.take i).flatMap encR).length ≤ 20000) := enc_small l rs i hl hrl
      generalize rs[i] = x at *
      obtain ⟨d, m⟩ := x
      simp only at hc0 hc1 hc2 hrk
      gi_wp2_with fail
      have kr : Blk (wr.alloc (.cells #[.int .i64 (who d : Int), .int .i64 (nth d : Int), .int .i64 (m : Int)] 249)) wr.heap.size #[.int .i64 (who d : Int), .int .i64 (nth d : Int), .int .i64 (m : Int)] 249 := Blk.new wr _ _
      have hbw : Below wr.heap.size wr (wr.alloc (.cells #[.int .i64 (who d : Int), .int .i64 (nth d : Int), .int .i64 (m : Int)] 249)) := (Below.refl _ wr).alloc (Nat.le_refl _) _
      generalize wr.alloc (.cells #[.int .i64 (who d : Int), .int .i64 (nth d : Int), .int .i64 (m : Int)] 249) = w4 at *
      have hw4 : WrV w w.heap.size B (l ++ encN rs.length ++ (rs.take i).flatMap encR) (fun _ => False) w4 (.slice xa xn xc) := hwi.stab (Chg.of_below hbw) (fun _ h => h.elim)
      have hx4 : RowsX w (some ⟨g, 0, none⟩) cap rs io co lo N C w4 := hxi.outF (B := B) (OutF.of_below hbw)
      have e0 := (kr.cell 0).trans rfl
      have e1 := (kr.cell 1).trans rfl
      have e2 := (kr.cell 2).trans rfl
      have e3 := (hw4.bk.cell 0).trans rfl
      have hB4 : B ≤ w4.heap.size := Nat.le_trans hB hw4.fr.size
      obtain ⟨lx, hlx⟩ : ∃ lx, lx = l ++ encN rs.length ++ (rs.take i).flatMap encR := ⟨_, rfl⟩
      rw [← hlx] at hw4 hlen
      have hed := encN_len (who d)
      have hen := encN_len (nth d)
      have hld : (lx ++ encD d).length ≤ 30000 := by have := hlen.out; unfold encD; simp only [List.length_append]; omega
      have HD : Hid (∀ wx, wx.heap = w4.heap → wx.os = w4.os → wx.tape = w4.tape → wx.output = w4.output → Calls Tryz.prog 201 #[.slice xa xn xc, .agg #[.int .i64 (who d : Int), .int .i64 (nth d : Int)]] wx fun e w' => ∃ a n k, e = .returned (.slice a n k) ∧ (OutV B w' (.slice a n k) (lx ++ encD d) ∧ OutG (.slice xa xn xc) w4 (.slice a n k) w') ∧ w'.cell? ⟨wr.heap.size, 2, none⟩ = some (.int .i64 (m : Int)) ∧ w'.cell? ⟨w.heap.size, 0, none⟩ = some (.slice xa xn xc) ∧ (∀ j, w'.frozen? ⟨w.heap.size, j, none⟩ = false)) := fun wx hx ho ht hp => by
        have hG0 : OutG (.slice xa xn xc) w4 (.slice xa xn xc) wx := OutG.heap hx ho ht hp
        refine Calls.mono (wdot_loc B wx (.slice xa xn xc) lx d (hw4.row.heap hx) (Nat.le_trans hB4 hG0.chg.size) (by have := hlen.out; omega) hrk.1.1) ?_
        rintro e w' ⟨v', rfl, h1, h2⟩
        obtain ⟨a, n, k, rfl⟩ := h1.shape
        have hG1 := hG0.trans h2
        have kr' := hG1.blk hw4.row kr (by decide)
        have kb' := hG1.blk hw4.row hw4.bk (by decide)
        exact ⟨a, n, k, rfl, ⟨h1, hG1⟩, (kr'.cell 2).trans rfl, (kb'.cell 0).trans rfl, kb'.frozen⟩
      have HM : Hid (∀ wx w5 a n k, (OutV B w5 (.slice a n k) (lx ++ encD d) ∧ OutG (.slice xa xn xc) w4 (.slice a n k) w5) → wx.heap = w5.heap → wx.os = w5.os → wx.tape = w5.tape → wx.output = w5.output → Calls Tryz.prog 199 #[.slice a n k, .int .i64 (m : Int)] wx fun e w' => ∃ a' n' k', e = .returned (.slice a' n' k') ∧ (OutV B w' (.slice a' n' k') (lx ++ encD d ++ encN m) ∧ OutG (.slice xa xn xc) w4 (.slice a' n' k') w') ∧ w'.cell? ⟨w.heap.size, 0, none⟩ = some (.slice xa xn xc) ∧ (∀ j, w'.frozen? ⟨w.heap.size, j, none⟩ = false)) := fun wx w5 a n k h5 hx ho ht hp => by
        have hG0 := h5.2.trans (OutG.heap hx ho ht hp)
        refine Calls.mono (Number_loc B wx (.slice a n k) (lx ++ encD d) m (h5.1.heap hx) (Nat.le_trans hB4 hG0.chg.size) (by omega) (by omega)) ?_
        rintro e w' ⟨v', rfl, h1, h2⟩
        obtain ⟨a', n', k', rfl⟩ := h1.shape
        have hG1 := hG0.trans h2
        have kb' := hG1.blk hw4.row hw4.bk (by decide)
        exact ⟨a', n', k', rfl, ⟨h1, hG1⟩, (kb'.cell 0).trans rfl, kb'.frozen⟩
      have HW4 : Hid (WrV w w.heap.size B lx (fun _ => False) w4 (.slice xa xn xc) ∧ RowsX w (some ⟨g, 0, none⟩) cap rs io co lo N C w4) := ⟨hw4, hx4⟩
      have hen2 : Hid (lx ++ encD d ++ encN m = l ++ encN rs.length ++ (rs.take (i + 1)).flatMap encR) := by unfold Hid; rw [hfl.out, hlx]; unfold encR; simp only [List.append_assoc]
      clear hwi hxi hw4 hx4 kr hbw hc0 hc1 hc2 hlx hlen hfl hed hen hld
      refine wpIn_norm (fun K hK => ?_)
      gi_cut [18] from 45 (fun v18 wx => v18 = .int .i64 (i : Int) ∧ (∃ a n k, WrV w w.heap.size B (l ++ encN rs.length ++ (rs.take (i + 1)).flatMap encR) (fun _ => False) wx (.slice a n k)) ∧ RowsX w (some ⟨g, 0, none⟩) cap rs io co lo N C wx)
      case first =>
        gi_region_with (first | (refine ⟨trivial, CallsIn.mono (callsIn_wide.2 (HM.out _ w5 _ _ _ h5 rfl rfl rfl rfl)) ?_⟩; rintro e w6 ⟨a6, n6, k6, rfl, h6, g0, g1⟩) | (refine ⟨trivial, CallsIn.mono (callsIn_wide.2 (HD.out _ rfl rfl rfl rfl)) ?_⟩; rintro e w5 ⟨a5, n5, k5, rfl, h5, f0, f1, f2⟩))
        all_goals
          gi_wp2_with fail
          gi_meet
          refine ⟨rfl, ⟨a6, n6, k6, ?_⟩, ?_⟩
          · rw [← hen2.out]; exact HW4.out.1.put (fun _ h => h.elim) h6.2 h6.1
          · exact (HW4.out.2.outF (h6.2.outF HW4.out.1.row)).chg0 (h6.2.blk HW4.out.1.row HW4.out.1.bk (by decide)) ((Chg.refl (fun k => k = w.heap.size) _).setCell (p := ⟨w.heap.size, 0, none⟩) rfl _)
      case rest =>
        obtain ⟨rfl, hwc, hxc⟩ := hcut
        have HC : Hid ((∃ a n k, WrV w w.heap.size B (l ++ encN rs.length ++ (rs.take (i + 1)).flatMap encR) (fun _ => False) wc (.slice a n k)) ∧ RowsX w (some ⟨g, 0, none⟩) cap rs io co lo N C wc) := ⟨hwc, hxc⟩
        clear hwc hxc HW4 HD HM
        refine hK _ _ ?_
        gi_wp2_with fail
        gi_roundg (rs.length - (i + 1))
        case measure => omega
        case rel => exact ⟨i + 1, by omega, by go_num, HC.out.1, HC.out.2⟩
    · have e : i = rs.length := by omega
      subst e
      rw [List.take_length] at hwi
      have hlen : (l ++ encN rs.length ++ rs.flatMap encR).length ≤ 20000 := by have := enc_small l rs rs.length hl hrl; rwa [List.take_length] at this
      obtain ⟨lx, hlx⟩ : ∃ lx, lx = l ++ encN rs.length ++ rs.flatMap encR := ⟨_, rfl⟩
      rw [← hlx] at hwi hlen
      have Hlx : Hid (lx = l ++ encN rs.length ++ rs.flatMap encR) := hlx
      have e0 := (hxi.st.cell 0).trans rfl
      have e1 := (hxi.st.cell 1).trans rfl
      have e2 := (hxi.st.cell 2).trans rfl
      have e3 := (hwi.bk.cell 0).trans rfl
      have hBr : B ≤ wr.heap.size := Nat.le_trans hB hwi.fr.size
      have HI : Hid (∀ wx, wx.heap = wr.heap → wx.os = wr.os → wx.tape = wr.tape → wx.output = wr.output → Calls Tryz.prog 202 #[.agg #[.map io, .map co, .map lo]] wx fun e w' => e = .returned (.int .i64 (N : Int)) ∧ (OutV B w' (.slice xa xn xc) lx ∧ OutG (.slice xa xn xc) wr (.slice xa xn xc) w') ∧ w'.cell? ⟨w.heap.size, 0, none⟩ = some (.slice xa xn xc) ∧ (∀ j, w'.frozen? ⟨w.heap.size, j, none⟩ = false)) := fun wx hx ho ht hp => by
        have hG0 : OutG (.slice xa xn xc) wr (.slice xa xn xc) wx := OutG.heap hx ho ht hp
        refine Calls.mono (sItems_any wx io co lo N (im (itOf C)) (hxi.mp.outF (hG0.outF hwi.row))) ?_
        rintro e w' ⟨rfl, hb⟩
        have hG1 := hG0.trans (OutG.of_below hb)
        have kb' := hG1.blk hwi.row hwi.bk (by decide)
        exact ⟨rfl, ⟨own_below (hwi.row.heap hx) hb, hG1⟩, (kb'.cell 0).trans rfl, kb'.frozen⟩
      have HM : Hid (∀ wx w5, (OutV B w5 (.slice xa xn xc) lx ∧ OutG (.slice xa xn xc) wr (.slice xa xn xc) w5) → wx.heap = w5.heap → wx.os = w5.os → wx.tape = w5.tape → wx.output = w5.output → Calls Tryz.prog 199 #[.slice xa xn xc, .int .i64 (N : Int)] wx fun e w' => ∃ a' n' k', e = .returned (.slice a' n' k') ∧ (OutV B w' (.slice a' n' k') (lx ++ encN N) ∧ OutG (.slice xa xn xc) wr (.slice a' n' k') w') ∧ w'.cell? ⟨w.heap.size, 0, none⟩ = some (.slice xa xn xc) ∧ (∀ j, w'.frozen? ⟨w.heap.size, j, none⟩ = false)) := fun wx w5 h5 hx ho ht hp => by
        have hG0 := h5.2.trans (OutG.heap hx ho ht hp)
        have hrow : OutV B wx (.slice xa xn xc) lx := h5.1.heap hx
        refine Calls.mono (Number_loc B wx (.slice xa xn xc) lx N hrow (Nat.le_trans hBr hG0.chg.size) (by omega) (by omega)) ?_
        rintro e w' ⟨v', rfl, h1, h2⟩
        obtain ⟨a', n', k', rfl⟩ := h1.shape
        have hG1 := hG0.trans h2
        have kb' := hG1.blk hwi.row hwi.bk (by decide)
        exact ⟨a', n', k', rfl, ⟨h1, hG1⟩, (kb'.cell 0).trans rfl, kb'.frozen⟩
      have HW : Hid (WrV w w.heap.size B lx (fun _ => False) wr (.slice xa xn xc) ∧ RowsX w ao cap rs io co lo N C wr) := ⟨hwi, hxi⟩
      clear hwi hxi hlx
      gi_wp2_with fail
      refine wpIn_norm (fun K hK => ?_)
      gi_cut [18] from 45 (fun v18 wx => (∃ a n k, WrV w w.heap.size B (lx ++ encN N) (fun _ => False) wx (.slice a n k)) ∧ RowsX w ao cap rs io co lo N C wx)
      case first =>
        gi_region_with (first | (refine ⟨trivial, CallsIn.mono (callsIn_wide.2 (HM.out _ w5 h5 rfl rfl rfl rfl)) ?_⟩; rintro e w6 ⟨a6, n6, k6, rfl, h6, g0, g1⟩) | (refine ⟨trivial, CallsIn.mono (callsIn_wide.2 (HI.out _ rfl rfl rfl rfl)) ?_⟩; rintro e w5 ⟨rfl, h5, f0, f1⟩))
        all_goals
          gi_wp2_with fail
          gi_meet
          refine ⟨⟨a6, n6, k6, ?_⟩, ?_⟩
          · exact HW.out.1.put (fun _ h => h.elim) h6.2 h6.1
          · exact (HW.out.2.outF (h6.2.outF HW.out.1.row)).chg0 (h6.2.blk HW.out.1.row HW.out.1.bk (by decide)) ((Chg.refl (fun k => k = w.heap.size) _).setCell (p := ⟨w.heap.size, 0, none⟩) rfl _)
      case rest =>
        obtain ⟨⟨ya, yn, yc, hwc⟩, hxc⟩ := hcut
        have HC : Hid (WrV w w.heap.size B (lx ++ encN N) (fun _ => False) wc (.slice ya yn yc) ∧ RowsX w ao cap rs io co lo N C wc) := ⟨hwc, hxc⟩
        clear hwc hxc HW HI HM e0 e1 e2 e3
        refine hK _ _ ?_
        have e0 := (HC.out.2.st.cell 0).trans rfl
        have e1 := (HC.out.2.st.cell 1).trans rfl
        have e2 := (HC.out.2.st.cell 2).trans rfl
        gi_wp2_with fail
        refine ⟨trivial, (callsIn_wide.2 (HAll.out _)).mono ?_⟩
        rintro e w4 ⟨rfl, rfl⟩
        gi_wp2_with fail
        have hbw : Below wc.heap.size wc (wc.alloc (.cells #[.map io, .map co, .map lo] 106)) := (Below.refl _ wc).alloc (Nat.le_refl _) _
        have ks : Blk (wc.alloc (.cells #[.map io, .map co, .map lo] 106)) wc.heap.size #[.map io, .map co, .map lo] 106 := Blk.new wc _ _
        generalize wc.alloc (.cells #[.map io, .map co, .map lo] 106) = w5 at *
        have hw5 : WrV w w.heap.size B (lx ++ encN N) (fun _ => False) w5 (.slice ya yn yc) := HC.out.1.stab (Chg.of_below hbw) (fun _ h => h.elim)
        have hmp5 := HC.out.2.mp.below hbw
        have hIt : Iter Tryz.prog 165 #[.pointer (some ⟨wc.heap.size, 0, none⟩)] (fun x : Itm => #[dotE x.n, Value.agg #[.string x.p, .int .u8 x.a, .string x.v, .int .i64 x.m]]) (SAll (itOf C)) (fun k => k = wc.heap.size ∨ io = some k) w5 := All1_iter w5 wc.heap.size io co lo (itOf C) N ks hmp5 (fun k hk => Hok.out k (itOf_none.1 hk)) (fun k v h => itOf_item h)
        have hiol : ∀ k, io = some k → k < wc.heap.size := fun k hk => by
          rcases HC.out.2.mp with ⟨h1, _⟩ | ⟨b, h1, h2⟩
          · rw [hk] at h1; cases h1
          · rw [hk] at h1; cases h1; exact h2.lt
        have hs5 : wc.heap.size < w5.heap.size := ks.lt
        refine range_iter (gf := 165) (lb := #[.pointer (some ⟨wc.heap.size, 0, none⟩)]) rfl (enters_of Tryz.func165 (by kernel_rfl) rfl) hIt (KeepT.refl _ _) (fun k hk => by rcases hk with rfl | hk; exact hs5; have := hiol k hk; omega) (fun _ => rfl)
          (fun T pre W => ∃ a n k, WrV w w.heap.size B (lx ++ encN N ++ (wIt C pre).flatMap encI) T W (.slice a n k)) (fun _ _ _ _ => False)
          (fun T T' pre W W' h hc hT => by obtain ⟨a, n, k, h⟩ := h; exact ⟨a, n, k, h.stab hc hT⟩) (fun _ _ _ _ _ _ h _ _ => h)
          ⟨_, _, _, by simpa [wIt] using hw5⟩ ?round ?done ?stop
        case round =>
          rintro lr T pre x W hTl hT ⟨za, zn, zc, hW⟩ hEW ⟨ys, hys, hpre⟩
          have hxy : x ∈ ys := hpre.subset (by simp)
          obtain ⟨cx, hcx, hveq⟩ := itOf_v (hys.2 x hxy)
          obtain ⟨hact, hnn, hpl, hvl, htl⟩ := Hch.out _ _ hcx
          have Hsn : Hid ((wIt C (pre ++ [x])).flatMap encI = (wIt C pre).flatMap encI ++ encI (x.n, txtC cx)) := by unfold Hid wIt; simp [hcx]
          have hpl2 : pre.length ≤ 500 := by
            have h1 := all_len hmp5 hys
            have h2 := hpre.length_le
            rw [List.length_append] at h2
            omega
          have hsm : (lx ++ encN N ++ (wIt C pre).flatMap encI).length ≤ 600000 := by
            have h1 := items_small C (fun k c hc => (Hch.out k c hc).2.2.2.2) pre
            have h2 := encN_len N
            simp only [List.length_append]
            omega
          obtain ⟨xn, xp, xa', xv, xm⟩ := x
          simp only [chV, Value.agg.injEq] at hveq
          simp at hveq
          obtain ⟨rfl, rfl, rfl, rfl⟩ := hveq
          simp only at hcx Hsn
          have hxo : okD xn := Hok.out xn (by rw [hcx]; simp)
          gi_wp2
          have hsW : wc.heap.size < W.heap.size := by have := hEW.1; omega
          refine ⟨⟨by simp; omega, fun k hk => ?_⟩, ?_⟩
          · refine (((Below.refl W.heap.size W).alloc (Nat.le_refl _) _).alloc (by simp) _).block k (hk.elim (fun h => ?_) (fun h => (hT k h).2))
            rcases h with rfl | h
            · omega
            · have := hiol k h; omega
          intro W2 hc2 hs2 hE2
          have hTs : ∀ k, T k → k < W2.heap.size := fun k hk => by rw [hs2]; have := (hT k hk).2; simp; omega
          have hchW : Chg T W W2 := (Chg.of_below ((((Below.refl W.heap.size W).alloc (Nat.le_refl _) _).alloc (by simp) _))).trans hc2
          have hW2 := hW.stab hchW (fun k hk => ⟨Or.inl hk, hTs k hk⟩)
          have kd : Blk W2 W.heap.size #[.int .i64 (who xn : Int), .int .i64 (nth xn : Int)] 121 := ((Blk.new W _ _).alloc _).chg hc2 (fun hk => by have := (hT _ hk).2; omega)
          have ke : Blk W2 (W.heap.size + 1) #[.string ⟨cx.path.toArray⟩, .int .u8 (cx.act.toNat : Int), .string (keptVal cx.act ⟨cx.val.toArray⟩), .int .i64 cx.n] 81 := by
            have := Blk.new (W.alloc (.cells #[.int .i64 (who xn : Int), .int .i64 (nth xn : Int)] 121)) #[.string ⟨cx.path.toArray⟩, .int .u8 (cx.act.toNat : Int), .string (keptVal cx.act ⟨cx.val.toArray⟩), .int .i64 cx.n] 81
            rw [World.size_alloc] at this
            exact this.chg hc2 (fun hk => by have := (hT _ hk).2; omega)
          obtain ⟨ly, hly⟩ : ∃ ly, ly = lx ++ encN N ++ (wIt C pre).flatMap encI := ⟨_, rfl⟩
          rw [← hly] at hsm hW2
          have hB2 : B ≤ W2.heap.size := Nat.le_trans hB hW2.fr.size
          have d0 := (kd.cell 0).trans rfl
          have d1 := (kd.cell 1).trans rfl
          have a0 := (ke.cell 0).trans rfl
          have a1 := (ke.cell 1).trans rfl
          have a2 := (ke.cell 2).trans rfl
          have a3 := (ke.cell 3).trans rfl
          have c0 := (hW2.bk.cell 0).trans rfl
          have hed := encN_len (who xn)
          have hen := encN_len (nth xn)
          have hld : (ly ++ encD xn).length ≤ 700000 := by unfold encD; simp only [List.length_append]; omega
          have HD : Hid (∀ wx, wx.heap = W2.heap → wx.os = W2.os → wx.tape = W2.tape → wx.output = W2.output → Calls Tryz.prog 201 #[.slice za zn zc, .agg #[.int .i64 (who xn : Int), .int .i64 (nth xn : Int)]] wx fun e w' => ∃ a n k, e = .returned (.slice a n k) ∧ (OutV B w' (.slice a n k) (ly ++ encD xn) ∧ OutG (.slice za zn zc) W2 (.slice a n k) w') ∧ w'.cell? ⟨W.heap.size + 1, 0, none⟩ = some (.string ⟨cx.path.toArray⟩) ∧ w'.cell? ⟨W.heap.size + 1, 1, none⟩ = some (.int .u8 (cx.act.toNat : Int)) ∧ w'.cell? ⟨W.heap.size + 1, 2, none⟩ = some (.string (keptVal cx.act ⟨cx.val.toArray⟩)) ∧ w'.cell? ⟨W.heap.size + 1, 3, none⟩ = some (.int .i64 cx.n)) := fun wx hx ho ht hp => by
            have hG0 : OutG (.slice za zn zc) W2 (.slice za zn zc) wx := OutG.heap hx ho ht hp
            refine Calls.mono (wdot_loc B wx (.slice za zn zc) ly xn (hW2.row.heap hx) (Nat.le_trans hB2 hG0.chg.size) (by omega) hxo.1) ?_
            rintro e w' ⟨v', rfl, h1, h2⟩
            obtain ⟨a, n, k, rfl⟩ := h1.shape
            have hG1 := hG0.trans h2
            have ke' := hG1.blk hW2.row ke (by decide)
            exact ⟨a, n, k, rfl, ⟨h1, hG1⟩, (ke'.cell 0).trans rfl, (ke'.cell 1).trans rfl, (ke'.cell 2).trans rfl, (ke'.cell 3).trans rfl⟩
          have HX : Hid (∀ wx w5 a n k, (OutV B w5 (.slice a n k) (ly ++ encD xn) ∧ OutG (.slice za zn zc) W2 (.slice a n k) w5) → wx.heap = w5.heap → wx.os = w5.os → wx.tape = w5.tape → wx.output = w5.output → Calls Tryz.prog 204 #[.agg #[.string ⟨cx.path.toArray⟩, .int .u8 (cx.act.toNat : Int), .string (keptVal cx.act ⟨cx.val.toArray⟩), .int .i64 cx.n]] wx fun e w' => ∃ s, e = .returned (.string s) ∧ (toL s = txtC cx ∧ OutV B w' (.slice a n k) (ly ++ encD xn) ∧ OutG (.slice za zn zc) W2 (.slice a n k) w')) := fun wx w5 a n k h5 hx ho ht hp => by
            have hG0 := h5.2.trans (OutG.heap hx ho ht hp)
            have hGl := HG.out wx (hW2.fr.trans (hG0.outF hW2.row))
            refine Calls.mono (Text_any wx hGl ⟨cx.path.toArray⟩ (keptVal cx.act ⟨cx.val.toArray⟩) cx.act cx.n hact hnn (by show cx.path.toArray.size ≤ _; simpa using hpl) hvl) ?_
            rintro e w' ⟨sx, rfl, h1, hb⟩
            exact ⟨sx, rfl, h1, own_below (h5.1.heap hx) hb, hG0.trans (OutG.of_below hb)⟩
          have HY : Hid (∀ wx w6 a n k sx, (toL sx = txtC cx ∧ OutV B w6 (.slice a n k) (ly ++ encD xn) ∧ OutG (.slice za zn zc) W2 (.slice a n k) w6) → wx.heap = w6.heap → wx.os = w6.os → wx.tape = w6.tape → wx.output = w6.output → Calls Tryz.prog 203 #[.slice a n k, .string sx] wx fun e w' => ∃ a' n' k', e = .returned (.slice a' n' k') ∧ (OutV B w' (.slice a' n' k') (ly ++ encI (xn, txtC cx)) ∧ OutG (.slice za zn zc) W2 (.slice a' n' k') w') ∧ w'.cell? ⟨w.heap.size, 0, none⟩ = some (.slice za zn zc) ∧ (∀ j, w'.frozen? ⟨w.heap.size, j, none⟩ = false)) := fun wx w6 a n k sx h6 hx ho ht hp => by
            have hG0 := h6.2.2.trans (OutG.heap hx ho ht hp)
            have hsl : sx.size = (txtC cx).length := by rw [← h6.1]; unfold toL; simp
            refine Calls.mono (wText_loc B wx (.slice a n k) (ly ++ encD xn) sx (h6.2.1.heap hx) (Nat.le_trans hB2 hG0.chg.size) (by omega) (by omega)) ?_
            rintro e w' ⟨v', rfl, h1, h2⟩
            obtain ⟨a', n', k', rfl⟩ := h1.shape
            have hG1 := hG0.trans h2
            have kb' := hG1.blk hW2.row hW2.bk (by decide)
            have he : ly ++ encD xn ++ encN sx.size ++ toL sx = ly ++ encI (xn, txtC cx) := by unfold encI; rw [hsl, h6.1]; simp only [List.append_assoc]
            rw [he] at h1
            exact ⟨a', n', k', rfl, ⟨h1, hG1⟩, (kb'.cell 0).trans rfl, kb'.frozen⟩
          have HE : Hid (∀ k, (k = wc.heap.size ∨ io = some k) → k < W2.heap.size ∧ k ≠ w.heap.size ∧ (Value.slice za zn zc).ownBlock ≠ some k) := fun k hk => by
            have hkl : k < w5.heap.size := by rcases hk with rfl | h; exact hs5; have := hiol k h; omega
            have e1 : W2.heap[k]? = w5.heap[k]? := hE2.2 k hk
            have hnu : ∀ t, (∀ cur fz, w5.heap[k]? ≠ some (.cells cur t fz)) → ∀ cur fz, W2.heap[k]? ≠ some (.cells cur t fz) := fun t h cur fz e => h cur fz (e1 ▸ e)
            have hno : ∀ t, t ≠ 106 → ∀ cur fz, w5.heap[k]? ≠ some (.cells cur t fz) := fun t ht cur fz e => by
              rcases hk with rfl | h
              · rw [show w5.heap[wc.heap.size]? = _ from ks] at e; cases e; exact ht rfl
              · rcases hmp5 with ⟨h1, _⟩ | ⟨b, h1, h2⟩
                · rw [h] at h1; cases h1
                · rw [h] at h1; cases h1; exact h2.noTag e
            refine ⟨Nat.lt_of_lt_of_le hkl hE2.1, fun e => ?_, ownsRow_ne hW2.row (hnu _ (hno _ (by decide)))⟩
            have := hnu _ (hno 88 (by decide)) _ _ (e ▸ hW2.bk)
            exact this
          have HW2 : Hid (WrV w w.heap.size B ly T W2 (.slice za zn zc)) := hW2
          have Hly : Hid (ly ++ encI (xn, txtC cx) = lx ++ encN N ++ (wIt C (pre ++ [⟨xn, ⟨cx.path.toArray⟩, cx.act.toNat, keptVal cx.act ⟨cx.val.toArray⟩, cx.n⟩])).flatMap encI) := by unfold Hid; rw [Hsn.out, hly]; simp only [List.append_assoc]
          have HTs : Hid (∀ k, T k → k < W2.heap.size) := hTs
          clear hW hW2 kd ke hchW hc2 hs2 hE2 hEW hly hT hact hnn hpl hvl htl hed hen hld hIt hw5 hmp5 hTs
          gi_wp2_with fail
          gi_region_with (first | (refine ⟨trivial, CallsIn.inRound lr (CallsIn.mono (callsIn_wide.2 (HY.out _ w7 _ _ _ _ h7 rfl rfl rfl rfl)) ?_)⟩; rintro e w8 ⟨a8, n8, k8, rfl, h8, g0, g1⟩) | (refine ⟨trivial, CallsIn.inRound lr (CallsIn.mono (callsIn_wide.2 (HX.out _ w6 _ _ _ h6 rfl rfl rfl rfl)) ?_)⟩; rintro e w7 ⟨s7, rfl, h7⟩) | (refine ⟨trivial, CallsIn.inRound lr (CallsIn.mono (callsIn_wide.2 (HD.out _ rfl rfl rfl rfl)) ?_)⟩; rintro e w6 ⟨a6, n6, k6, rfl, h6, f0, f1, f2, f3⟩))
          all_goals
            gi_wp2_with fail
            refine ⟨⟨a8, n8, k8, ?_⟩, ?_⟩
            · rw [← Hly.out]; exact HW2.out.put HTs.out h8.2 h8.1
            · exact HW2.out.keep HTs.out HE.out h8.2 h8.1
        case done =>
          rintro D T xs W hD hTD hS' ⟨za, zn, zc, hW⟩ hT hK2
          have hxl : xs.length = N := all_len hmp5 hS'
          have c0 := (hW.bk.cell 0).trans rfl
          have HW : Hid (WrV w w.heap.size B (lx ++ encN N ++ (wIt C xs).flatMap encI) T W (.slice za zn zc)) := hW
          clear hW hIt hw5 hmp5
          gi_wp2_with fail
          refine ⟨by simp, .inl ⟨_, _, rfl, run_takeDeferred hK2, ?_⟩⟩
          have hfin := HW.out.stab (T' := T) (chg_putObj W D (.deferred none) hTD) (fun k hk => ⟨Or.inl hk, by rw [size_putObj]; exact (hT k hk).2⟩)
          have he : lx ++ encN N ++ (wIt C xs).flatMap encI = l ++ encS rs (wIt C xs) := by
            have hwl : (wIt C xs).length = N := by unfold wIt; rw [List.length_map]; exact hxl
            unfold encS
            rw [hwl, Hlx.out]
            simp only [List.append_assoc]
          rw [he] at hfin
          exact ⟨_, results_tmp rfl _ _ _, .slice za zn zc, ns, rs, xs, rfl, Hnr.out.1, Hnr.out.2.1, Hnr.out.2.2, hS', hfin.row, hfin.fr⟩
        case stop =>
          rintro D T c pre W _ _ h
          exact h.elim
end Go.Proofs.YtoiiaankpnhppaaGreatDoor
namespace Go.Proofs.YtoiiaankpnhppaaGreatDoor
open Go.RowKit Go.Maps Go.WideMaps Go.Shelf

theorem toL_nums (l : Thk.Bs) : toL (strOfNums (l.map fun b => (b.toNat : Int))) = l := by
  unfold toL strOfNums
  simp [List.map_map, Function.comp_def]
theorem conv_out {B : Nat} {w : World} {v : Value} {l : Thk.Bs} (h : OutV B w v l) (hl : l ≠ []) : (convert 88 9 v).run Tryz.prog w = .ok (.string (strOfNums (l.map fun b => (b.toNat : Int)))) w := by
  have hcl := fun g (hg : v.ownBlock = some g) => h.cells hg
  rcases h.2 with ⟨rfl, h2⟩ | ⟨g, cap, cur, rfl, _⟩
  · exact absurd (List.eq_nil_of_length_eq_zero h2) hl
  · refine run_convert_bytes_arg (P := Tryz.prog) _ 88 5 Tryz.underlying88 Tryz.underlying5 g 0 l.length cap _ (by simp) ?_ 9 Tryz.underlying9
    intro i hi
    have := hcl g rfl i (.int .u8 (l[i].toNat : Int)) (by unfold bsV; simp [hi])
    rw [addr0] at this
    rw [Nat.zero_add, this]
    simp [hi]
theorem encN_ne (n : Nat) (l : Thk.Bs) : encN n ++ l ≠ [] := fun h => by
  have h1 := encN_len n
  have h2 := congrArg List.length h
  rw [List.length_append] at h2
  simp at h2
  rw [h2.1] at h1
  simp at h1

set_option maxHeartbeats 4000000 in
set_option maxRecDepth 100000 in
theorem Bytes_ack (w : World) (a : Nat) (ha : a ≤ 5) (io co lo : Option Nat) :
    Calls Tryz.prog 99 #[.agg #[.int .i64 (a : Int), .bool true, .map io, .map co, .map lo]] w fun e w' => ∃ s, e = .returned (.string s) ∧ toL s = encA a ∧ Below w.heap.size w w' := by
  have HA : Hid (∀ ob, Calls Tryz.prog 146 #[.agg #[.int .i64 (a : Int), .bool true, .map io, .map co, .map lo], .int .i64 1] (w.alloc ob) fun e w' => ∃ va n k, e = .returned (.slice va n k) ∧ (convert 88 9 (.slice va n k)).run Tryz.prog w' = .ok (.string (strOfNums ((encN 1 ++ encN a).map fun b => (b.toNat : Int)))) w' ∧ Below w.heap.size w w') := fun ob => by
    refine Calls.mono (ahead_any (w.alloc ob) a 1 true _ _ _ ha (by omega)) ?_
    rintro e w' ⟨v', rfl, h1, h2⟩
    obtain ⟨va, n, k, rfl⟩ := h1.shape
    have hb : Below w.heap.size w (w.alloc ob) := (Below.refl _ w).alloc (Nat.le_refl _) _
    exact ⟨va, n, k, rfl, conv_out h1 (encN_ne _ _), hb.trans ((h2.below (Nat.le_refl _)).mono hb.size)⟩
  go_enter Tryz.func99, Tryz.ntmps99
  go_wp2_with fail
  refine Calls.mono (HA.out _) ?_
  rintro e w2 ⟨va, n, k, rfl, hcv, hb⟩
  go_wp2_with fail
  go_ret
  exact ⟨_, rfl, by rw [← List.map_append, toL_nums]; rfl, hb⟩

set_option maxHeartbeats 4000000 in
set_option maxRecDepth 100000 in
theorem Bytes_brings (w : World) (hG : Glob w) (a : Nat) (ha : a ≤ 5) (io co lo : Option Nat) (c : Nat → Nat) (L : Nat → Bool) (C : Nat → Option Thk.Ch) (N : Nat)
    (hctx : CtxV w (.map co) (.map lo) c L) (hits : MapO Tryz.prog 121 w (.map io) N (im (itOf C))) (hok : ∀ k, C k ≠ none → okD k) (hN : N ≤ 500)
    (hns : ∀ ns : List Nat, ns.Nodup → (∀ d, d ∈ ns ↔ 1 ≤ nth d ∧ inK c L d) → ns.length ≤ 500)
    (hch : ∀ k c, C k = some c → (c.act = 43 ∨ c.act = 94 ∨ c.act = 61 ∨ c.act = 62) ∧ (-9223372036854775808 ≤ c.n ∧ c.n ≤ 9223372036854775807) ∧ c.path.length ≤ 1048576 ∧ (keptVal c.act ⟨c.val.toArray⟩).size ≤ 1048576 ∧ (txtC c).length ≤ 1000) :
    Calls Tryz.prog 99 #[.agg #[.int .i64 (a : Int), .bool false, .map io, .map co, .map lo]] w fun e w' => ∃ s ns rs xs, e = .returned (.string s) ∧ ns.Nodup ∧ (∀ d, d ∈ ns ↔ 1 ≤ nth d ∧ inK c L d) ∧ Runs ns ns.length rs ∧ SAll (itOf C) xs ∧ toL s = encF a rs (wIt C xs) ∧ Below w.heap.size w w' := by
  have h3w := hG.size
  obtain ⟨w0, hw0⟩ : ∃ w0, w0 = w.alloc (.cells #[.int .i64 (a : Int), .bool false, .map io, .map co, .map lo] 108) := ⟨_, rfl⟩
  have hb0 : Below w.heap.size w w0 := by rw [hw0]; exact (Below.refl _ w).alloc (Nat.le_refl _) _
  have kb : Blk w0 w.heap.size #[.int .i64 (a : Int), .bool false, .map io, .map co, .map lo] 108 := by rw [hw0]; exact Blk.new w _ _
  have c0 := (kb.cell 0).trans rfl
  have c1 := (kb.cell 1).trans rfl
  have c2 := (kb.cell 2).trans rfl
  have c3 := (kb.cell 3).trans rfl
  have c4 := (kb.cell 4).trans rfl
  have hen := encN_len 0
  have hea := encN_len a
  have HA : Hid (∀ wx, wx.heap = w0.heap → wx.os = w0.os → wx.tape = w0.tape → wx.output = w0.output → Calls Tryz.prog 146 #[.agg #[.int .i64 (a : Int), .bool false, .map io, .map co, .map lo], .int .i64 0] wx fun e w' => ∃ va n k, e = .returned (.slice va n k) ∧ (OutV w.heap.size w' (.slice va n k) (encN 0 ++ encN a) ∧ Below w.heap.size w w') ∧ w'.cell? ⟨w.heap.size, 2, none⟩ = some (.map io) ∧ w'.cell? ⟨w.heap.size, 3, none⟩ = some (.map co) ∧ w'.cell? ⟨w.heap.size, 4, none⟩ = some (.map lo)) := fun wx hx ho ht hp => by
    refine Calls.mono (ahead_any wx a 0 false _ _ _ ha (by omega)) ?_
    rintro e w' ⟨v', rfl, h1, h2⟩
    obtain ⟨va, n, k, rfl⟩ := h1.shape
    have hbx : Below w.heap.size w wx := ⟨ho.trans hb0.os, ht.trans hb0.tape, hp.trans hb0.output, by rw [hx]; exact hb0.size, fun k hk => by rw [hx]; exact hb0.block k hk⟩
    have h3 := h2.below (Nat.le_refl _)
    have kx : Blk wx w.heap.size #[.int .i64 (a : Int), .bool false, .map io, .map co, .map lo] 108 := by unfold Blk; rw [hx]; exact kb
    have k' := kx.below h3
    exact ⟨va, n, k, rfl, ⟨own_base h1 hbx.size, hbx.trans (h3.mono hbx.size)⟩, (k'.cell 2).trans rfl, (k'.cell 3).trans rfl, (k'.cell 4).trans rfl⟩
  have HS : Hid (∀ wx w5 va n k, (OutV w.heap.size w5 (.slice va n k) (encN 0 ++ encN a) ∧ Below w.heap.size w w5) → wx.heap = w5.heap → wx.os = w5.os → wx.tape = w5.tape → wx.output = w5.output → Calls Tryz.prog 147 #[.slice va n k, .agg #[.map io, .map co, .map lo]] wx fun e w' => ∃ va' n' k' s, e = .returned (.slice va' n' k') ∧ (convert 88 9 (.slice va' n' k')).run Tryz.prog w' = .ok (.string s) w' ∧ (∃ ns rs xs, ns.Nodup ∧ (∀ d, d ∈ ns ↔ 1 ≤ nth d ∧ inK c L d) ∧ Runs ns ns.length rs ∧ SAll (itOf C) xs ∧ toL s = encF a rs (wIt C xs) ∧ Below w.heap.size w w')) := fun wx w5 va n k h5 hx ho ht hp => by
    have hbx : Below w.heap.size w wx := ⟨ho.trans h5.2.os, ht.trans h5.2.tape, hp.trans h5.2.output, by rw [hx]; exact h5.2.size, fun k hk => by rw [hx]; exact h5.2.block k hk⟩
    refine Calls.mono (wStore_any wx (hG.mono hbx) w.heap.size h3w (.slice va n k) (encN 0 ++ encN a) (h5.1.heap hx) hbx.size (by rw [List.length_append]; omega) io co lo c L C N (hctx.below hbx) (hits.below hbx) hok hN hns hch) ?_
    rintro e w' ⟨v', ns, rs, xs, rfl, h1, h2, h3, h4, h6, h7⟩
    obtain ⟨va', n', k', rfl⟩ := h6.shape
    refine ⟨va', n', k', _, rfl, conv_out h6 (by rw [List.append_assoc]; exact encN_ne _ _), ns, rs, xs, h1, h2, h3, h4, by rw [toL_nums]; rfl, hbx.trans (h7.below hbx.size)⟩
  have Hw0 : Hid (w0 = w.alloc (.cells #[.int .i64 (a : Int), .bool false, .map io, .map co, .map lo] 108)) := hw0
  clear hG hctx hits hok hns hch hb0 kb hw0 hen hea
  go_enter Tryz.func99, Tryz.ntmps99
  go_wp2_with fail
  rw [← Hw0.out]
  go_region_with (first | (refine Calls.mono (HS.out _ w5 _ _ _ h5 rfl rfl rfl rfl) ?_; rintro e w6 ⟨va6, n6, k6, s6, rfl, hcv, h6⟩) | (refine Calls.mono (HA.out _ rfl rfl rfl rfl) ?_; rintro e w5 ⟨va5, n5, k5, rfl, h5, f2, f3, f4⟩))
  all_goals
    go_wp2_with fail
    go_ret
    obtain ⟨ns, rs, xs, h7⟩ := h6
    exact ⟨s6, ns, rs, xs, rfl, h7⟩
end Go.Proofs.YtoiiaankpnhppaaGreatDoor
namespace Go.Proofs.YtoiiaankpnhppaaGreatDoor
open Go.RowKit Go.Maps Go.WideMaps

def maxK (K1 K2 : Nat → Nat) : Nat → Nat := fun x => max (K1 x) (K2 x)
open Classical in
noncomputable def joinC (K1 : Nat → Nat) (C1 : Nat → Option Thk.Ch) (K2 : Nat → Nat) (C2 : Nat → Option Thk.Ch) : Nat → Option Thk.Ch := fun d =>
  if (C1 d = none ∧ nth d ≤ K1 (who d)) ∨ (C2 d = none ∧ nth d ≤ K2 (who d)) then none else (C1 d).or (C2 d)

theorem join_math {K1 K2 : Nat → Nat} {C1 C2 : Nat → Option Thk.Ch} {s1 s2 : StD} {It : Nat → Option Value}
    (same : ∀ d c c', C1 d = some c → C2 d = some c' → c = c')
    (e1 : s1.S = fun k => nth k ≤ K1 (who k)) (i1 : s1.It = itOf C1) (e2 : ∀ k, 1 ≤ nth k → (s2.S k ↔ nth k ≤ K2 (who k))) (i2 : s2.It = itOf C2) (h1 : ∀ k, C1 k ≠ none → 1 ≤ nth k) (h2 : ∀ k, C2 k ≠ none → 1 ≤ nth k)
    (ok : ∀ k, It k ≠ none → 1 ≤ nth k)
    (p1 : ∀ k v, It k = some v → (∃ s ∈ [s1, s2], s.It k = some v) ∧ ¬ goneAt [s1, s2] k) (p2 : ∀ k, (∃ s ∈ [s1, s2], s.It k ≠ none) → ¬ goneAt [s1, s2] k → It k ≠ none) :
    It = itOf (joinC K1 C1 K2 C2) ∧ ∀ k, 1 ≤ nth k → ((∃ s ∈ [s1, s2], s.S k) ↔ nth k ≤ maxK K1 K2 (who k)) := by
  have hex : ∀ (Q : StD → Prop), (∃ s ∈ [s1, s2], Q s) ↔ Q s1 ∨ Q s2 := fun Q => by simp
  have hgone : ∀ k, 1 ≤ nth k → (goneAt [s1, s2] k ↔ (C1 k = none ∧ nth k ≤ K1 (who k)) ∨ (C2 k = none ∧ nth k ≤ K2 (who k))) := fun k hk => by
    unfold goneAt
    rw [hex, e2 k hk]
    simp only [e1, i1, i2, itOf, Option.map_eq_none_iff]
  have hsome : ∀ k v, (∃ s ∈ [s1, s2], s.It k = some v) ↔ itOf C1 k = some v ∨ itOf C2 k = some v := fun k v => by rw [hex, i1, i2]
  constructor
  · funext k
    by_cases hk : 1 ≤ nth k
    · by_cases hg : goneAt [s1, s2] k
      · have : itOf (joinC K1 C1 K2 C2) k = none := by unfold itOf joinC; rw [if_pos ((hgone k hk).1 hg)]; rfl
        rw [this]
        cases hv : It k with
        | none => rfl
        | some v => exact absurd hg (p1 k v hv).2
      · have hj : joinC K1 C1 K2 C2 k = (C1 k).or (C2 k) := by unfold joinC; rw [if_neg (fun h => hg ((hgone k hk).2 h))]
        unfold itOf
        rw [hj]
        cases hv : It k with
        | some v =>
          rcases (hsome k v).1 (p1 k v hv).1 with h | h
          · obtain ⟨c, hc, rfl⟩ := itOf_v h
            rw [hc]; rfl
          · obtain ⟨c, hc, rfl⟩ := itOf_v h
            cases h1c : C1 k with
            | none => rw [hc]; rfl
            | some c1 => rw [same k c1 c h1c hc]; rfl
        | none =>
          have hno : ¬ ∃ s ∈ [s1, s2], s.It k ≠ none := fun h => absurd hv (p2 k h hg)
          rw [hex, i1, i2] at hno
          have a1 : C1 k = none := by
            cases h : C1 k with
            | none => rfl
            | some c => exact absurd (Or.inl (by unfold itOf; rw [h]; simp)) hno
          have a2 : C2 k = none := by
            cases h : C2 k with
            | none => rfl
            | some c => exact absurd (Or.inr (by unfold itOf; rw [h]; simp)) hno
          rw [a1, a2]; rfl
    · have a1 : C1 k = none := by
        cases h : C1 k with
        | none => rfl
        | some c => exact absurd (h1 k (by rw [h]; simp)) hk
      have a2 : C2 k = none := by
        cases h : C2 k with
        | none => rfl
        | some c => exact absurd (h2 k (by rw [h]; simp)) hk
      have hv : It k = none := by
        cases hv : It k with
        | none => rfl
        | some v => exact absurd (ok k (by rw [hv]; simp)) hk
      rw [hv]
      unfold itOf joinC
      rw [a1, a2]
      split <;> rfl
  · intro k hk
    rw [hex, e2 k hk]
    simp only [e1, maxK]
    omega

theorem joinC_path {K1 K2 : Nat → Nat} {C1 C2 : Nat → Option Thk.Ch} {P : Thk.Ch → Prop} (h1 : ∀ k c, C1 k = some c → P c) (h2 : ∀ k c, C2 k = some c → P c) (k : Nat) (c : Thk.Ch) (h : joinC K1 C1 K2 C2 k = some c) : P c := by
  unfold joinC at h
  split at h
  · cases h
  · cases hc : C1 k with
    | none => rw [hc] at h; exact h2 k c h
    | some c1 => rw [hc] at h; cases h; exact h1 k _ hc

set_option maxHeartbeats 2000000 in
theorem receive_join {w wz : World} {rb a : Nat} {K K2 : Nat → Nat} {io co lo : Option Nat} {C C2 : Nat → Option Thk.Ch} {gi gc gl : Nat} {S2 : Nat → Prop} (hR : RepP w rb a io co lo K C) (hb : Below w.heap.size w wz)
    (hg : StoreS wz gi gc gl S2 (itOf C2)) (hS2 : ∀ d, 1 ≤ nth d → (S2 d ↔ nth d ≤ K2 (who d))) (hk2 : ∀ x, K2 x ≤ 500) (hcp : ∀ k c, C2 k = some c → c.path.length ≤ 1048576) (same : ∀ d c c', C d = some c → C2 d = some c' → c = c') :
    Calls Tryz.prog 74 #[.slice (some ⟨wz.heap.size, 0, none⟩) 2 2] (wz.alloc (.cells #[.map io, .map co, .map lo, .map (some gi), .map (some gc), .map (some gl)] 106)).drew
      fun e w9 => ∃ ib cb lb, e = .returned (.agg #[.map (some ib), .map (some cb), .map (some lb)]) ∧ w9.cell? ⟨rb, 1, none⟩ = some (.map io) ∧ w9.cell? ⟨rb, 2, none⟩ = some (.map co) ∧ w9.cell? ⟨rb, 3, none⟩ = some (.map lo) ∧ (∀ i, w9.frozen? ⟨rb, i, none⟩ = false) ∧
        RepP (((w9.setCell ⟨rb, 1, none⟩ (.map (some ib))).setCell ⟨rb, 2, none⟩ (.map (some cb))).setCell ⟨rb, 3, none⟩ (.map (some lb))) rb a (some ib) (some cb) (some lb) (maxK K K2) (joinC K C K2 C2) ∧ (wz.heap.size ≤ ib ∧ wz.heap.size ≤ cb ∧ wz.heap.size ≤ lb) ∧ Below wz.heap.size wz w9 ∧ Chg (fun k => k = rb) w (((w9.setCell ⟨rb, 1, none⟩ (.map (some ib))).setCell ⟨rb, 2, none⟩ (.map (some cb))).setCell ⟨rb, 3, none⟩ (.map (some lb))) := by
  have hbz : Below wz.heap.size wz (wz.alloc (.cells #[.map io, .map co, .map lo, .map (some gi), .map (some gc), .map (some gl)] 106)).drew := ((Below.refl _ wz).alloc (Nat.le_refl _) _).drew
  have kS : Blk (wz.alloc (.cells #[.map io, .map co, .map lo, .map (some gi), .map (some gc), .map (some gl)] 106)).drew wz.heap.size #[.map io, .map co, .map lo, .map (some gi), .map (some gc), .map (some gl)] 106 := Blk.new wz _ _
  generalize (wz.alloc (.cells #[.map io, .map co, .map lo, .map (some gi), .map (some gc), .map (some gl)] 106)).drew = wy at *
  have hbw : Below w.heap.size w wy := hb.trans (hbz.mono hb.size)
  obtain ⟨s1, hs1⟩ : ∃ s : StD, s = ⟨io, co, lo, fun k => nth k ≤ K (who k), itOf C⟩ := ⟨_, rfl⟩
  obtain ⟨s2, hs2⟩ : ∃ s : StD, s = ⟨some gi, some gc, some gl, S2, itOf C2⟩ := ⟨_, rfl⟩
  have hRy := hR.below hbw
  have hSl : SliceS wy wz.heap.size 0 [s1, s2] := by
    refine ⟨kS.lt, ?_, ?_, ?_, ?_⟩
    · intro j hj
      match j, hj with
      | 0, _ => rw [kS.cell]; simp [hs1]
      | 1, _ => rw [kS.cell]; simp [hs2]
    · intro j hj
      match j, hj with
      | 0, _ => rw [kS.cell]; simp [hs1]
      | 1, _ => rw [kS.cell]; simp [hs2]
    · intro j hj
      match j, hj with
      | 0, _ => rw [kS.cell]; simp [hs1]
      | 1, _ => rw [kS.cell]; simp [hs2]
    · intro s hs
      simp only [List.mem_cons, List.mem_nil_iff, or_false] at hs
      rcases hs with rfl | rfl
      · rw [hs1]; exact ⟨hRy.st, fun k v h => itOf_item h⟩
      · rw [hs2]; exact ⟨(hg.below hbz).toR, fun k v h => itOf_item h⟩
  refine Calls.mono (Join_any wy wz.heap.size 0 2 [s1, s2] hSl (by simp) (by simp)) ?_
  rintro e w9 ⟨ib, cb, lb, It, rfl, hst, p1, p2, hnew, hb9⟩
  have hmath := join_math (K1 := K) (K2 := K2) (C1 := C) (C2 := C2) (s1 := s1) (s2 := s2) same (by rw [hs1]) (by rw [hs1]) (by rw [hs2]; exact hS2) (by rw [hs2]) (fun k hk => (hR.st.ok k (itOf_none.2 hk)).1.2.1) (fun k hk => (hg.ok k (itOf_none.2 hk)).1.2.1) (fun k hk => (hst.ok k hk).1.2.1) p1 p2
  have hR9 := hRy.below hb9
  have hy := hbw.size
  have hyz := hbz.size
  have hrb : rb < w.heap.size := hR.blk.lt
  refine ⟨ib, cb, lb, rfl, (hR9.blk.cell 1).trans rfl, (hR9.blk.cell 2).trans rfl, (hR9.blk.cell 3).trans rfl, hR9.blk.frozen, ?_, by omega, hbz.trans (hb9.mono hbz.size), ?_⟩
  · have hch : Chg (fun k => k = rb) w9 (((w9.setCell ⟨rb, 1, none⟩ (.map (some ib))).setCell ⟨rb, 2, none⟩ (.map (some cb))).setCell ⟨rb, 3, none⟩ (.map (some lb))) := (((Chg.refl (fun k => k = rb) w9).setCell (p := ⟨rb, 1, none⟩) rfl _).setCell (p := ⟨rb, 2, none⟩) rfl _).setCell (p := ⟨rb, 3, none⟩) rfl _
    have hst2 := hst.chg hch (by omega) (by omega) (by omega)
    refine ⟨?_, ?_, fun k c hc => joinC_path (P := fun c => c.path.length ≤ 1048576) hR.ok hcp k c hc, fun x => ?_, hR.a5⟩
    · have := hR9.blk
      unfold Blk at this ⊢
      simp [World.setCell, Array.getElem?_modify, this]
    · rw [← hmath.1]
      have h3 : StoreS _ ib cb lb (fun k => nth k ≤ maxK K K2 (who k)) It := ⟨hst2.ctx.iff (fun k hk => (hmath.2 k hk).symm), hst2.its, hst2.ne, fun k hk => by have := hst2.ok k hk; exact ⟨this.1, (hmath.2 k this.1.2.1).1 this.2⟩⟩
      exact h3.toR
    · have h1 := hR.k500 x
      have h2 := hk2 x
      unfold maxK; omega
  · have h1 : Chg (fun k => k = rb) w w9 := Chg.of_below (hbw.trans (hb9.mono hbw.size))
    exact ((h1.setCell (p := ⟨rb, 1, none⟩) rfl _).setCell (p := ⟨rb, 2, none⟩) rfl _).setCell (p := ⟨rb, 3, none⟩) rfl _

def okR (r : Nat × Nat) : Prop := (who r.1 ≤ 5 ∧ 1 ≤ nth r.1 ∧ nth r.1 ≤ 500) ∧ 1 ≤ r.2 ∧ r.2 ≤ 500 ∧ nth r.1 + r.2 ≤ 502
structure RS (w : World) (rb : Nat) (rs : List (Nat × Nat)) (rest : Thk.Bs) (i : Nat) (v3 : Value) (wx : World) : Prop where
  rd : ∃ s, RdP wx rb s ∧ toL s = (rs.drop i).flatMap encR ++ rest ∧ s.size ≤ 1000000000
  row : wx.ownsRow w.heap.size 121 2 v3 (flatR (rs.take i)).length (dcells (flatR (rs.take i)))
  chg : Chg (fun k => k = rb) w wx
theorem rd_len {w : World} {rb : Nat} {s s' : ByteArray} {a b : Thk.Bs} (h : toL s = a ++ b) (h' : toL s' = b) (hs : s.size ≤ 1000000000) : s'.size ≤ 1000000000 := by
  have e1 : s'.size = (toL s').length := by simp [toL]
  have e2 : s.size = (toL s).length := by simp [toL]
  rw [h'] at e1
  rw [h, List.length_append] at e2
  omega

theorem drop_enc (rs : List (Nat × Nat)) (rest : Thk.Bs) (i : Nat) (hi : i < rs.length) : (rs.drop i).flatMap encR ++ rest = encD rs[i].1 ++ (encN rs[i].2 ++ ((rs.drop (i + 1)).flatMap encR ++ rest)) := by
  rw [List.drop_eq_getElem_cons hi, List.flatMap_cons]
  unfold encR
  simp only [List.append_assoc]
theorem flat_take (rs : List (Nat × Nat)) (i : Nat) (hi : i < rs.length) : flatR (rs.take (i + 1)) = flatR (rs.take i) ++ runD rs[i] := by
  rw [List.take_succ_eq_append_getElem hi, flatR_snoc]

def itsC (its : List (Nat × Thk.Bs)) (j : Nat) : Nat → Option Value := fun d => ((its.take j).reverse.find? (fun x => x.1 == d)).bind (fun x => match Thk.read x.2 with | .inr c => some (chV c) | .inl _ => none)

theorem itsC_succ (its : List (Nat × Thk.Bs)) (j : Nat) (hj : j < its.length) (c : Thk.Ch) (hc : Thk.read its[j].2 = .inr c) : itsC its (j + 1) = fun d => if d = its[j].1 then some (chV c) else itsC its j d := by
  funext d
  unfold itsC
  rw [List.take_succ_eq_append_getElem hj, List.reverse_append, List.reverse_singleton, List.singleton_append, List.find?_cons]
  by_cases e : d = its[j].1
  · subst e
    simp [hc]
  · have e2 : (its[j].1 == d) = false := by simpa using fun h => e h.symm
    rw [e2, if_neg e]
theorem itsC_ok {its : List (Nat × Thk.Bs)} {P : Nat → Prop} (h : ∀ x ∈ its, P x.1) (j d : Nat) (hd : itsC its j d ≠ none) : P d := by
  unfold itsC at hd
  cases hf : (its.take j).reverse.find? (fun x => x.1 == d) with
  | none => rw [hf] at hd; exact absurd rfl hd
  | some x =>
    have h1 := List.find?_some hf
    have h2 := List.mem_of_find?_eq_some hf
    have h3 : x.1 = d := by simpa using h1
    rw [← h3]
    exact h x (List.mem_of_mem_take (List.mem_reverse.1 h2))
theorem itsC_item {its : List (Nat × Thk.Bs)} {j d : Nat} {v : Value} (hd : itsC its j d = some v) : ItemV v := by
  unfold itsC at hd
  cases hf : (its.take j).reverse.find? (fun x => x.1 == d) with
  | none => rw [hf] at hd; cases hd
  | some x =>
    rw [hf] at hd
    simp only [Option.bind_some] at hd
    split at hd
    · cases hd; exact ⟨_, _, _, _, rfl⟩
    · cases hd
theorem drop_encI (its : List (Nat × Thk.Bs)) (r : Thk.Bs) (j : Nat) (hj : j < its.length) : (its.drop j).flatMap encI ++ r = encD its[j].1 ++ (encN its[j].2.length ++ its[j].2 ++ ((its.drop (j + 1)).flatMap encI ++ r)) := by
  rw [List.drop_eq_getElem_cons hj, List.flatMap_cons]
  unfold encI
  simp only [List.append_assoc]
theorem own_sliceD {w : World} {base : Nat} {v : Value} {ns : List Nat} (h : w.ownsRow base 121 2 v ns.length (dcells ns)) : SliceD w v ns := by
  have hlt := h.lt
  have hcl := fun g (hg : v.ownBlock = some g) => h.cells hg
  rcases h.2 with ⟨h1, h2⟩ | ⟨g, cap, cur, h1, _, _, h4, _⟩
  · exact Or.inl ⟨h1, List.eq_nil_of_length_eq_zero h2⟩
  · subst h1
    refine Or.inr ⟨g, 0, cap, rfl, h4, (hlt g rfl).2, fun j hj => ?_⟩
    have hg := dcells_get ns j hj
    have a1 := hcl g rfl _ _ hg.1
    have a2 := hcl g rfl _ _ hg.2
    rw [addr0] at a1 a2
    rw [Nat.zero_add]
    exact ⟨a1, a2⟩
structure RT (w : World) (rb : Nat) (its : List (Nat × Thk.Bs)) (u3 : Value) (fl : List Nat) (mb j : Nat) (wx : World) : Prop where
  row : wx.ownsRow w.heap.size 121 2 u3 fl.length (dcells fl)
  mp : ∃ N, MapV Tryz.prog 121 wx mb N (im (itsC its j))
  kr : Blk wx w.heap.size #[.map none, .map none, .map none] 106
  chg : Chg (fun k => k = rb) w wx
  new : w.heap.size < mb
  rbw : rb < w.heap.size
theorem RT.to {w : World} {rb : Nat} {its : List (Nat × Thk.Bs)} {u3 : Value} {fl : List Nat} {mb j : Nat} {wx wy : World} (h : RT w rb its u3 fl mb j wx) (hc : Chg (fun k => k = rb) wx wy) : RT w rb its u3 fl mb j wy := by
  have h1 := h.new
  have h2 := h.rbw
  obtain ⟨N, hN⟩ := h.mp
  exact ⟨ownsRow_chg h.row hc (fun g hg e => by have := (h.row.lt g hg).1; omega), ⟨N, hN.block (hc.block _ hN.lt (by omega))⟩, h.kr.chg hc (by omega), h.chg.trans hc, h1, h2⟩
theorem RT.put {w : World} {rb : Nat} {its : List (Nat × Thk.Bs)} {u3 : Value} {fl : List Nat} {mb j N : Nat} {wx wy : World} (h : RT w rb its u3 fl mb j wx) (hj : j < its.length) (c : Thk.Ch) (hc : Thk.read its[j].2 = .inr c) (hg : wx.grownBy wy (some mb)) (hm : MapV Tryz.prog 121 wy mb N (upd (im (itsC its j)) (dotE its[j].1) (chV c))) : RT w rb its u3 fl mb (j + 1) wy := by
  have h1 := h.new
  have h2 := h.rbw
  obtain ⟨N0, hN0⟩ := h.mp
  have hch : Chg (fun k => k = mb) wx wy := (Chg.refl _ wx).grown hg (fun k e => by cases e; exact Or.inl rfl)
  have hne : ∀ g, u3.ownBlock = some g → g ≠ mb := fun g hgu e => by
    rw [e] at hgu
    exact ownsRow_ne h.row (fun cur fz hh => hN0.noTag hh) hgu
  refine ⟨ownsRow_chg h.row hch hne, ⟨N, by rw [itsC_succ its j hj c hc, ← im_upd]; exact hm⟩, h.kr.chg hch (by omega), ?_, h1, h2⟩
  have h0 := h.chg
  exact ⟨hch.os.trans h0.os, hch.tape.trans h0.tape, hch.output.trans h0.output, Nat.le_trans h0.size hch.size, fun k hk hm => (hch.block k (Nat.lt_of_lt_of_le hk h0.size) (by omega)).trans (h0.block k hk hm)⟩

set_option maxHeartbeats 8000000 in
set_option maxRecDepth 100000 in
theorem rStore_any (w : World) (hG : Glob w) (rb : Nat) (hrb : 3 < rb) (s : ByteArray) (rs : List (Nat × Nat)) (its : List (Nat × Thk.Bs)) (r : Thk.Bs) (h : RdP w rb s) (hs : toL s = encS rs its ++ r) (hsz : s.size ≤ 1000000000)
    (hrs : rs.length ≤ 500) (hro : ∀ x ∈ rs, okR x) (his : its.length ≤ 500) (hio : ∀ x ∈ its, (who x.1 ≤ 5 ∧ 1 ≤ nth x.1 ∧ nth x.1 ≤ 500) ∧ x.2.length < 16384 ∧ ∃ c, Thk.read x.2 = .inr c ∧ effB c.act = true) :
    Calls Tryz.prog 136 #[.pointer (some ⟨rb, 0, none⟩)] w fun e w' => ∃ ib cb lb s', e = .returned (.agg #[.map (some ib), .map (some cb), .map (some lb)]) ∧ StoreS w' ib cb lb (fun d => itsC its its.length d ≠ none ∨ d ∈ flatR rs) (itsC its its.length) ∧ RdP w' rb s' ∧ toL s' = r ∧ (w.heap.size ≤ ib ∧ w.heap.size ≤ cb ∧ w.heap.size ≤ lb) ∧ Chg (fun k => k = rb) w w' := by
  have hmm := @run_makeMap Tryz.prog
  obtain ⟨i0, hi, hz0, hz1, hz2⟩ := info_parts Tryz.infoDot
  have hlt := h.lt
  have Hro : Hid (∀ x ∈ rs, okR x) := hro
  have Hio : Hid (∀ x ∈ its, (who x.1 ≤ 5 ∧ 1 ≤ nth x.1 ∧ nth x.1 ≤ 500) ∧ x.2.length < 16384 ∧ ∃ c, Thk.read x.2 = .inr c ∧ effB c.act = true) := hio
  have HGl : Hid (Glob w) := hG
  obtain ⟨rest, hrest⟩ : ∃ rest, rest = encN its.length ++ (its.flatMap encI ++ r) := ⟨_, rfl⟩
  have hs2 : toL s = encN rs.length ++ (rs.flatMap encR ++ rest) := by rw [hs, hrest]; unfold encS; simp only [List.append_assoc]
  have Hrest : Hid (rest = encN its.length ++ (its.flatMap encI ++ r)) := hrest
  have hflat : ∀ i, i ≤ rs.length → (flatR (rs.take i)).length ≤ i * 500 := by
    intro i
    induction i with
    | zero => intro _; simp [flatR]
    | succ i ih =>
      intro h
      rw [flat_take rs i (by omega), List.length_append, len_runD]
      have := ih (by omega)
      have h2 := (hro rs[i] (List.getElem_mem (by omega))).2.2.1
      omega
  have Hflat : Hid (∀ i, i ≤ rs.length → (flatR (rs.take i)).length ≤ i * 500) := hflat
  have HN : Hid (∀ ob, Calls Tryz.prog 135 #[.pointer (some ⟨rb, 0, none⟩), .int .i64 0, .int .i64 500] (w.alloc ob) fun e w' => e = .returned (.int .i64 (rs.length : Int)) ∧ RS w rb rs rest 0 (.slice none 0 0) w' ∧ Chg (fun k => k = rb) (w.alloc ob) w') := fun ob => by
    refine Calls.mono (rNumber_any (w.alloc ob) rb s rs.length 0 500 (rs.flatMap encR ++ rest) (h.alloc ob) hs2 (by omega) (by omega) (by omega) (by omega) hsz) ?_
    rintro e w' ⟨s', rfl, h1, h2, h3⟩
    have hc : Chg (fun k => k = rb) w w' := (Chg.of_below ((Below.refl _ w).alloc (Nat.le_refl _) ob) : Chg (fun k => k = rb) w _).trans h3
    exact ⟨rfl, ⟨⟨s', h1, h2, rd_len (w := w) (rb := rb) hs2 h2 hsz⟩, World.ownsRow_nil _ _ _ _, hc⟩, h3⟩
  clear h hs hs2 hrest hro hio hG hflat
  go_enter Tryz.func136, Tryz.ntmps136
  go_wp2_with fail
  refine Calls.mono (HN.out _) ?_
  rintro e w1 ⟨rfl, hRS1, hch1⟩
  have kr1 : Blk w1 w.heap.size #[.map none, .map none, .map none] 106 := (Blk.new w _ _).chg hch1 (by omega)
  have HR1 : Hid (RS w rb rs rest 0 (.slice none 0 0) w1 ∧ Blk w1 w.heap.size #[.map none, .map none, .map none] 106) := ⟨hRS1, kr1⟩
  clear HN hRS1 hch1 kr1
  go_wp2_with fail
  go_loopg [3, 9] rs.length (fun g v3 v9 wx => ∃ i : Nat, i + g = rs.length ∧ v9 = .int .i64 (i : Int) ∧ RS w rb rs rest i v3 wx ∧ Blk wx w.heap.size #[.map none, .map none, .map none] 106)
  case atStart => exact ⟨0, by omega, rfl, HR1.out.1, HR1.out.2⟩
  case round =>
    obtain ⟨i, hig, rfl, hR, hkr⟩ := hrel
    have HR : Hid (RS w rb rs rest i u3 wr ∧ Blk wr w.heap.size #[.map none, .map none, .map none] 106) := ⟨hR, hkr⟩
    clear HR1 hkr
    by_cases him : i < rs.length
    · have hok := Hro.out _ (List.getElem_mem him)
      obtain ⟨sr, hsr, hsl, hss⟩ := hR.rd
      rw [drop_enc rs rest i him] at hsl
      have HE : Hid (flatR (rs.take (i + 1)) = flatR (rs.take i) ++ runD rs[i]) := flat_take rs i him
      have hfl := Hflat.out i (by omega)
      obtain ⟨x, hx⟩ : ∃ x, rs[i] = x := ⟨_, rfl⟩
      rw [hx] at hok hsl HE
      obtain ⟨d, m⟩ := x
      simp only at hsl
      obtain ⟨hd5, hm1, hm5, hm502⟩ := hok
      simp only at hd5 hm1 hm5 hm502
      obtain ⟨tl, htl⟩ : ∃ tl, tl = (rs.drop (i + 1)).flatMap encR ++ rest := ⟨_, rfl⟩
      have Htl : Hid (tl = (rs.drop (i + 1)).flatMap encR ++ rest) := htl
      rw [← htl] at hsl
      have Hdot : Hid (_) := rdot_any wr rb sr d (encN m ++ tl) hsr hsl hd5 hss
      have HN2 : Hid (∀ w2 s2 ob, RdP w2 rb s2 → toL s2 = encN m ++ tl → Calls Tryz.prog 135 #[.pointer (some ⟨rb, 0, none⟩), .int .i64 1, .int .i64 500] (w2.alloc ob) fun e w' => ∃ s', e = .returned (.int .i64 (m : Int)) ∧ (RdP w' rb s' ∧ toL s' = tl ∧ s'.size ≤ 1000000000) ∧ Chg (fun k => k = rb) (w2.alloc ob) w') := fun w2 s2 ob h2 hs2 => by
        have hz2 := rd_len (w := w) (rb := rb) hsl hs2 hss
        refine Calls.mono (rNumber_any (w2.alloc ob) rb s2 m 1 500 tl (h2.alloc ob) hs2 (by omega) (by omega) (by omega) (by omega) hz2) ?_
        rintro e w' ⟨s', rfl, h1, h2, h3⟩
        exact ⟨s', rfl, ⟨h1, h2, rd_len (w := w) (rb := rb) hs2 h2 hz2⟩, h3⟩
      clear hsr hsl hss hR hx htl
      go_wp2_with fail
      refine Calls.mono Hdot.out ?_
      rintro e w2 ⟨s2, rfl, hk2, hs2, hch2⟩
      have hl2 := hk2.lt
      have HB2 : Hid (Chg (fun k => k = rb) wr w2) := hch2
      have HN3 : Hid (_) := fun ob => HN2.out w2 s2 ob hk2 hs2
      clear Hdot HN2 hk2 hs2 hch2
      go_wp2_with fail
      refine Calls.mono (HN3.out _) ?_
      rintro e w3 ⟨s3, rfl, hR3, hch3⟩
      have kx3 : Blk w3 w2.heap.size #[.int .i64 (who d : Int), .int .i64 (nth d : Int), .int .i64 0] 249 := (Blk.new w2 _ _).chg hch3 (by omega)
      have HC3 : Hid (Chg (fun k => k = rb) wr w3) := HB2.out.trans ((Chg.of_below ((Below.refl _ w2).alloc (Nat.le_refl _) _) : Chg (fun k => k = rb) w2 _).trans hch3)
      have hb2 : rb < w2.heap.size := hl2
      have hwr2 : wr.heap.size ≤ w2.heap.size := HB2.out.size
      have x0 := (kx3.cell 0).trans rfl
      have x1 := (kx3.cell 1).trans rfl
      have x2 := (kx3.cell 2).trans rfl
      have fx := kx3.frozen
      have HR3 : Hid (RdP w3 rb s3 ∧ toL s3 = tl ∧ s3.size ≤ 1000000000) := hR3
      have Hd : Hid (∀ wx, Calls Tryz.prog 183 #[.agg #[.int .i64 (who d : Int), .int .i64 (nth d : Int), .int .i64 (m : Int)]] wx fun e w' => ∃ v, e = .returned v ∧ w'.ownsRow wx.heap.size 121 2 v m (dcells (runD (d, m))) ∧ Below wx.heap.size wx w') := fun wx => Dots_any wx d m (by omega)
      have hw23 : w2.heap.size < w3.heap.size := kx3.lt
      clear HN3 hR3 hch3 kx3 HB2
      go_wp2_with fail
      refine Calls.mono (Hd.out _) ?_
      rintro e w5 ⟨v5, rfl, ho5, hb5⟩
      have hc34 : Chg (fun k => k = w2.heap.size) w3 (w3.setCell ⟨w2.heap.size, 2, none⟩ (.int .i64 (m : Int))) := (Chg.refl (fun k => k = w2.heap.size) w3).setCell (p := ⟨w2.heap.size, 2, none⟩) rfl _
      have hsz4 : (w3.setCell ⟨w2.heap.size, 2, none⟩ (.int .i64 (m : Int))).heap.size = w3.heap.size := by simp
      have hc35 : Chg (fun k => k = w2.heap.size) w3 w5 := hc34.trans (Chg.of_below hb5)
      have hc5 : Chg (fun k => k = rb) wr w5 := by
        have h0 := HC3.out
        exact ⟨hc35.os.trans h0.os, hc35.tape.trans h0.tape, hc35.output.trans h0.output, Nat.le_trans h0.size hc35.size, fun k hk hm => (hc35.block k (Nat.lt_of_lt_of_le hk h0.size) (by omega)).trans (h0.block k hk hm)⟩
      have hg0 : ∀ g, u3.ownBlock = some g → w.heap.size ≤ g := fun g hg => (HR.out.1.row.lt g hg).1
      have hO5 : w5.ownsRow w.heap.size 121 2 u3 (flatR (rs.take i)).length (dcells (flatR (rs.take i))) := ownsRow_chg HR.out.1.row hc5 (fun g hg e => by have := hg0 g hg; omega)
      have hk5 : RdP w5 rb s3 := Blk.chg HR3.out.1 hc35 (by omega)
      have hkr5 := HR.out.2.chg hc5 (by omega)
      obtain ⟨g5, cap5, hv5⟩ := own_some ho5 (by omega)
      subst hv5
      have Hc5 : Hid (∀ j u, (dcells (runD (d, m)))[j]? = some u → w5.cell? ((⟨g5, 0, none⟩ : Addr).add j) = some u) := ho5.cells (g := g5) rfl
      have HO5 : Hid (w5.ownsRow w.heap.size 121 2 u3 (flatR (rs.take i)).length (dcells (flatR (rs.take i)))) := hO5
      have HX5 : Hid (RdP w5 rb s3 ∧ Blk w5 w.heap.size #[.map none, .map none, .map none] 106 ∧ Chg (fun k => k = rb) w w5) := ⟨hk5, hkr5, HR.out.1.chg.trans hc5⟩
      have hbw : w.heap.size ≤ w5.heap.size := Nat.le_trans HR.out.1.chg.size hc5.size
      have h63 : (flatR (rs.take i)).length + m ≤ maxLen := by unfold maxLen; omega
      have h64 : ((flatR (rs.take i)).length + m) * 16 ≤ 140737488355328 := by omega
      have hnl : (dcells (runD (d, m))).length = m * 2 := by rw [dcells_len, len_runD]
      clear hc34 hsz4 hc35 hc5 hO5 hk5 hkr5 ho5 hb5 Hd HC3 x0 x1 x2 fx hfl
      generalize hfn : (flatR (rs.take i)).length = fn at *
      go_wp2_with (first | (at_builtin; refine wpList_append_own_at _ rfl (.tmp 17) (.tmp 19) 124 rfl w.heap.size 121 i0 (.agg #[.int .i64 0, .int .i64 0]) 2 16 Tryz.underlying124 hi hz0 hz1 hz2 rfl (by decide) _ _ _ rfl HO5.out ⟨g5, 0, none⟩ m cap5 (dcells (runD (d, m))) rfl hnl Hc5.out (dcells_one _) h63 h64 hbw ?_; intro v6 w6 ho6 hg6 hn6 hl6))
      have hch6 : Chg (fun k => u3.ownBlock = some k) w5 w6 := (Chg.refl _ w5).grown hg6 (fun k e => Or.inl e)
      go_roundg (rs.length - (i + 1))
      case measure => omega
      case rel =>
        refine ⟨i + 1, by omega, by go_num, ⟨⟨s3, Blk.chg HX5.out.1 hch6 (fun e => by have := hg0 _ e; omega), by rw [← Htl.out]; exact HR3.out.2.1, HR3.out.2.2⟩, ?_, ?_⟩, ?_⟩
        · rw [HE.out, dcells_app, List.length_append, len_runD, hfn]
          exact ho6
        · have h0 := HX5.out.2.2
          exact ⟨hch6.os.trans h0.os, hch6.tape.trans h0.tape, hch6.output.trans h0.output, Nat.le_trans h0.size hch6.size, fun k hk hm => (hch6.block k (Nat.lt_of_lt_of_le hk h0.size) (fun e => by have := hg0 _ e; omega)).trans (h0.block k hk hm)⟩
        · exact HX5.out.2.1.chg hch6 (fun e => ownsRow_ne HO5.out (fun cur fz hh => by rw [show w5.heap[w.heap.size]? = _ from HX5.out.2.1] at hh; cases hh) e)
    · have e : i = rs.length := by omega
      subst e
      obtain ⟨sr, hsr, hsl, hss⟩ := hR.rd
      rw [List.drop_length, List.flatMap_nil, List.nil_append, Hrest.out] at hsl
      have hrow := HR.out.1.row
      rw [List.take_length] at hrow
      have HN : Hid (∀ ob, Calls Tryz.prog 135 #[.pointer (some ⟨rb, 0, none⟩), .int .i64 0, .int .i64 500] (wr.alloc ob) fun e w' => ∃ s', e = .returned (.int .i64 (its.length : Int)) ∧ (RdP w' rb s' ∧ toL s' = (its.drop 0).flatMap encI ++ r ∧ s'.size ≤ 1000000000) ∧ Chg (fun k => k = rb) (wr.alloc ob) w') := fun ob => by
        refine Calls.mono (rNumber_any (wr.alloc ob) rb sr its.length 0 500 (its.flatMap encI ++ r) (hsr.alloc ob) hsl (by omega) (by omega) (by omega) (by omega) hss) ?_
        rintro e w' ⟨s', rfl, h1, h2, h3⟩
        exact ⟨s', rfl, ⟨h1, h2, rd_len (w := w) (rb := rb) hsl h2 hss⟩, h3⟩
      have hwr : w.heap.size < wr.heap.size := HR.out.2.lt
      have hmade := MapV.made wr Tryz.prog 121
      have HT0 : Hid (RT w rb its u3 (flatR rs) wr.heap.size 0 (wr.alloc (.map #[] 0))) := by
        have hb : Below wr.heap.size wr (wr.alloc (.map #[] 0)) := (Below.refl _ wr).alloc (Nat.le_refl _) _
        refine ⟨own_below hrow hb, ⟨0, ?_⟩, HR.out.2.below hb, HR.out.1.chg.below hb, hwr, hlt⟩
        have e0 : itsC its 0 = fun _ => none := by funext d; unfold itsC; simp
        rw [e0, im_none]
        exact hmade
      clear hR hsr hsl hss hmade hrow
      go_wp2_with fail
      refine Calls.mono (HN.out _) ?_
      rintro e w2 ⟨s2, rfl, hR2, hch2⟩
      have HT2 : Hid (RT w rb its u3 (flatR rs) wr.heap.size 0 w2 ∧ ∃ s, RdP w2 rb s ∧ toL s = (its.drop 0).flatMap encI ++ r ∧ s.size ≤ 1000000000) := ⟨HT0.out.to hch2, s2, hR2⟩
      clear HN hR2 hch2 HT0 HR
      go_wp2_with fail
      generalize wr.heap.size = mb at *
      go_loopg [25] its.length (fun g v25 wx => ∃ j : Nat, j + g = its.length ∧ v25 = .int .i64 (j : Int) ∧ RT w rb its u3 (flatR rs) mb j wx ∧ ∃ s, RdP wx rb s ∧ toL s = (its.drop j).flatMap encI ++ r ∧ s.size ≤ 1000000000)
      case atStart => exact ⟨0, by omega, rfl, HT2.out.1, HT2.out.2⟩
      case round =>
        obtain ⟨j, hjg, rfl, hT, sr, hsr, hsl, hss⟩ := hrel
        have HT : Hid (RT w rb its u3 (flatR rs) mb j wr) := hT
        clear HT2
        by_cases hj : j < its.length
        · obtain ⟨hd5, ht, c, hc, he⟩ := Hio.out _ (List.getElem_mem hj)
          rw [drop_encI its r j hj] at hsl
          obtain ⟨N0, hN0⟩ := hT.mp
          have hNb : N0 ≤ 3072 := items_bound hN0 (fun d hd => itsC_ok (P := okD) (fun x hx => ⟨(Hio.out x hx).1.1, (Hio.out x hx).1.2.1, by have := (Hio.out x hx).1.2.2; omega⟩) j d hd)
          have HNb : Hid (∀ wx N, MapV Tryz.prog 121 wx mb N (im (itsC its j)) → N < maxLen) := fun wx N hN => by
            have := items_bound hN (fun d hd => itsC_ok (P := okD) (fun x hx => ⟨(Hio.out x hx).1.1, (Hio.out x hx).1.2.1, by have := (Hio.out x hx).1.2.2; omega⟩) j d hd)
            unfold maxLen; omega
          have HP : Hid (∀ wx wy N, RT w rb its u3 (flatR rs) mb j wx → wx.grownBy wy (some mb) → MapV Tryz.prog 121 wy mb N (upd (im (itsC its j)) (dotE its[j].1) (chV c)) → RT w rb its u3 (flatR rs) mb (j + 1) wy) := fun wx wy N h1 h2 h3 => h1.put hj c hc h2 h3
          obtain ⟨x, hx⟩ : ∃ x, its[j] = x := ⟨_, rfl⟩
          rw [hx] at hd5 ht hc hsl HP
          obtain ⟨d, t⟩ := x
          simp only at hd5 ht hc hsl HP
          obtain ⟨kl, hkl⟩ := keyE d (by omega)
          obtain ⟨tl, htl⟩ : ∃ tl, tl = (its.drop (j + 1)).flatMap encI ++ r := ⟨_, rfl⟩
          have Htl : Hid (tl = (its.drop (j + 1)).flatMap encI ++ r) := htl
          rw [← htl] at hsl
          have Hdot : Hid (_) := rdot_any wr rb sr d (encN t.length ++ t ++ tl) hsr hsl hd5 hss
          have hmbw := hT.new
          have hrbw := hT.rbw
          have HEf : Hid (∀ w2 s2 wx, RT w rb its u3 (flatR rs) mb j w2 → RdP w2 rb s2 → toL s2 = encN t.length ++ t ++ tl → Blk wx w2.heap.size #[.int .i64 (who d : Int), .int .i64 (nth d : Int)] 121 → Below w2.heap.size w2 wx → Calls Tryz.prog 184 #[.pointer (some ⟨rb, 0, none⟩)] wx fun e w' => ∃ s', e = .returned (.agg #[.string ⟨c.path.toArray⟩, .int .u8 (c.act.toNat : Int), .string (keptVal c.act ⟨c.val.toArray⟩), .int .i64 c.n]) ∧ (RdP w' rb s' ∧ toL s' = tl ∧ s'.size ≤ 1000000000) ∧ RT w rb its u3 (flatR rs) mb j w' ∧ Blk w' w2.heap.size #[.int .i64 (who d : Int), .int .i64 (nth d : Int)] 121) := fun w2 s2 wx h2 hk2 hs2 hkd hb => by
            have hz2 := rd_len (w := w) (rb := rb) hsl hs2 hss
            have hGx : Glob wx := (HGl.out.chg h2.chg (fun k hk => by subst hk; exact hrb)).mono hb
            refine Calls.mono (rEffect_any wx hGx rb hrb s2 t tl c (hk2.below hb) hs2 ht hz2 hc he) ?_
            rintro e w' ⟨s', rfl, h3, h4, h5⟩
            have hl2 := hk2.lt
            exact ⟨s', rfl, ⟨h3, h4, rd_len (w := w) (rb := rb) hs2 h4 hz2⟩, (h2.to (Chg.of_below hb)).to h5, hkd.chg h5 (by omega)⟩
          clear hsr hsl hss hT hx htl hN0 hc he ht hNb
          go_wp2_with fail
          refine Calls.mono Hdot.out ?_
          rintro e w2 ⟨s2, rfl, hk2, hs2, hch2⟩
          have hT2 := HT.out.to hch2
          have kd := Blk.new w2 #[.int .i64 (who d : Int), .int .i64 (nth d : Int)] 121
          have hbd : Below w2.heap.size w2 (w2.alloc (.cells #[.int .i64 (who d : Int), .int .i64 (nth d : Int)] 121)) := (Below.refl _ w2).alloc (Nat.le_refl _) _
          have HE2 : Hid (∀ wx, wx.heap = (w2.alloc (.cells #[.int .i64 (who d : Int), .int .i64 (nth d : Int)] 121)).heap → wx.os = w2.os → wx.tape = w2.tape → wx.output = w2.output → Calls Tryz.prog 184 #[.pointer (some ⟨rb, 0, none⟩)] wx _) := fun wx h1 h3 h4 h5 => HEf.out w2 s2 wx hT2 hk2 hs2 (by unfold Blk; rw [h1]; exact kd) ⟨h3, h4, h5, by rw [h1]; simp, fun k hk => by rw [h1]; exact hbd.block k hk⟩
          have z0 := (kd.cell 0).trans rfl
          have z1 := (kd.cell 1).trans rfl
          clear Hdot HEf hk2 hs2 hch2 hT2 hbd
          unfold chV at HP
          go_wp2_with fail
          go_region_with (go_at_call 184; refine Calls.mono (HE2.out _ rfl rfl rfl rfl) ?_; rintro e w4 ⟨s4, rfl, hR4, hT4, hk4⟩; have y0 := (hk4.cell 0).trans rfl; have y1 := (hk4.cell 1).trans rfl; obtain ⟨N4, hN4⟩ := hT4.mp; obtain ⟨w6, hrun, hm6, hg6, hs6⟩ := hN4.store kDot Tryz.underlying100 (HNb.out _ _ hN4) (.agg #[.string ⟨c.path.toArray⟩, .int .u8 (c.act.toNat : Int), .string (keptVal c.act ⟨c.val.toArray⟩), .int .i64 c.n]) hkl)
          all_goals
            have hT6 := HP.out _ _ _ hT4 hg6 hm6
            have hk6 : RdP w6 rb s4 := Blk.grown hR4.1 hg6 (by omega)
            go_wp2_with fail
            go_roundg (its.length - (j + 1))
            case measure => omega
            case rel => exact ⟨j + 1, by omega, by go_num, hT6, s4, hk6, by rw [← Htl.out]; exact hR4.2.1, hR4.2.2⟩
        · have e : j = its.length := by omega
          subst e
          rw [List.drop_length, List.flatMap_nil, List.nil_append] at hsl
          obtain ⟨N0, hN0⟩ := hT.mp
          have hfo : ∀ d ∈ flatR rs, okD d := fun d hd => by
            unfold flatR at hd
            obtain ⟨x, hx, hdx⟩ := List.mem_flatMap.1 hd
            have hx' := Hro.out x hx
            unfold runD at hdx
            obtain ⟨k, hk, rfl⟩ := List.mem_map.1 hdx
            have hk' := List.mem_range.1 hk
            obtain ⟨⟨a1, a2, a3⟩, a4, a5, a6⟩ := hx'
            exact ⟨by rw [who_add (by omega)]; exact a1, by rw [nth_add (by omega)]; omega, by rw [nth_add (by omega)]; omega⟩
          have hfl : (flatR rs).length ≤ 1000000 := by have := Hflat.out rs.length (Nat.le_refl _); rw [List.take_length] at this; omega
          have HOf : Hid (_) := Of_any wr (some mb) u3 (itsC its its.length) (flatR rs) N0 (Or.inr ⟨mb, rfl, hN0⟩) (fun n v hv => itsC_item hv) (fun n hn => itsC_ok (P := okD) (fun x hx => ⟨(Hio.out x hx).1.1, (Hio.out x hx).1.2.1, by have := (Hio.out x hx).1.2.2; omega⟩) its.length n hn) (own_sliceD hT.row) hfl hfo
          have hww := hT.chg.size
          have hrbw := hT.rbw
          have hkl := hT.kr.lt
          have HX : Hid (RdP wr rb sr ∧ toL sr = r) := ⟨hsr, hsl⟩
          clear hT hN0 hsr hsl hss hfo
          go_wp2_with fail
          refine Calls.mono HOf.out ?_
          rintro e w5 ⟨ib, cb, lb, rfl, hst, hnew, hb5⟩
          have kr5 := HT.out.kr.below hb5
          have r0 := (kr5.cell 0).trans rfl
          have r1 := (kr5.cell 1).trans rfl
          have r2 := (kr5.cell 2).trans rfl
          have f0 := kr5.frozen
          have HS : Hid (StoreS w5 ib cb lb (fun d => itsC its its.length d ≠ none ∨ d ∈ flatR rs) (itsC its its.length) ∧ Chg (fun k => k = rb) w w5 ∧ RdP w5 rb sr) := ⟨hst, HT.out.chg.below hb5, HX.out.1.below hb5⟩
          clear hst hb5 kr5 HOf
          go_wp2_with fail
          have hc : Chg (fun k => k = w.heap.size) w5 (((w5.setCell ⟨w.heap.size, 0, none⟩ (.map (some ib))).setCell ⟨w.heap.size, 1, none⟩ (.map (some cb))).setCell ⟨w.heap.size, 2, none⟩ (.map (some lb))) := (((Chg.refl (fun k => k = w.heap.size) w5).setCell (p := ⟨w.heap.size, 0, none⟩) rfl _).setCell (p := ⟨w.heap.size, 1, none⟩) rfl _).setCell (p := ⟨w.heap.size, 2, none⟩) rfl _
          refine bodyPost_ret (v := .agg #[.map (some ib), .map (some cb), .map (some lb)]) (by simp [results, Tryz.results136, go_sem, r0, r1, r2, cs_same, cs_oth, World.cell?_setCell_other]) rfl ⟨ib, cb, lb, sr, rfl, HS.out.1.chg hc (by omega) (by omega) (by omega), Blk.chg HS.out.2.2 hc (by omega), HX.out.2, by omega, ?_⟩
          have h0 := HS.out.2.1
          exact ⟨hc.os.trans h0.os, hc.tape.trans h0.tape, hc.output.trans h0.output, Nat.le_trans h0.size hc.size, fun k hk hm => (hc.block k (Nat.lt_of_lt_of_le hk h0.size) (by omega)).trans (h0.block k hk hm)⟩

theorem rb_below {w wx wy : World} {rb : Nat} (hb : Below w.heap.size w wx) (hc : Chg (fun k => k = rb) wx wy) (hr : w.heap.size ≤ rb) : Below w.heap.size w wy :=
  hb.trans ⟨hc.os, hc.tape, hc.output, hc.size, fun k hk => hc.block k (Nat.lt_of_lt_of_le hk hb.size) (by omega)⟩
theorem bl_w {w w' : World} {i : Nat} {u : Value} (h : Below w.heap.size w w') : Below w.heap.size w (w'.setCell ⟨w.heap.size, i, none⟩ u) := h.setCell (p := ⟨w.heap.size, i, none⟩) (Nat.le_refl _) _
theorem blk_set5 {w : World} {b : Nat} {x0 x1 x2 x3 x4 u : Value} {t : TypeId} (h : Blk w b #[x0, x1, x2, x3, x4] t) : Blk (w.setCell ⟨b, 0, none⟩ u) b #[u, x1, x2, x3, x4] t ∧ Blk (w.setCell ⟨b, 1, none⟩ u) b #[x0, u, x2, x3, x4] t := by
  unfold Blk at h ⊢
  constructor <;> simp [World.setCell, Array.getElem?_modify, h]

theorem blk5_all {w : World} {b : Nat} {x0 x1 x2 x3 x4 u0 u1 u2 u3 u4 : Value} {t : TypeId} (h : Blk w b #[x0, x1, x2, x3, x4] t) : Blk (((((w.setCell ⟨b, 0, none⟩ u0).setCell ⟨b, 1, none⟩ u1).setCell ⟨b, 2, none⟩ u2).setCell ⟨b, 3, none⟩ u3).setCell ⟨b, 4, none⟩ u4) b #[u0, u1, u2, u3, u4] t := by
  unfold Blk at h ⊢
  simp [World.setCell, Array.getElem?_modify, h]
theorem blk5_tail {w : World} {b : Nat} {x0 x1 x2 x3 x4 u2 u3 u4 : Value} {t : TypeId} (h : Blk w b #[x0, x1, x2, x3, x4] t) : Blk (((w.setCell ⟨b, 2, none⟩ u2).setCell ⟨b, 3, none⟩ u3).setCell ⟨b, 4, none⟩ u4) b #[x0, x1, u2, u3, u4] t := by
  unfold Blk at h ⊢
  simp [World.setCell, Array.getElem?_modify, h]
set_option maxHeartbeats 4000000 in
set_option maxRecDepth 100000 in
theorem fRead_ack (w : World) (s : ByteArray) (a : Nat) (ha : a ≤ 5) (hs : toL s = encA a) :
    Calls Tryz.prog 79 #[.string s] w fun e w' => e = .returned (.tuple #[.agg #[.int .i64 (a : Int), .bool true, .map none, .map none, .map none], .bool true]) ∧ Below w.heap.size w w' := by
  have hsz : s.size ≤ 1000000000 := by
    have : s.size = (toL s).length := by simp [toL]
    rw [this, hs]
    have h1 := encN_len 1
    have h2 := encN_len a
    unfold encA; simp; omega
  have H1 : Hid (∀ ob, Calls Tryz.prog 135 #[.pointer (some ⟨w.heap.size + 1, 0, none⟩), .int .i64 0, .int .i64 1] ((w.alloc ob).alloc (.cells #[.string s, .bool false] 246)) fun e w' => ∃ s', e = .returned (.int .i64 1) ∧ RdP w' (w.heap.size + 1) s' ∧ toL s' = encN a ∧ Chg (fun k => k = w.heap.size + 1) ((w.alloc ob).alloc (.cells #[.string s, .bool false] 246)) w') := fun ob => by
    have hk := Blk.new (w.alloc ob) #[.string s, .bool false] 246
    rw [World.size_alloc] at hk
    exact rNumber_any _ (w.heap.size + 1) s 1 0 1 (encN a) hk hs (by omega) (by omega) (by omega) (by omega) hsz
  have H2 : Hid (∀ wx s1, RdP wx (w.heap.size + 1) s1 → toL s1 = encN a → Calls Tryz.prog 135 #[.pointer (some ⟨w.heap.size + 1, 0, none⟩), .int .i64 0, .int .i64 5] wx fun e w' => ∃ s', e = .returned (.int .i64 (a : Int)) ∧ RdP w' (w.heap.size + 1) s' ∧ toL s' = [] ∧ Chg (fun k => k = w.heap.size + 1) wx w') := fun wx s1 h1 h2 =>
    rNumber_any wx _ s1 a 0 5 [] h1 (by rw [h2, List.append_nil]) (by omega) (by omega) ha (by omega) (rd_len (w := w) (rb := 0) (a := encN 1) (by rw [hs]; rfl) h2 hsz)
  clear hs hsz
  go_enter Tryz.func79, Tryz.ntmps79
  go_wp2_with fail
  refine Calls.mono (NewReader_any _ s) ?_
  rintro e w1 ⟨rfl, rfl⟩
  simp only [World.size_alloc]
  go_wp2_with fail
  refine Calls.mono (H1.out _) ?_
  rintro e w2 ⟨s2, rfl, hk2, hs2, hch2⟩
  have kf2 : Blk w2 w.heap.size #[.int .i64 0, .bool false, .map none, .map none, .map none] 108 := ((Blk.new w _ _).alloc _).chg hch2 (by omega)
  have hb2 : Below w.heap.size w w2 := rb_below (((Below.refl _ w).alloc (Nat.le_refl _) _).alloc (by simp) _) hch2 (by omega)
  have c1 := (kf2.cell 1).trans rfl
  have f0 := kf2.frozen
  have hl2 : w.heap.size + 1 < w2.heap.size := hk2.lt
  have HK : Hid (Blk w2 w.heap.size #[.int .i64 0, .bool false, .map none, .map none, .map none] 108 ∧ Below w.heap.size w w2 ∧ RdP w2 (w.heap.size + 1) s2) := ⟨kf2, hb2, hk2⟩
  have H3 : Hid (_) := H2.out (w2.setCell ⟨w.heap.size, 1, none⟩ (.bool true)) s2 (Blk.chg hk2 ((Chg.refl (fun k => k = w.heap.size) w2).setCell (p := ⟨w.heap.size, 1, none⟩) rfl _) (by omega)) hs2
  clear H1 H2 kf2 hb2 hk2 hs2 hch2
  go_wp2_with fail
  refine Calls.mono H3.out ?_
  rintro e w3 ⟨s3, rfl, hk3, hs3, hch3⟩
  have kf3 : Blk w3 w.heap.size #[.int .i64 0, .bool true, .map none, .map none, .map none] 108 := ((blk_set5 HK.out.1).2).chg hch3 (by omega)
  have hb3 : Below w.heap.size w w3 := rb_below (HK.out.2.1.setCell (p := ⟨w.heap.size, 1, none⟩) (Nat.le_refl _) _) hch3 (by omega)
  have c0 := (kf3.cell 0).trans rfl
  have f0 := kf3.frozen
  have kf4 : Blk (w3.setCell ⟨w.heap.size, 0, none⟩ (.int .i64 (a : Int))) w.heap.size #[.int .i64 (a : Int), .bool true, .map none, .map none, .map none] 108 := (blk_set5 kf3).1
  have hb4 : Below w.heap.size w (w3.setCell ⟨w.heap.size, 0, none⟩ (.int .i64 (a : Int))) := hb3.setCell (p := ⟨w.heap.size, 0, none⟩) (Nat.le_refl _) _
  have HA : Hid (_) := AtEnd_any (w3.setCell ⟨w.heap.size, 0, none⟩ (.int .i64 (a : Int))) (w.heap.size + 1) s3 (Blk.chg hk3 ((Chg.refl (fun k => k = w.heap.size) w3).setCell (p := ⟨w.heap.size, 0, none⟩) rfl _) (by omega)) hs3
  have d0 := (kf4.cell 0).trans rfl
  have d1 := (kf4.cell 1).trans rfl
  have d2 := (kf4.cell 2).trans rfl
  have d3 := (kf4.cell 3).trans rfl
  have d4 := (kf4.cell 4).trans rfl
  have g0 := kf4.frozen
  have HB : Hid (Below w.heap.size w (w3.setCell ⟨w.heap.size, 0, none⟩ (.int .i64 (a : Int)))) := hb4
  have HKf : Hid (Blk (w3.setCell ⟨w.heap.size, 0, none⟩ (.int .i64 (a : Int))) w.heap.size #[.int .i64 (a : Int), .bool true, .map none, .map none, .map none] 108) := kf4
  clear H3 HK kf3 hb3 hk3 hs3 hch3 hb4 kf4
  go_wp2_with fail
  refine Calls.mono HA.out ?_
  rintro e w5 ⟨rfl, rfl⟩
  clear HA c0 f0
  go_wp2_with fail
  have kz := blk5_all (u0 := .int .i64 (a : Int)) (u1 := .bool true) (u2 := .map none) (u3 := .map none) (u4 := .map none) HKf.out
  have hbz := bl_w (i := 4) (u := .map none) (bl_w (i := 3) (u := .map none) (bl_w (i := 2) (u := .map none) (bl_w (i := 1) (u := .bool true) (bl_w (i := 0) (u := .int .i64 (a : Int)) HB.out))))
  clear d0 d1 d2 d3 d4 g0 HB HKf
  generalize ((((((w3.setCell ⟨w.heap.size, 0, none⟩ (.int .i64 (a : Int))).setCell ⟨w.heap.size, 0, none⟩ (.int .i64 (a : Int))).setCell ⟨w.heap.size, 1, none⟩ (.bool true)).setCell ⟨w.heap.size, 2, none⟩ (.map none)).setCell ⟨w.heap.size, 3, none⟩ (.map none)).setCell ⟨w.heap.size, 4, none⟩ (.map none)) = wz at *
  have d0 := (kz.cell 0).trans rfl
  have d1 := (kz.cell 1).trans rfl
  have d2 := (kz.cell 2).trans rfl
  have d3 := (kz.cell 3).trans rfl
  have d4 := (kz.cell 4).trans rfl
  exact bodyPost_ret (v := .tuple #[.agg #[.int .i64 (a : Int), .bool true, .map none, .map none, .map none], .bool true]) (by simp [results, Tryz.results79, go_sem, d0, d1, d2, d3, d4]) rfl ⟨rfl, hbz⟩

set_option maxHeartbeats 4000000 in
set_option maxRecDepth 100000 in
theorem fRead_brings (w : World) (hG : Glob w) (s : ByteArray) (a : Nat) (ha : a ≤ 5) (rs : List (Nat × Nat)) (its : List (Nat × Thk.Bs)) (hs : toL s = encF a rs its) (hsz : s.size ≤ 1000000000)
    (hrs : rs.length ≤ 500) (hro : ∀ x ∈ rs, okR x) (his : its.length ≤ 500) (hio : ∀ x ∈ its, (who x.1 ≤ 5 ∧ 1 ≤ nth x.1 ∧ nth x.1 ≤ 500) ∧ x.2.length < 16384 ∧ ∃ c, Thk.read x.2 = .inr c ∧ effB c.act = true) :
    Calls Tryz.prog 79 #[.string s] w fun e w' => ∃ ib cb lb, e = .returned (.tuple #[.agg #[.int .i64 (a : Int), .bool false, .map (some ib), .map (some cb), .map (some lb)], .bool true]) ∧ StoreS w' ib cb lb (fun d => itsC its its.length d ≠ none ∨ d ∈ flatR rs) (itsC its its.length) ∧ (w.heap.size ≤ ib ∧ w.heap.size ≤ cb ∧ w.heap.size ≤ lb) ∧ Below w.heap.size w w' := by
  have hg3 : 3 < w.heap.size := hG.size
  have hs' : toL s = encN 0 ++ (encN a ++ encS rs its) := by rw [hs]; unfold encF; rw [List.append_assoc]
  have H1 : Hid (∀ ob, Calls Tryz.prog 135 #[.pointer (some ⟨w.heap.size + 1, 0, none⟩), .int .i64 0, .int .i64 1] ((w.alloc ob).alloc (.cells #[.string s, .bool false] 246)) fun e w' => ∃ s', e = .returned (.int .i64 0) ∧ RdP w' (w.heap.size + 1) s' ∧ toL s' = encN a ++ encS rs its ∧ Chg (fun k => k = w.heap.size + 1) ((w.alloc ob).alloc (.cells #[.string s, .bool false] 246)) w') := fun ob => by
    have hk := Blk.new (w.alloc ob) #[.string s, .bool false] 246
    rw [World.size_alloc] at hk
    exact rNumber_any _ (w.heap.size + 1) s 0 0 1 (encN a ++ encS rs its) hk hs' (by omega) (by omega) (by omega) (by omega) hsz
  have H2 : Hid (∀ wx s1, RdP wx (w.heap.size + 1) s1 → toL s1 = encN a ++ encS rs its → Calls Tryz.prog 135 #[.pointer (some ⟨w.heap.size + 1, 0, none⟩), .int .i64 0, .int .i64 5] wx fun e w' => ∃ s', e = .returned (.int .i64 (a : Int)) ∧ (RdP w' (w.heap.size + 1) s' ∧ toL s' = encS rs its ++ [] ∧ s'.size ≤ 1000000000) ∧ Chg (fun k => k = w.heap.size + 1) wx w') := fun wx s1 h1 h2 => by
    have hz1 := rd_len (w := w) (rb := 0) hs' h2 hsz
    refine Calls.mono (rNumber_any wx _ s1 a 0 5 (encS rs its) h1 h2 (by omega) (by omega) ha (by omega) hz1) ?_
    rintro e w' ⟨s', rfl, h3, h4, h5⟩
    exact ⟨s', rfl, ⟨h3, by rw [h4, List.append_nil], rd_len (w := w) (rb := 0) h2 h4 hz1⟩, h5⟩
  have H4 : Hid (∀ wx s1, Below w.heap.size w wx → RdP wx (w.heap.size + 1) s1 → toL s1 = encS rs its ++ [] → s1.size ≤ 1000000000 → Calls Tryz.prog 136 #[.pointer (some ⟨w.heap.size + 1, 0, none⟩)] wx _) := fun wx s1 hb h1 h2 h3 => rStore_any wx (hG.mono hb) (w.heap.size + 1) (by omega) s1 rs its [] h1 h2 h3 hrs hro his hio
  clear hs hs' hsz hG hro hio
  go_enter Tryz.func79, Tryz.ntmps79
  go_wp2_with fail
  refine Calls.mono (NewReader_any _ s) ?_
  rintro e w1 ⟨rfl, rfl⟩
  simp only [World.size_alloc]
  go_wp2_with fail
  refine Calls.mono (H1.out _) ?_
  rintro e w2 ⟨s2, rfl, hk2, hs2, hch2⟩
  have kf2 : Blk w2 w.heap.size #[.int .i64 0, .bool false, .map none, .map none, .map none] 108 := ((Blk.new w _ _).alloc _).chg hch2 (by omega)
  have hb2 : Below w.heap.size w w2 := rb_below (((Below.refl _ w).alloc (Nat.le_refl _) _).alloc (by simp) _) hch2 (by omega)
  have c1 := (kf2.cell 1).trans rfl
  have f0 := kf2.frozen
  have HK : Hid (Blk w2 w.heap.size #[.int .i64 0, .bool false, .map none, .map none, .map none] 108 ∧ Below w.heap.size w w2 ∧ RdP w2 (w.heap.size + 1) s2) := ⟨kf2, hb2, hk2⟩
  have H3 : Hid (_) := H2.out (w2.setCell ⟨w.heap.size, 1, none⟩ (.bool false)) s2 (Blk.chg hk2 ((Chg.refl (fun k => k = w.heap.size) w2).setCell (p := ⟨w.heap.size, 1, none⟩) rfl _) (by omega)) hs2
  clear H1 H2 kf2 hb2 hk2 hs2 hch2
  go_wp2_with fail
  refine Calls.mono H3.out ?_
  rintro e w3 ⟨s3, rfl, hR3, hch3⟩
  have kf3 : Blk w3 w.heap.size #[.int .i64 0, .bool false, .map none, .map none, .map none] 108 := ((blk_set5 HK.out.1).2).chg hch3 (by omega)
  have hb3 : Below w.heap.size w w3 := rb_below (HK.out.2.1.setCell (p := ⟨w.heap.size, 1, none⟩) (Nat.le_refl _) _) hch3 (by omega)
  have c0 := (kf3.cell 0).trans rfl
  have f0 := kf3.frozen
  have kf4 : Blk (w3.setCell ⟨w.heap.size, 0, none⟩ (.int .i64 (a : Int))) w.heap.size #[.int .i64 (a : Int), .bool false, .map none, .map none, .map none] 108 := (blk_set5 kf3).1
  have hb4 : Below w.heap.size w (w3.setCell ⟨w.heap.size, 0, none⟩ (.int .i64 (a : Int))) := hb3.setCell (p := ⟨w.heap.size, 0, none⟩) (Nat.le_refl _) _
  have HS : Hid (_) := H4.out (w3.setCell ⟨w.heap.size, 0, none⟩ (.int .i64 (a : Int))) s3 hb4 (Blk.chg hR3.1 ((Chg.refl (fun k => k = w.heap.size) w3).setCell (p := ⟨w.heap.size, 0, none⟩) rfl _) (by omega)) hR3.2.1 hR3.2.2
  have d1 := (kf4.cell 1).trans rfl
  have HB : Hid (Below w.heap.size w (w3.setCell ⟨w.heap.size, 0, none⟩ (.int .i64 (a : Int))) ∧ Blk (w3.setCell ⟨w.heap.size, 0, none⟩ (.int .i64 (a : Int))) w.heap.size #[.int .i64 (a : Int), .bool false, .map none, .map none, .map none] 108) := ⟨hb4, kf4⟩
  have hw3 : w.heap.size ≤ (w3.setCell ⟨w.heap.size, 0, none⟩ (.int .i64 (a : Int))).heap.size := hb4.size
  clear H3 H4 HK kf3 hb3 hR3 hch3 hb4 kf4
  go_wp2_with fail
  refine Calls.mono HS.out ?_
  rintro e w5 ⟨ib, cb, lb, s5, rfl, hst, hk5, hs5, hnew, hch5⟩
  have kf5 := HB.out.2.chg hch5 (by omega)
  have hb5 := rb_below HB.out.1 hch5 (by omega)
  have e2 := (kf5.cell 2).trans rfl
  have e3 := (kf5.cell 3).trans rfl
  have e4 := (kf5.cell 4).trans rfl
  have g0 := kf5.frozen
  have hc6 : Chg (fun k => k = w.heap.size) w5 (((w5.setCell ⟨w.heap.size, 2, none⟩ (.map (some ib))).setCell ⟨w.heap.size, 3, none⟩ (.map (some cb))).setCell ⟨w.heap.size, 4, none⟩ (.map (some lb))) := (((Chg.refl (fun k => k = w.heap.size) w5).setCell (p := ⟨w.heap.size, 2, none⟩) rfl _).setCell (p := ⟨w.heap.size, 3, none⟩) rfl _).setCell (p := ⟨w.heap.size, 4, none⟩) rfl _
  have kf6 : Blk (((w5.setCell ⟨w.heap.size, 2, none⟩ (.map (some ib))).setCell ⟨w.heap.size, 3, none⟩ (.map (some cb))).setCell ⟨w.heap.size, 4, none⟩ (.map (some lb))) w.heap.size #[.int .i64 (a : Int), .bool false, .map (some ib), .map (some cb), .map (some lb)] 108 := blk5_tail kf5
  have hb6 := bl_w (i := 4) (u := .map (some lb)) (bl_w (i := 3) (u := .map (some cb)) (bl_w (i := 2) (u := .map (some ib)) hb5))
  have hnw : w.heap.size < w5.heap.size := kf5.lt
  have hnn : w.heap.size < ib ∧ w.heap.size < cb ∧ w.heap.size < lb := by
    have := HB.out.2.lt
    omega
  have HF : Hid (StoreS (((w5.setCell ⟨w.heap.size, 2, none⟩ (.map (some ib))).setCell ⟨w.heap.size, 3, none⟩ (.map (some cb))).setCell ⟨w.heap.size, 4, none⟩ (.map (some lb))) ib cb lb (fun d => itsC its its.length d ≠ none ∨ d ∈ flatR rs) (itsC its its.length)) := hst.chg hc6 (by omega) (by omega) (by omega)
  have HA : Hid (_) := AtEnd_any (((w5.setCell ⟨w.heap.size, 2, none⟩ (.map (some ib))).setCell ⟨w.heap.size, 3, none⟩ (.map (some cb))).setCell ⟨w.heap.size, 4, none⟩ (.map (some lb))) (w.heap.size + 1) s5 (Blk.chg hk5 hc6 (by omega)) hs5
  have HKf : Hid (Blk (((w5.setCell ⟨w.heap.size, 2, none⟩ (.map (some ib))).setCell ⟨w.heap.size, 3, none⟩ (.map (some cb))).setCell ⟨w.heap.size, 4, none⟩ (.map (some lb))) w.heap.size #[.int .i64 (a : Int), .bool false, .map (some ib), .map (some cb), .map (some lb)] 108 ∧ Below w.heap.size w (((w5.setCell ⟨w.heap.size, 2, none⟩ (.map (some ib))).setCell ⟨w.heap.size, 3, none⟩ (.map (some cb))).setCell ⟨w.heap.size, 4, none⟩ (.map (some lb)))) := ⟨kf6, hb6⟩
  clear HS HB hst hk5 hs5 hch5 kf5 hb5 kf6 hb6 hc6 c0 f0 d1
  go_wp2_with fail
  generalize (((w5.setCell ⟨w.heap.size, 2, none⟩ (.map (some ib))).setCell ⟨w.heap.size, 3, none⟩ (.map (some cb))).setCell ⟨w.heap.size, 4, none⟩ (.map (some lb))) = w6 at *
  refine Calls.mono HA.out ?_
  rintro e w7 ⟨rfl, rfl⟩
  have d0 := (HKf.out.1.cell 0).trans rfl
  have d1 := (HKf.out.1.cell 1).trans rfl
  have d2 := (HKf.out.1.cell 2).trans rfl
  have d3 := (HKf.out.1.cell 3).trans rfl
  have d4 := (HKf.out.1.cell 4).trans rfl
  have g6 := HKf.out.1.frozen
  clear HA e2 e3 e4 g0
  go_wp2_with fail
  have kz := blk5_all (u0 := .int .i64 (a : Int)) (u1 := .bool false) (u2 := .map (some ib)) (u3 := .map (some cb)) (u4 := .map (some lb)) HKf.out.1
  have hbz := bl_w (i := 4) (u := .map (some lb)) (bl_w (i := 3) (u := .map (some cb)) (bl_w (i := 2) (u := .map (some ib)) (bl_w (i := 1) (u := .bool false) (bl_w (i := 0) (u := .int .i64 (a : Int)) HKf.out.2))))
  have hsz := HF.out.chg (M := fun k => k = w.heap.size) (((((Chg.refl (fun k => k = w.heap.size) w7).setCell (p := ⟨w.heap.size, 0, none⟩) rfl (.int .i64 (a : Int))).setCell (p := ⟨w.heap.size, 1, none⟩) rfl (.bool false)).setCell (p := ⟨w.heap.size, 2, none⟩) rfl (.map (some ib))).setCell (p := ⟨w.heap.size, 3, none⟩) rfl (.map (some cb)) |>.setCell (p := ⟨w.heap.size, 4, none⟩) rfl (.map (some lb))) (by omega) (by omega) (by omega)
  clear d0 d1 d2 d3 d4 g6 HF HKf
  generalize (((((w7.setCell ⟨w.heap.size, 0, none⟩ (.int .i64 (a : Int))).setCell ⟨w.heap.size, 1, none⟩ (.bool false)).setCell ⟨w.heap.size, 2, none⟩ (.map (some ib))).setCell ⟨w.heap.size, 3, none⟩ (.map (some cb))).setCell ⟨w.heap.size, 4, none⟩ (.map (some lb))) = wz at *
  have d0 := (kz.cell 0).trans rfl
  have d1 := (kz.cell 1).trans rfl
  have d2 := (kz.cell 2).trans rfl
  have d3 := (kz.cell 3).trans rfl
  have d4 := (kz.cell 4).trans rfl
  exact bodyPost_ret (v := .tuple #[.agg #[.int .i64 (a : Int), .bool false, .map (some ib), .map (some cb), .map (some lb)], .bool true]) (by simp [results, Tryz.results79, go_sem, d0, d1, d2, d3, d4]) rfl ⟨ib, cb, lb, rfl, hsz, by omega, hbz⟩
end Go.Proofs.YtoiiaankpnhppaaGreatDoor

