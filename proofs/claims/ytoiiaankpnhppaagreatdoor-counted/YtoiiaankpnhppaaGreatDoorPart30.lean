import Derived.Deep.RegionHeld3
import Derived.Test.YtoiiaankpnhppaaGreatDoorPart06
import Derived.Test.YtoiiaankpnhppaaGreatDoorPart23
import Derived.Test.YtoiiaankpnhppaaGreatDoorPart28
import Derived.Test.YtoiiaankpnhppaaGreatDoorPart29
set_option linter.unusedVariables false
set_option linter.unusedSimpArgs false
namespace Go.Proofs.YtoiiaankpnhppaaGreatDoor
open Go.RowKit Go.Maps Go.WideMaps Go.Deep

def ptrs (bs : List Nat) : List Value := bs.map fun b => .pointer (some ⟨b, 0, none⟩)
structure NewP (w0 : World) (w : World) (rv : Value) (rbs : List Nat) : Prop where
  blk : Blk w w0.heap.size #[.int .i32 0, .int .u32 0, rv, .slice none 0 0] 74
  row : w.ownsRow w0.heap.size 76 1 rv rbs.length (ptrs rbs)
  rep : ∀ j (h : j < rbs.length), Blk w rbs[j] #[.int .i64 (j : Int), .map none, .map none, .map none] 112 ∧ w0.heap.size ≤ rbs[j]
  bel : Below w0.heap.size w0 w
theorem blk_types {w : World} {b : Nat} {cs cs' : Array Value} {t t' : TypeId} (h : Blk w b cs t) (h' : Blk w b cs' t') : cs = cs' ∧ t = t' := by
  have e2 : some (Obj.cells _ _ _) = some (Obj.cells _ _ _) := (show w.heap[b]? = _ from h).symm.trans h'
  injection e2 with e2
  injection e2 with e1 e3
  exact ⟨e1, e3⟩
theorem NewP.ne {w0 w : World} {rv : Value} {rbs : List Nat} (h : NewP w0 w rv rbs) {b : Nat} {cs : Array Value} {t : TypeId} (hb : Blk w b cs t) (ht : t ≠ 76) : rv.ownBlock ≠ some b := by
  refine ownsRow_ne h.row (fun cur fz e => ?_)
  have e2 : some (Obj.cells _ _ _) = some (Obj.cells _ _ _) := (show w.heap[b]? = _ from hb).symm.trans e
  injection e2 with e2
  injection e2 with e1 e3
  exact ht e3
theorem NewP.more {w0 w w6 : World} {rv : Value} {rbs : List Nat} (h : NewP w0 w rv rbs) {g c : Nat}
    (ho : w6.ownsRow w0.heap.size 76 1 (.slice (some ⟨g, 0, none⟩) (rbs.length + 1) c) (rbs.length + 1) (ptrs rbs ++ [.pointer (some ⟨w.heap.size, 0, none⟩)]))
    (hg : ((w.alloc (.cells #[.int .i64 (rbs.length : Int), .map none, .map none, .map none] 112)).alloc (.cells #[.pointer (some ⟨w.heap.size, 0, none⟩)] 76)).grownBy w6 rv.ownBlock) :
    NewP w0 (w6.setCell ⟨w0.heap.size, 2, none⟩ (.slice (some ⟨g, 0, none⟩) (rbs.length + 1) c)) (.slice (some ⟨g, 0, none⟩) (rbs.length + 1) c) (rbs ++ [w.heap.size]) := by
  have hlr : (rbs ++ [w.heap.size]).length = rbs.length + 1 := by simp
  have hnr : Blk ((w.alloc (.cells #[.int .i64 (rbs.length : Int), .map none, .map none, .map none] 112)).alloc (.cells #[.pointer (some ⟨w.heap.size, 0, none⟩)] 76)) w.heap.size #[.int .i64 (rbs.length : Int), .map none, .map none, .map none] 112 := (Blk.new w _ _).alloc _
  have keep : ∀ {b : Nat} {cs : Array Value} {t : TypeId}, Blk w b cs t → t ≠ 76 → Blk w6 b cs t := fun hb ht => by
    have h2 := (hb.alloc (.cells #[.int .i64 (rbs.length : Int), .map none, .map none, .map none] 112)).alloc (.cells #[.pointer (some ⟨w.heap.size, 0, none⟩)] 76)
    exact (hg.block _ h2.lt (Ne.symm (h.ne hb ht))).trans h2
  have hB := keep h.blk (by decide)
  have hrn : Blk w6 w.heap.size #[.int .i64 (rbs.length : Int), .map none, .map none, .map none] 112 := by
    refine (hg.block _ hnr.lt (fun e => ?_)).trans hnr
    have := (h.row.lt _ e.symm).2
    omega
  have hbl : Below w0.heap.size w0 w6 := by
    have h1 : Below w0.heap.size w0 ((w.alloc (.cells #[.int .i64 (rbs.length : Int), .map none, .map none, .map none] 112)).alloc (.cells #[.pointer (some ⟨w.heap.size, 0, none⟩)] 76)) := (h.bel.alloc h.bel.size _).alloc (Nat.le_trans h.bel.size (by simp)) _
    exact h1.grown hg h1.size (fun k hk => (h.row.lt k hk).1)
  have hgx : g ≠ w0.heap.size := fun e => by
    subst e
    obtain ⟨_, ⟨h1, _⟩ | ⟨g', cp, cur, hv, _, hh, _⟩⟩ := ho
    · cases h1
    · simp only [Value.slice.injEq, Option.some.injEq, Addr.mk.injEq, true_and, and_true] at hv
      obtain ⟨rfl, rfl⟩ := hv
      exact absurd (blk_types hB hh).2 (by decide)
  refine ⟨?_, ?_, fun j hj => ?_, hbl.setCell (p := ⟨w0.heap.size, 2, none⟩) (Nat.le_refl _) _⟩
  · unfold Blk at hB ⊢
    simp [World.setCell, Array.getElem?_modify, hB]
  · rw [hlr]
    have e : ptrs (rbs ++ [w.heap.size]) = ptrs rbs ++ [.pointer (some ⟨w.heap.size, 0, none⟩)] := by simp [ptrs]
    rw [e]
    exact ownsRow_setCell_other ho (a := ⟨w0.heap.size, 2, none⟩) (fun e => hgx (by simpa [Value.ownBlock] using e)) _
  · by_cases hlt : j < rbs.length
    · rw [List.getElem_append_left hlt]
      obtain ⟨r1, r2⟩ := h.rep j hlt
      exact ⟨blk_oth (keep r1 (by decide)) (fun e => by rw [e] at r1; exact absurd (blk_types r1 h.blk).2 (by decide)), r2⟩
    · have hj' : j = rbs.length := by simp at hj; omega
      subst hj'
      rw [List.getElem_append_right (Nat.le_refl _)]
      simp only [Nat.sub_self, List.getElem_cons_zero]
      exact ⟨blk_oth hrn (fun e => absurd (blk_types (e ▸ hrn) hB).2 (by decide)), h.bel.size⟩
theorem NewP.done {w0 w : World} {rv : Value} {rbs : List Nat} (h : NewP w0 w rv rbs) (h4 : 4 ≤ w0.heap.size) (h1 : 1 ≤ rbs.length) (h6 : rbs.length ≤ 6) :
    ∃ q cap, rv = .slice (some ⟨q, 0, none⟩) rbs.length cap ∧ w0.heap.size ≤ q ∧ CluP w w0.heap.size q cap (.slice none 0 0) 0 (rbs.map fun b => ⟨b, none, none, none, fun _ => 0, fun _ => none⟩) [] := by
  obtain ⟨hx, ⟨e1, e2⟩ | ⟨q, cap, cur, rfl, hq, hh, hcap, _, hsz, htk⟩⟩ := h.row
  · omega
  · refine ⟨q, cap, rfl, hq, ?_, ⟨cur, hh, fun j hj => ?_⟩, World.ownsRow_nil _ _ _ _, fun j hj => ?_, fun i j hi hj hij => ?_, fun j hj => ?_, fun j hj => ?_, by simpa using h6, h4, by simp⟩
    · simpa using h.blk
    · have hj' : j < rbs.length := by simpa using hj
      have e : cur.toList[j]? = (ptrs rbs)[j]? := by rw [← htk, List.getElem?_take, if_pos (by omega)]
      rw [← Array.getElem?_toList, e]
      simp [ptrs, hj']
    · have hj' : j < rbs.length := by simpa using hj
      have hr := (h.rep j hj').1
      have hc : cm (fun _ => 0) = fun _ => none := (cm_ext (fun a => rfl) (fun key _ => rfl)).symm
      have hl : lm (fun _ => false) = fun _ => none := by funext key; simp [lm]
      have hi : itOf (fun _ => none) = fun _ => none := rfl
      simp only [List.getElem_map]
      exact ⟨hr, ⟨⟨fun _ => 0, fun _ => false, ⟨⟨0, Or.inl ⟨rfl, rfl, hc⟩⟩, ⟨0, Or.inl ⟨rfl, rfl, hl⟩⟩, fun _ => by omega, fun _ h => absurd rfl h, fun n h => (by cases h)⟩, fun _ => rfl, fun n _ => by simp [inK]⟩, ⟨0, Or.inl ⟨rfl, rfl, by rw [hi, im_none]⟩⟩, fun n h => absurd rfl h⟩, fun k c h => (by cases h), fun _ => by omega, by omega⟩
    · have hi' : i < rbs.length := by simpa using hi
      have hj' : j < rbs.length := by simpa using hj
      simp only [List.getElem_map]
      rintro (e | e | e | e)
      · have e0 : rbs[i] = rbs[j] := e
        have r1 := (h.rep i hi').1
        rw [e0] at r1
        have := (blk_types r1 (h.rep j hj').1).1
        simp at this
        omega
      · cases e
      · cases e
      · cases e
    · have hj' : j < rbs.length := by simpa using hj
      simp only [List.getElem_map]
      rintro (e | e | e | e)
      · have e0 : w0.heap.size = rbs[j] := e
        have r1 := (h.rep j hj').1
        rw [← e0] at r1
        exact absurd (blk_types r1 h.blk).2 (by decide)
      · cases e
      · cases e
      · cases e
    · have hj' : j < rbs.length := by simpa using hj
      simp only [List.getElem_map]
      rintro (e | e | e | e)
      · have e0 : q = rbs[j] := e
        have r1 := (h.rep j hj').1
        rw [← e0] at r1
        exact absurd (blk_types r1 hh).2 (by decide)
      · cases e
      · cases e
      · cases e

set_option maxHeartbeats 400000 in
theorem New_bad (r room : Int) (w : World) (h : r < 1 ∨ 6 < r ∨ room < 0 ∨ 50 < room) :
    Calls Tryz.prog 27 #[.int .i64 r, .int .i64 room] w fun e w' => e = .returned (.tuple #[.pointer none, .int .i64 1]) ∧ w' = w := by
  have hd : (decide (r < 1) || decide (6 < r) || decide (room < 0) || decide (50 < room)) = true := by simp; omega
  go_enter Tryz.func27, Tryz.ntmps27
  go_wp2
  all_goals first | (go_ret2; exact ⟨rfl, rfl⟩) | (exfalso; omega)

theorem Tryz.infoPR : (Tryz.prog.info? 76).map (fun i => (i.zero, i.size, i.bytes)) = some (some (.pointer none), 1, 8) := by kernel_rfl

set_option maxHeartbeats 4000000 in
set_option maxRecDepth 100000 in
theorem New_good (r room : Nat) (w : World) (h4 : 4 ≤ w.heap.size) (h1 : 1 ≤ r) (h6 : r ≤ 6) (h50 : room ≤ 50) :
    Calls Tryz.prog 27 #[.int .i64 (r : Int), .int .i64 (room : Int)] w fun e w' => ∃ rv rbs, e = .returned (.tuple #[.pointer (some ⟨w.heap.size, 0, none⟩), .int .i64 0]) ∧ rbs.length = r ∧ NewP w w' rv rbs := by
  obtain ⟨iR, hiR, hzR0, hzR1, hzR2⟩ := info_parts Tryz.infoPR
  go_enter Tryz.func27, Tryz.ntmps27
  go_wp2
  go_loopw [25] (fun i wr => ∃ (rbs : List Nat) (rv : Value), rbs.length ≤ r ∧ i = .int .i64 (rbs.length : Int) ∧ NewP w wr rv rbs) (fun i _ => r - (intOf i).toNat)
  case atStart =>
    exact ⟨[], .slice none 0 0, by simp, rfl, Blk.new w _ _, World.ownsRow_nil _ _ _ _, fun j h => absurd h (by simp), (Below.refl _ _).alloc (Nat.le_refl _) _⟩
  case round =>
    obtain ⟨rbs, rv, hk, rfl, hN⟩ := hrel
    by_cases hlt : rbs.length < r
    · have HN : Hid (NewP w wr rv rbs) := hN
      have hwl : w.heap.size < wr.heap.size := hN.blk.lt
      have c1 : wr.cell? ⟨w.heap.size, 2, none⟩ = some rv := (hN.blk.cell 2).trans rfl
      have c1A : ∀ o, (wr.alloc o).cell? ⟨w.heap.size, 2, none⟩ = some rv := fun o => ((HN.out.blk.alloc o).cell 2).trans rfl
      have c1B : ∀ o o', ((wr.alloc o).alloc o').cell? ⟨w.heap.size, 2, none⟩ = some rv := fun o o' => (((HN.out.blk.alloc o).alloc o').cell 2).trans rfl
      have c1C : ∀ o, (wr.drew.alloc o).cell? ⟨w.heap.size, 2, none⟩ = some rv := c1A
      have c1D : ∀ o o', ((wr.drew.alloc o).alloc o').cell? ⟨w.heap.size, 2, none⟩ = some rv := c1B
      have HD : Hid (NewP w wr.drew rv rbs) := ⟨hN.blk, hN.row, hN.rep, hN.bel.drew⟩
      have HE : Hid (∀ o o', Blk ((wr.drew.alloc o).alloc o') w.heap.size #[.int .i32 0, .int .u32 0, rv, .slice none 0 0] 74) := fun o o' => (HD.out.blk.alloc o).alloc o'
      have m1 : Hid (rbs.length + 1 ≤ maxLen) := by unfold Hid maxLen; omega
      have m2 : Hid ((rbs.length + 1) * 8 ≤ 140737488355328) := by unfold Hid; omega
      have hne : Hid (rv.ownBlock ≠ some w.heap.size) := hN.ne hN.blk (by decide)
      have ha5 : rbs.length ≤ 5 := by omega
      clear hN
      go_wp2_with fail
      go_region_law (first | (go_simp; refine Calls.mono (RepNew_any _ rbs.length ha5) ?_; rintro e w' ⟨rfl, rfl⟩) | (refine step_append_own rfl (.tmp 32) (.tmp 35) 71 rfl w.heap.size 76 iR (.pointer none) 1 8 Tryz.underlying71 hiR hzR0 hzR1 hzR2 rfl (by decide) rv rbs.length (ptrs rbs) rfl ?_ _ 1 1 [.pointer (some ⟨wr.heap.size, 0, none⟩)] rfl rfl ?_ ?_ m1.out m2.out ?_ ?_; (exact (HD.out.row.alloc _).alloc _); (intro j u hj; match j, hj with | 0, hj => (cases hj; simp [Addr.add])); (intro u hu; simp at hu; subst hu; rfl); (simp; omega); intro v6 w6 ho6 hg6; obtain ⟨g6, c6, rfl⟩ := own_some ho6 (Nat.succ_pos _); have k1 := hg6.cell (c1D _ _) (Ne.symm hne.out); have kf : w6.frozen? ⟨w.heap.size, 2, none⟩ = false := Blk.frozen (cs := #[.int .i32 0, .int .u32 0, rv, .slice none 0 0]) (t := 74) ((hg6.block _ (HE.out _ _).lt (Ne.symm hne.out)).trans (HE.out _ _)) 2))
      all_goals
        go_wp2
        go_roundw
        case rel =>
          have hm := HD.out.more ho6 hg6
          exact ⟨rbs ++ [wr.heap.size], .slice (some ⟨g6, 0, none⟩) (rbs.length + 1) c6, by simp <;> omega, by simp <;> go_num, hm⟩
        case measure => simp [intOf]; omega
    · have HN : Hid (NewP w wr rv rbs) := hN
      have hr : rbs.length = r := by omega
      clear hN
      go_wp2
      go_ret2
      exact ⟨rv, rbs, rfl, hr, HN.out⟩
end Go.Proofs.YtoiiaankpnhppaaGreatDoor
namespace Go.Proofs.YtoiiaankpnhppaaGreatDoor
open Go.RowKit Go.Maps Go.WideMaps Go.MuLone Go.Deep

theorem map_noTag {w : World} {b : Nat} {t k : TypeId} {N : Nat} {m : Value → Option Value} (h : MapO Tryz.prog k w (.map (some b)) N m) (ht : Tagged w b t) : False := by
  obtain ⟨h1, _⟩ | ⟨b', h1, D, ⟨es, clock, h2, _⟩, _⟩ := h
  · cases h1
  · cases h1
    obtain ⟨cur, h3⟩ := ht
    rw [h2] at h3
    cases h3
theorem blk_tag {w : World} {b : Nat} {cs : Array Value} {t t' : TypeId} (h : Blk w b cs t) (ht : Tagged w b t') : t' = t := by
  obtain ⟨cur, h3⟩ := ht
  exact (blk_types h h3).2.symm
section
variable {w w' : World} {x q cap : Nat} {fv : Value} {st : Int} {ds : List RepD} {bs : List (Nat × ByteArray)}
theorem CluP.repTag (h : CluP w x q cap fv st ds bs) (j : Nat) (hj : j < ds.length) {k : Nat} (ho : ds[j].own k) {t : TypeId} (ht : Tagged w k t) : t = 112 := by
  have hr := h.rep j hj
  rcases ho with rfl | ho | ho | ho
  · exact blk_tag hr.blk ht
  · obtain ⟨N, hm⟩ := hr.st.its
    rw [ho] at hm
    exact (map_noTag hm ht).elim
  · obtain ⟨N, hm⟩ := hr.ctx.cs
    rw [ho] at hm
    exact (map_noTag hm ht).elim
  · obtain ⟨N, hm⟩ := hr.ctx.ls
    rw [ho] at hm
    exact (map_noTag hm ht).elim
theorem CluP.more {w6 : World} (h : CluP w x q cap fv st ds bs) (hc : Chg (fun k => fv.ownBlock = some k) w w6) {dn : Nat} {s : ByteArray} {g c : Nat} (hb : bs.length + 1 ≤ 500)
    (ho : w6.ownsRow 0 92 2 (.slice (some ⟨g, 0, none⟩) (bs.length + 1) c) (bs.length + 1) (frV bs ++ [.int .i64 (dn : Int), .string s])) :
    CluP (w6.setCell ⟨x, 3, none⟩ (.slice (some ⟨g, 0, none⟩) (bs.length + 1) c)) x q cap (.slice (some ⟨g, 0, none⟩) (bs.length + 1) c) st ds (bs ++ [(dn, s)]) := by
  have hno : ∀ {k : Nat} {t : TypeId}, Tagged w k t → t ≠ 92 → ¬ fv.ownBlock = some k := fun ht hne hk => Tagged.ne ht (h.frT _ hk) hne rfl
  have hx : ¬ fv.ownBlock = some x := hno ⟨_, h.blk⟩ (by decide)
  obtain ⟨cs, r1, r2⟩ := h.row
  have hq : ¬ fv.ownBlock = some q := hno ⟨_, r1⟩ (by decide)
  have hb6 := h.blk.chg hc hx
  have hcx : Chg (fun k => k = x) w6 (w6.setCell ⟨x, 3, none⟩ (.slice (some ⟨g, 0, none⟩) (bs.length + 1) c)) := (Chg.refl (fun k => k = x) w6).setCell (p := ⟨x, 3, none⟩) rfl _
  have hgx : g ≠ x := fun e => by
    subst e
    obtain ⟨_, ⟨h1, _⟩ | ⟨g', cp, cur, hv, _, hh, _⟩⟩ := ho
    · cases h1
    · simp only [Value.slice.injEq, Option.some.injEq, Addr.mk.injEq, true_and, and_true] at hv
      obtain ⟨rfl, rfl⟩ := hv
      exact absurd (blk_types hb6 hh).2 (by decide)
  refine ⟨?_, ⟨cs, (r1.chg hc hq).chg hcx (Ne.symm h.xq), r2⟩, ?_, fun j hj => ?_, h.apart, h.xr, h.qr, h.len, h.x4, by simpa using hb⟩
  · unfold Blk at hb6 ⊢
    simp [World.setCell, Array.getElem?_modify, hb6]
  · rw [frV_snoc, List.length_append, List.length_singleton]
    exact ownsRow_setCell_other ho (a := ⟨x, 3, none⟩) (fun e => hgx (by simpa [Value.ownBlock] using e)) _
  · have hro : ∀ k, ds[j].own k → ¬ fv.ownBlock = some k := fun k hk hf => absurd (h.repTag j hj hk (h.frT k hf)) (by decide)
    exact ((h.rep j hj).chg hc (hro _ (Or.inl rfl)) (fun b hb => hro b (Or.inr hb))).chg hcx (fun e => h.xr j hj (Or.inl e.symm)) (fun b hb e => h.xr j hj (by subst e; exact Or.inr hb))
theorem CluP.fvS (h : CluP w x q cap fv st ds bs) : ∃ ao c, fv = .slice ao bs.length c ∧ bs.length ≤ c := by
  obtain ⟨_, ⟨h1, h2⟩ | ⟨g, cap, cur, h1, _, _, h3, _⟩⟩ := h.fr
  · exact ⟨none, 0, by rw [h1, h2], by omega⟩
  · exact ⟨_, cap, h1, h3⟩
end

set_option maxHeartbeats 1000000 in
theorem allSent_any (w : World) (x q cap : Nat) (fv : Value) (st : Int) (ds : List RepD) (bs : List (Nat × ByteArray)) (hC : CluP w x q cap fv st ds bs) :
    Calls Tryz.prog 55 #[.pointer (some ⟨x, 0, none⟩)] w fun e w' => e = .returned (.bool (decide (500 ≤ bs.length))) ∧ w' = w := by
  obtain ⟨ao, c, rfl, _⟩ := hC.fvS
  have c3 : w.cell? ⟨x, 3, none⟩ = some (.slice ao bs.length c) := (hC.blk.cell 3).trans rfl
  have hb := hC.b500
  clear hC
  generalize bs.length = n at *
  by_cases h : 500 ≤ n
  · have e1 : decide (500 ≤ n) = true := decide_eq_true h
    rw [e1]
    clear e1
    go_enter Tryz.func55, Tryz.ntmps55
    go_wp2
    go_ret
    exact ⟨by first | rfl | (simp; omega), rfl⟩
  · have e1 : decide (500 ≤ n) = false := decide_eq_false h
    rw [e1]
    clear e1
    go_enter Tryz.func55, Tryz.ntmps55
    go_wp2
    go_ret
    exact ⟨by first | rfl | (simp; omega), rfl⟩

set_option maxHeartbeats 1000000 in
theorem isSent_any (w : World) (x q cap : Nat) (fv : Value) (st : Int) (ds : List RepD) (bs : List (Nat × ByteArray)) (hC : CluP w x q cap fv st ds bs) (f : Int) :
    Calls Tryz.prog 43 #[.pointer (some ⟨x, 0, none⟩), .int .i64 f] w fun e w' => e = .returned (.bool (decide (1 ≤ f ∧ f ≤ bs.length))) ∧ w' = w := by
  obtain ⟨ao, c, rfl, _⟩ := hC.fvS
  have c3 : w.cell? ⟨x, 3, none⟩ = some (.slice ao bs.length c) := (hC.blk.cell 3).trans rfl
  have hb := hC.b500
  clear hC
  generalize bs.length = n at *
  by_cases h1 : 1 ≤ f
  · by_cases h : f ≤ (n : Int)
    · have e1 : decide (1 ≤ f ∧ f ≤ (n : Int)) = true := decide_eq_true ⟨h1, h⟩
      rw [e1]
      clear e1
      go_enter Tryz.func43, Tryz.ntmps43
      go_wp2
      go_ret
      exact ⟨by first | rfl | (simp; omega), rfl⟩
    · have e1 : decide (1 ≤ f ∧ f ≤ (n : Int)) = false := decide_eq_false (fun h2 => h h2.2)
      rw [e1]
      clear e1
      go_enter Tryz.func43, Tryz.ntmps43
      go_wp2
      go_ret
      exact ⟨by first | rfl | (simp; omega), rfl⟩
  · have e1 : decide (1 ≤ f ∧ f ≤ (n : Int)) = false := decide_eq_false (fun h2 => h1 h2.1)
    rw [e1]
    clear e1
    go_enter Tryz.func43, Tryz.ntmps43
    go_wp2
    go_ret
    exact ⟨by first | rfl | (simp; omega), rfl⟩

theorem Tryz.infoSent : (Tryz.prog.info? 92).map (fun i => (i.zero, i.size, i.bytes)) = some (some (.agg #[.int .i64 0, .string ⟨#[]⟩]), 2, 24) := by kernel_rfl

set_option maxHeartbeats 8000000 in
set_option maxRecDepth 100000 in
theorem send_any (w : World) (x q cap : Nat) (fv : Value) (st : Int) (ds : List RepD) (bs : List (Nat × ByteArray)) (hC : CluP w x q cap fv st ds bs) (hb : bs.length + 1 ≤ 500) (dn : Nat) (a : Int) (ak : Bool) (io co lo : Option Nat) (P : ByteArray → Prop)
    (hB : ∀ wx, Below w.heap.size w wx → Calls Tryz.prog 99 #[.agg #[.int .i64 a, .bool ak, .map io, .map co, .map lo]] wx fun e w' => ∃ s, e = .returned (.string s) ∧ P s ∧ Below wx.heap.size wx w') :
    Calls Tryz.prog 56 #[.pointer (some ⟨x, 0, none⟩), .int .i64 (dn : Int), .agg #[.int .i64 a, .bool ak, .map io, .map co, .map lo]] w fun e w' => ∃ s fv', e = .returned (.int .i64 ((bs.length + 1 : Nat) : Int)) ∧ P s ∧ CluP w' x q cap fv' st ds (bs ++ [(dn, s)]) ∧
      Chg (fun k => k = x ∨ fv.ownBlock = some k) w w' ∧ (∀ k, fv'.ownBlock = some k → fv.ownBlock = some k ∨ w.heap.size ≤ k) := by
  have HC : Hid (CluP w x q cap fv st ds bs) := hC
  obtain ⟨iR, hiR, hzR0, hzR1, hzR2⟩ := info_parts Tryz.infoSent
  obtain ⟨W0, hW0⟩ : ∃ W0, W0 = w.alloc (.cells #[.int .i64 a, .bool ak, .map io, .map co, .map lo] 108) := ⟨_, rfl⟩
  have hb0 : Below w.heap.size w W0 := by rw [hW0]; exact (Below.refl _ w).alloc (Nat.le_refl _) _
  have kf : Blk W0 w.heap.size #[.int .i64 a, .bool ak, .map io, .map co, .map lo] 108 := by rw [hW0]; exact Blk.new w _ _
  have HB : Hid (∀ wx, wx.heap = W0.heap → wx.os = W0.os → wx.tape = W0.tape → wx.output = W0.output → Calls Tryz.prog 99 #[.agg #[.int .i64 a, .bool ak, .map io, .map co, .map lo]] wx fun e w' => ∃ s, e = .returned (.string s) ∧ (P s ∧ Below w.heap.size w w') ∧ w'.ownsRow 0 92 2 fv bs.length (frV bs) ∧ w'.cell? ⟨x, 3, none⟩ = some fv ∧ (∀ o, (w'.alloc o).cell? ⟨x, 3, none⟩ = some fv) ∧ (∀ j, w'.frozen? ⟨x, j, none⟩ = false) ∧ w'.cell? ⟨w.heap.size, 0, none⟩ = some (.int .i64 a) ∧ w'.cell? ⟨w.heap.size, 1, none⟩ = some (.bool ak) ∧ w'.cell? ⟨w.heap.size, 2, none⟩ = some (.map io) ∧ w'.cell? ⟨w.heap.size, 3, none⟩ = some (.map co) ∧ w'.cell? ⟨w.heap.size, 4, none⟩ = some (.map lo)) := fun wx hx ho ht hp => by
    have hbx : Below w.heap.size w wx := ⟨ho.trans hb0.os, ht.trans hb0.tape, hp.trans hb0.output, by rw [hx]; exact hb0.size, fun k hk => by rw [hx]; exact hb0.block k hk⟩
    refine Calls.mono (hB wx hbx) ?_
    rintro e w' ⟨s, rfl, hP, hb2⟩
    have hbw : Below w.heap.size w w' := hbx.trans (hb2.mono hbx.size)
    have hC' := hC.below hbw
    have kx : Blk wx w.heap.size #[.int .i64 a, .bool ak, .map io, .map co, .map lo] 108 := by unfold Blk; rw [hx]; exact kf
    have k' := kx.below hb2
    exact ⟨s, rfl, ⟨hP, hbw⟩, hC'.fr, (hC'.blk.cell 3).trans rfl, fun o => ((hC'.blk.alloc o).cell 3).trans rfl, hC'.blk.frozen, (k'.cell 0).trans rfl, (k'.cell 1).trans rfl, (k'.cell 2).trans rfl, (k'.cell 3).trans rfl, (k'.cell 4).trans rfl⟩
  have hC0 := hC.below hb0
  have c3 : W0.cell? ⟨x, 3, none⟩ = some fv := (hC0.blk.cell 3).trans rfl
  have d0 := (kf.cell 0).trans rfl
  have d1 := (kf.cell 1).trans rfl
  have d2 := (kf.cell 2).trans rfl
  have d3 := (kf.cell 3).trans rfl
  have d4 := (kf.cell 4).trans rfl
  have Hne : Hid (fv.ownBlock ≠ some x) := fun e => Tagged.ne (hC.frT x e) ⟨_, hC.blk⟩ (by decide) rfl
  have hxl : Hid (x < w.heap.size) := hC.blk.lt
  have m1 : Hid (bs.length + 1 ≤ maxLen) := by unfold Hid maxLen; omega
  have m2 : Hid ((bs.length + 1) * 24 ≤ 140737488355328) := by unfold Hid; omega
  have hone : Hid (∀ (s : ByteArray), ∀ u ∈ [Value.int .i64 (dn : Int), .string s], u.oneCell' = true) := by intro s u hu; simp at hu; rcases hu with rfl | rfl <;> rfl
  have HW0 : Hid (w.alloc (.cells #[.int .i64 a, .bool ak, .map io, .map co, .map lo] 108) = W0) := hW0.symm
  clear hC hC0 hB hW0 hb0 kf
  go_enter Tryz.func56, Tryz.ntmps56
  go_wp2_with fail
  rw [HW0.out]
  go_cut [] from 7 to 20 (fun wx => ∃ s w6 g6 c6, wx = w6.setCell ⟨x, 3, none⟩ (.slice (some ⟨g6, 0, none⟩) (bs.length + 1) c6) ∧ P s ∧ Chg (fun k => fv.ownBlock = some k) w w6 ∧ w6.ownsRow 0 92 2 (.slice (some ⟨g6, 0, none⟩) (bs.length + 1) c6) (bs.length + 1) (frV bs ++ [.int .i64 (dn : Int), .string s]) ∧ (fv.ownBlock = some g6 ∨ w.heap.size ≤ g6))
  case first =>
    go_region_law (first | (go_simp; refine Calls.mono (HB.out _ rfl rfl rfl rfl) ?_; rintro e w5 ⟨s5, rfl, hP5, hrow5, e3, e3A, ef, f0, f1, f2, f3, f4⟩) | (refine step_append_row rfl (.tmp 11) (.tmp 16) 72 rfl 92 iR (.agg #[.int .i64 0, .string ⟨#[]⟩]) 2 24 Tryz.underlying72 hiR hzR0 hzR1 hzR2 rfl (by decide) fv bs.length (frV bs) rfl ?_ _ 1 1 [.int .i64 (dn : Int), .string s5] rfl rfl ?_ (hone.out _) m1.out m2.out (Nat.succ_pos _) ?_; (exact hrow5.alloc _); (intro j u hj; match j, hj with | 0, hj => (cases hj; simp [Addr.add]) | 1, hj => (cases hj; simp [Addr.add])); intro g6 c6 w6 hown6 hg6 hnew6; have hC6 : Chg (fun k => fv.ownBlock = some k) w5 w6 := Chg.grown (Chg.of_below (by go_grown)) hg6 (fun k hk => Or.inl hk); have k3 := (World.cell?_of_block (w := w5) (a := ⟨x, 3, none⟩) (hC6.block x (Nat.lt_of_lt_of_le hxl.out hP5.2.size) Hne.out)).trans e3; have kf6 : ∀ j, w6.frozen? ⟨x, j, none⟩ = false := fun j => (World.frozen?_of_block (w := w5) (a := ⟨x, j, none⟩) (hC6.block x (Nat.lt_of_lt_of_le hxl.out hP5.2.size) Hne.out)).trans (ef j)))
    all_goals
      go_wp2_with fail
      go_meet
      refine ⟨s5, w6, g6, c6, rfl, hP5.1, (Chg.of_below hP5.2).trans hC6, hown6, ?_⟩
      rcases hnew6 with h | h
      · exact Or.inl h
      · refine Or.inr (Nat.le_trans hP5.2.size ?_)
        simp at h
        omega
  case rest =>
  obtain ⟨s, w6, g6, c6, rfl, hP, hC6, hown6, hnew6⟩ := hcut
  have hM := HC.out.more hC6 hb hown6
  have HM : Hid (_) := hM
  have r3 := (hM.blk.cell 3).trans rfl
  have HX : Hid (P s ∧ Chg (fun k => k = x ∨ fv.ownBlock = some k) w (w6.setCell ⟨x, 3, none⟩ (.slice (some ⟨g6, 0, none⟩) (bs.length + 1) c6)) ∧ (fv.ownBlock = some g6 ∨ w.heap.size ≤ g6)) := ⟨hP, Chg.setCell (M := fun k => k = x ∨ fv.ownBlock = some k) (p := ⟨x, 3, none⟩) (hC6.wide (fun k hk => Or.inr hk)) (Or.inl rfl) _, hnew6⟩
  clear hP hC6 hown6 hnew6 HB c3 d0 d1 d2 d3 d4 hone m1 m2 hM
  generalize w6.setCell ⟨x, 3, none⟩ (.slice (some ⟨g6, 0, none⟩) (bs.length + 1) c6) = w7 at *
  go_wp2_with fail
  go_ret
  exact ⟨s, _, by first | rfl | go_num, HX.out.1, HM.out, HX.out.2.1, fun k hk => by cases hk; exact HX.out.2.2⟩

set_option maxHeartbeats 1000000 in
theorem CloneB_any (s : ByteArray) (w : World) (hs : s.size ≤ 1000000000) : Calls Tryz.prog 118 #[.string s] w fun e w' => e = .returned (.string s) ∧ Below w.heap.size w w' := by
  have Hc : Hid (_) := Tryz.stringslite_Clone s w (by omega)
  go_enter Tryz.func118, Tryz.ntmps118
  go_wp2_with fail
  refine Calls.mono Hc.out ?_
  rintro e w1 ⟨rfl, hb⟩
  go_wp2
  go_ret
  exact ⟨rfl, hb⟩
end Go.Proofs.YtoiiaankpnhppaaGreatDoor

