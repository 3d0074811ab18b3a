import Derived.Deep.RegionHeld3
import Derived.Lib.LaidTab
import Derived.LaidSub
import Derived.Shelf.Vars
import Derived.MakeChecks
import Derived.FnData
import Derived.Test.YtmnnojekcloblaaGreatDoorCards
import Derived.Test.YtmnnojekcloblaaGreatDoorTie
import Derived.ProofKit
import Derived.OpenShut
import Derived.Deep.DeepHandedRow
import Derived.Carry
import Derived.Lay
import Derived.Test.YtmnnojekcloblaaGreatDoorPart15
set_option linter.unusedVariables false
set_option linter.unusedSimpArgs false
namespace Go.Proofs.YtmnnojekcloblaaGreatDoor
open Go.RowKit

set_option maxHeartbeats 400000 in
theorem pick_det (c : Int) (n : Nat) (h0 : -9223372036854775808 ≤ c) (h1 : c ≤ 9223372036854775807) (hn : 1 ≤ n) (hn2 : n ≤ 9223372036854775807) :
    ∃ j : Nat, j < n ∧ ∀ w : World, Calls Tryz.prog 14 #[.int .i64 c, .int .i64 (n : Int)] w fun r w' => r = .returned (.int .i64 (j : Int)) ∧ w' = w := by
  by_cases hc : c < 0
  · have e1 : IntKind.i64.wrap (c + 1) = c + 1 := wrap_in _ (by omega) (by omega)
    have e2 : IntKind.i64.wrap (-(c + 1)) = -(c + 1) := wrap_in _ (by omega) (by omega)
    obtain ⟨d, hd⟩ : ∃ d : Nat, -(c + 1) = (d : Int) := ⟨(-(c + 1)).toNat, by omega⟩
    have hnz : ((n : Int) == 0) = false := beq_eq_false_iff_ne.2 (by omega)
    have hnz' : ¬ n = 0 := by omega
    have e3 : (d : Int).tmod (n : Int) = ((d % n : Nat) : Int) := rfl
    have e4 : IntKind.i64.wrap ((d % n : Nat) : Int) = ((d % n : Nat) : Int) := wrap_in _ (by omega) (by have := Nat.mod_lt d (show n > 0 by omega); omega)
    refine ⟨d % n, Nat.mod_lt _ (by omega), fun w => ?_⟩
    go_enter Tryz.func14, Tryz.ntmps14
    go_wp2
    go_ret
    exact ⟨by first | rfl | (rw [Int.natCast_emod]; rfl), rfl⟩
  · obtain ⟨d, rfl⟩ : ∃ d : Nat, c = (d : Int) := ⟨c.toNat, by omega⟩
    have hnz : ((n : Int) == 0) = false := beq_eq_false_iff_ne.2 (by omega)
    have hnz' : ¬ n = 0 := by omega
    have e3 : (d : Int).tmod (n : Int) = ((d % n : Nat) : Int) := rfl
    have e4 : IntKind.i64.wrap ((d % n : Nat) : Int) = ((d % n : Nat) : Int) := wrap_in _ (by omega) (by have := Nat.mod_lt d (show n > 0 by omega); omega)
    refine ⟨d % n, Nat.mod_lt _ (by omega), fun w => ?_⟩
    go_enter Tryz.func14, Tryz.ntmps14
    go_wp2
    go_ret
    exact ⟨by first | rfl | (rw [Int.natCast_emod]; rfl), rfl⟩

/-- A question leaves the law's world as it was. -/
theorem LawI.told {B c : Nat} {w w' : World} {b : Nat} {rv : Value} {l : List PairD} (h : LawI B w b rv l) (hl : l.length ≤ c) (k : Nat) (hk : k < l.length)
    (hd : ∃ S', PairAt ProgF w' l[k].pb l[k].x S' l[k].c l[k].rb l[k].evv l[k].room l[k].es l[k].kn ∧ (∀ i, S' i → l[k].S i ∨ w.heap.size ≤ i) ∧ Chg l[k].S w w') : LawJ c B w' b ∧ Below B w w' := by
  obtain ⟨S', h1, h2, h3⟩ := hd
  obtain ⟨h4, h5⟩ := h.turn k hk ⟨l[k].pb, l[k].x, S', l[k].c, l[k].rb, l[k].evv, l[k].room, l[k].es, l[k].kn⟩ rfl h1 (h3.wide (fun i hi => Or.inl hi)) (fun i hi => by
    rcases hi with hi | hi | hi | hi
    · exact (h2 i hi).imp (fun h => Or.inl h) (fun h => h)
    · exact Or.inl (Or.inr (Or.inl hi))
    · exact Or.inl (Or.inr (Or.inr (Or.inl hi)))
    · exact Or.inl (Or.inr (Or.inr (Or.inr hi))))
  exact ⟨⟨_, _, by simpa using hl, h4⟩, h5⟩
theorem LawI.done {B c : Nat} {w w' : World} {b : Nat} {rv : Value} {l : List PairD} (h : LawI B w b rv l) (hl : l.length ≤ c) (k : Nat) (hk : k < l.length) {es1 : List Ev} {kn1 : List (List Bool)}
    (hd : Behind ProgF l[k].S w l[k].pb l[k].x l[k].c l[k].rb l[k].evv l[k].room es1 kn1 w') : LawJ c B w' b ∧ Below B w w' := by
  obtain ⟨S', evv', h1, h2, h3, hev⟩ := hd
  obtain ⟨h4, h5⟩ := h.turn k hk ⟨l[k].pb, l[k].x, S', l[k].c, l[k].rb, evv', l[k].room, es1, kn1⟩ rfl h1 h3 (fun i hi => by
    rcases hi with hi | hi | hi | hi
    · exact (h2 i hi).imp (fun h => Or.inl h) (fun h => h)
    · exact Or.inl (Or.inr (Or.inl hi))
    · exact Or.inl (Or.inr (Or.inr (Or.inl hi)))
    · have hi' : evv'.ownBlock = some i := hi
      rcases hev with he | ⟨g, he, hg⟩
      · exact Or.inl (Or.inr (Or.inr (Or.inr (he.symm.trans hi'))))
      · rw [he] at hi'; cases hi'; exact Or.inr hg)
  exact ⟨⟨_, _, by simpa using hl, h4⟩, h5⟩

set_option maxHeartbeats 4000000 in
set_option maxRecDepth 100000 in
theorem step_any (c B : Nat) (w : World) (b : Nat) (o : StepD) (ho : o.ok) (hk4 : o.kind ≤ 4) (hcc : c < 1099511627776) (hJ : LawJ c B w b) :
    Calls Tryz.prog 6 #[.pointer (some ⟨b, 0, none⟩), o.val] w fun e w' => e = .returned (.bool true) ∧ LawJ (c + 1) B w' b ∧ Below B w w' := by
  have hBw : B ≤ w.heap.size := by obtain ⟨rv, l, _, hI⟩ := hJ; exact Nat.le_trans hI.bB (Nat.le_of_lt hI.blk.lt)
  have hJb : ∀ wx, Below w.heap.size w wx → LawJ c B wx b := fun wx hb => by obtain ⟨rv, l, hl, hI⟩ := hJ; exact ⟨rv, l, hl, hI.below hb⟩
  by_cases hk1 : o.kind = 1
  · have HM : Hid (∀ wx, Below w.heap.size w wx → Calls Tryz.prog 13 #[.pointer (some ⟨b, 0, none⟩), .agg #[.int .i64 o.kind, .int .i64 o.a, .int .i64 o.n, .int .i64 o.m, .string o.s]] wx fun e w' => e = .returned (.bool true) ∧ LawJ (c + 1) B w' b ∧ Below B w w') := fun wx hb => by
      refine Calls.mono (made_any c B wx b o ho hcc (hJb wx hb)) ?_
      rintro e w' ⟨rfl, h1, h2⟩
      exact ⟨rfl, h1, (hb.mono hBw).trans h2⟩
    unfold StepD.val
    obtain ⟨k, a, n, m, s⟩ := o
    simp only at *
    subst hk1
    clear ho hJ hJb hk4
    go_enter Tryz.func6, Tryz.ntmps6
    go_wp2_with fail
    refine Calls.mono (HM.out _ ((Below.refl _ w).alloc (Nat.le_refl _) _)) ?_
    rintro e w2 ⟨rfl, h1, h2⟩
    have H : Hid (LawJ (c + 1) B w2 b ∧ Below B w w2) := ⟨h1, h2⟩
    clear HM h1 h2
    go_wp2
    go_ret
    exact ⟨rfl, H.out⟩
  · obtain ⟨rv, l, hl, hI⟩ := hJ
    by_cases hl0 : l.length = 0
    · have hrv : rv = .slice none 0 0 ∨ ∃ g cap, rv = .slice (some ⟨g, 0, none⟩) 0 cap := by
        obtain ⟨_, ⟨h1, _⟩ | ⟨g, cap, cur, h1, _⟩⟩ := hI.row
        · exact Or.inl h1
        · rw [hl0] at h1; exact Or.inr ⟨g, cap, h1⟩
      have HJ : Hid (∀ wx, Below w.heap.size w wx → LawJ (c + 1) B wx b ∧ Below B w wx) := fun wx hb => ⟨⟨rv, l, by omega, hI.below hb⟩, hb.mono hBw⟩
      have hbl := hI.blk.lt
      have p0 : ∀ ob, (w.alloc ob).cell? ⟨b, 0, none⟩ = some rv := fun ob => ((hI.blk.alloc ob).cell 0).trans rfl
      unfold StepD.val
      obtain ⟨k, a, n, m, s⟩ := o
      simp only at *
      have kk : (k == 1) = false := beq_eq_false_iff_ne.2 hk1
      have hb1 : Hid (∀ ob, Below w.heap.size w (w.alloc ob)) := fun ob => (Below.refl _ w).alloc (Nat.le_refl _) ob
      clear ho hJb hk4 hI
      rcases hrv with rfl | ⟨g, cap, rfl⟩
      · go_enter Tryz.func6, Tryz.ntmps6
        go_wp2
        go_ret
        exact ⟨rfl, HJ.out _ (hb1.out _)⟩
      · go_enter Tryz.func6, Tryz.ntmps6
        go_wp2
        go_ret
        exact ⟨rfl, HJ.out _ (hb1.out _)⟩
    · obtain ⟨g, cap, rfl⟩ := own_some hI.row (by omega)
      obtain ⟨j, hj, hpick⟩ := pick_det o.a l.length ho.2.1.1 ho.2.1.2 (by omega) (by omega)
      have HPk : Hid (_) := hpick
      have hS4 : ∀ i, l[j].S i → 4 ≤ i := fun i hi => Nat.le_trans hI.b4 (hI.foot j hj i (Or.inl hi))
      have HT : Hid (∀ wx, Below w.heap.size w wx → (o.kind = 3 ∨ o.kind = 4) → Calls Tryz.prog 15 #[.pointer (some ⟨l[j].pb, 0, none⟩), .agg #[.int .i64 o.kind, .int .i64 o.a, .int .i64 o.n, .int .i64 o.m, .string o.s]] wx fun e w' => e = .returned (.bool true) ∧ LawJ (c + 1) B w' b ∧ Below B w w') := fun wx hb hk => by
        have hIx := hI.below hb
        rcases hk with hk | hk
        · refine Calls.mono (tells_ask prog_ok prog_frame wx hIx.glob _ _ _ hS4 _ _ _ _ _ _ (hIx.pair j hj) o ho hk) ?_
          rintro e w' ⟨rfl, h2⟩
          obtain ⟨h3, h4⟩ := hIx.told (show l.length ≤ c + 1 by omega) j hj h2
          exact ⟨rfl, h3, (hb.mono hBw).trans h4⟩
        · refine Calls.mono (tells_knows prog_ok prog_frame wx hIx.glob _ _ _ hS4 _ _ _ _ _ _ (hIx.pair j hj) o ho hk) ?_
          rintro e w' ⟨rfl, h2⟩
          obtain ⟨h3, h4⟩ := hIx.told (show l.length ≤ c + 1 by omega) j hj h2
          exact ⟨rfl, h3, (hb.mono hBw).trans h4⟩
      have HU : Hid (∀ wx, Below w.heap.size w wx → (o.kind = 2 ∨ o.kind ≤ 0) → Calls Tryz.prog 19 #[.pointer (some ⟨l[j].pb, 0, none⟩), .agg #[.int .i64 o.kind, .int .i64 o.a, .int .i64 o.n, .int .i64 o.m, .string o.s]] wx fun e w' => e = .returned (.bool true) ∧ LawJ (c + 1) B w' b ∧ Below B w w') := fun wx hb hk => by
        have hIx := hI.below hb
        rcases hk with hk | hk
        · refine Calls.mono (turns_do prog_ok prog_frame wx hIx.glob _ _ _ _ _ _ _ _ _ (hIx.pair j hj) o ho hk) ?_
          rintro e w' ⟨rfl, es1, kn1, h2⟩
          obtain ⟨h3, h4⟩ := hIx.done (show l.length ≤ c + 1 by omega) j hj h2
          exact ⟨rfl, h3, (hb.mono hBw).trans h4⟩
        · refine Calls.mono (turns_idle wx _ o hk) ?_
          rintro e w' ⟨rfl, h2⟩
          have hb2 := hb.trans (h2.mono hb.size)
          exact ⟨rfl, ⟨_, _, by omega, hI.below hb2⟩, hb2.mono hBw⟩
      have Hp0 : Hid (∀ ob, (w.alloc ob).cell? ⟨b, 0, none⟩ = some (.slice (some ⟨g, 0, none⟩) l.length cap)) := fun ob => ((hI.blk.alloc ob).cell 0).trans rfl
      have Hg : Hid (∀ ob, (w.alloc ob).cell? ⟨g, j, none⟩ = some (.pointer (some ⟨l[j].pb, 0, none⟩))) := fun ob => by
        have h2 := (hI.row.alloc ob).cellAt j (by omega)
        rw [h2]; simp [pbs, hj]
      have hbl := hI.blk.lt
      have hlm : l.length ≤ 1099511627776 := by omega
      have hb1 : Hid (∀ ob, Below w.heap.size w (w.alloc ob).drew) := fun ob => ((Below.refl _ w).alloc (Nat.le_refl _) ob).drew
      unfold StepD.val
      obtain ⟨k, a, n, m, s⟩ := o
      simp only at *
      clear ho hJb hI hS4 hpick
      have kk : (k == 1) = false := beq_eq_false_iff_ne.2 hk1
      have p0 := Hp0.out (.cells #[.int .i64 k, .int .i64 a, .int .i64 n, .int .i64 m, .string s] 31)
      have pg := Hg.out (.cells #[.int .i64 k, .int .i64 a, .int .i64 n, .int .i64 m, .string s] 31)
      have hbz := hb1.out (.cells #[.int .i64 k, .int .i64 a, .int .i64 n, .int .i64 m, .string s] 31)
      have kb : Blk (w.alloc (.cells #[.int .i64 k, .int .i64 a, .int .i64 n, .int .i64 m, .string s] 31)) w.heap.size #[.int .i64 k, .int .i64 a, .int .i64 n, .int .i64 m, .string s] 31 := Blk.new w _ _
      have s0 := (kb.cell 0).trans rfl
      have s1 := (kb.cell 1).trans rfl
      have s2 := (kb.cell 2).trans rfl
      have s3 := (kb.cell 3).trans rfl
      have s4 := (kb.cell 4).trans rfl
      clear kb Hp0 Hg hb1
      generalize l[j].pb = pb at *
      go_enter Tryz.func6, Tryz.ntmps6
      go_wp2_with fail
      generalize w.alloc (.cells #[.int .i64 k, .int .i64 a, .int .i64 n, .int .i64 m, .string s] 31) = w2 at *
      have hsm : Hid (∀ e : Nat, e < l.length → (e : Int) < (l.length : Int)) := fun e he => by omega
      go_region_held3 (fun w' => w' = w2.drew ∧ w'.cell? ⟨b, 0, none⟩ = some (.slice (some ⟨g, 0, none⟩) l.length cap) ∧ w'.cell? ⟨g, j, none⟩ = some (.pointer (some ⟨pb, 0, none⟩)) ∧ w'.cell? ⟨w.heap.size, 1, none⟩ = some (.int .i64 a)) ((refine ⟨?_, ?_, ?_, ?_⟩ <;> (first | rfl | assumption))) (first | (go_at_call 14; refine Calls.mono (HPk.out _) ?_; rintro e w3 ⟨rfl, rfl⟩))
      clear HPk
      have hcs : k = 3 ∨ k = 4 ∨ k = 2 ∨ k ≤ 0 := by omega
      rcases hcs with rfl | rfl | rfl | hk0
      · go_wp2_with fail
        refine Calls.mono (HT.out _ hbz (by simp)) ?_
        rintro e w3 ⟨rfl, h1, h2⟩
        have H : Hid (LawJ (c + 1) B w3 b ∧ Below B w w3) := ⟨h1, h2⟩
        clear HT HU h1 h2
        go_wp2_with fail
        go_ret
        exact ⟨rfl, H.out⟩
      · go_wp2_with fail
        refine Calls.mono (HT.out _ hbz (by simp)) ?_
        rintro e w3 ⟨rfl, h1, h2⟩
        have H : Hid (LawJ (c + 1) B w3 b ∧ Below B w w3) := ⟨h1, h2⟩
        clear HT HU h1 h2
        go_wp2_with fail
        go_ret
        exact ⟨rfl, H.out⟩
      · go_wp2_with fail
        refine Calls.mono (HU.out _ hbz (by simp)) ?_
        rintro e w3 ⟨rfl, h1, h2⟩
        have H : Hid (LawJ (c + 1) B w3 b ∧ Below B w w3) := ⟨h1, h2⟩
        clear HT HU h1 h2
        go_wp2_with fail
        go_ret
        exact ⟨rfl, H.out⟩
      · have k3 : (k == 3) = false := beq_eq_false_iff_ne.2 (by omega)
        have k4 : (k == 4) = false := beq_eq_false_iff_ne.2 (by omega)
        have k9 : (k == 9) = false := beq_eq_false_iff_ne.2 (by omega)
        have k6 : (k == 6) = false := beq_eq_false_iff_ne.2 (by omega)
        have k5 : (k == 5) = false := beq_eq_false_iff_ne.2 (by omega)
        have k7 : (k == 7) = false := beq_eq_false_iff_ne.2 (by omega)
        have k8 : (k == 8) = false := beq_eq_false_iff_ne.2 (by omega)
        have n3 : ¬ k = 3 := by omega
        have n4 : ¬ k = 4 := by omega
        have n9 : ¬ k = 9 := by omega
        have n6 : ¬ k = 6 := by omega
        have n5 : ¬ k = 5 := by omega
        have n7 : ¬ k = 7 := by omega
        have n8 : ¬ k = 8 := by omega
        go_wp2_with fail
        refine Calls.mono (HU.out _ hbz (Or.inr hk0)) ?_
        rintro e w3 ⟨rfl, h1, h2⟩
        have H : Hid (LawJ (c + 1) B w3 b ∧ Below B w w3) := ⟨h1, h2⟩
        clear HT HU h1 h2
        go_wp2_with fail
        go_ret
        exact ⟨rfl, H.out⟩

theorem law_ok : LawOK 4 LawJ := {
  heads := fun w hG => heads_any prog_ok w hG
  start := fun w hG => ⟨.slice none 0 0, [], Nat.le_refl _, hG.mono ((Below.refl _ w).alloc (Nat.le_refl _) _), hG.size, Nat.le_refl _, Blk.new w _ _, World.ownsRow_nil _ _ _ _, fun j h => absurd h (by simp), fun j h => absurd h (by simp), fun i j h => absurd h (by simp)⟩
  step := fun c B w b o ho hk hc hJ => step_any c B w b o ho hk hc hJ }
/-- The law Values holds of the program. -/
theorem Values_any (w : World) (hG : Glob w) (v : Value) (l : List StepD) (hS : ScriptV w v l) (hlen : l.length ≤ 1099511627776) (hok : ∀ o ∈ l, o.ok) :
    Calls Tryz.prog 3 #[v] w fun e w' => e = .returned (.bool true) ∧ Below w.heap.size w w' := Values_of LawJ law_ok w hG v l hS hlen hok
end Go.Proofs.YtmnnojekcloblaaGreatDoor

namespace Go.Proofs.YtmnnojekcloblaaGreatDoor
open Go.ChangeShapes Go.WideShapes Go.Deep

theorem g0 : Tryz.prog.globalNamed "internal/bytealg.MaxLen" = some 0 := by kernel_rfl
theorem g1 : Tryz.prog.globalNamed "strconv.ErrSyntax" = some 1 := by kernel_rfl
theorem g2 : Tryz.prog.globalNamed "strconv.ErrRange" = some 2 := by kernel_rfl
theorem g3 : Tryz.prog.globalNamed "internal/strconv.uint64pow10" = some 3 := by kernel_rfl
theorem low : 3 < Tryz.prog.globals.size := of_decide_eq_true (by kernel_rfl)
theorem glob_len {W : World} (hS : W.ShapedOpen Tryz.prog) : ∃ m, W.cell? ⟨0, 0, none⟩ = some (.int .i64 m) :=
  cell_of_shapedOpen_int (zero := #[.int .i64 0]) (t := 3) hS (of_decide_eq_true (by kernel_rfl)) (by kernel_rfl) rfl (by kernel_rfl) (by kernel_rfl) Tryz.underlying3
theorem laid_pow {W : World} (hL : laidMetH Tryz.prog Rows.valuesUptoRow.laid W) : laidMetH Tryz.prog [("internal/strconv.uint64pow10", Lib.tabData .u64 Lib.pow10Tab)] W := by
  have hp := laidMetH.filter (fun x => x.1 == "internal/strconv.uint64pow10") hL
  have e1 : (Rows.valuesUptoRow.laid.filter fun x => x.1 == "internal/strconv.uint64pow10") = [("internal/strconv.uint64pow10", Lib.tabData .u64 Lib.pow10Tab)] := by rfl
  rw [e1] at hp
  exact hp
end Go.Proofs.YtmnnojekcloblaaGreatDoor

namespace Go.Proofs.YtmnnojekcloblaaGreatDoor
open Go.ChangeShapes Go.WideShapes Go.Deep

/-- What is read at an interface's type is an interface's value. -/
theorem open_itf {H : Type} {enc : TypeId × Value → H} {P : Program} {w : World} {base : Nat} {sp : Nat → Bool} {held : Bool} {fuel : Nat} {t : TypeId} {ms : Array (String × TypeId)} {cs : List Value} {x : DataW H × List MemPlace}
    (ht : P.underlying t = some (.interface ms)) (h : DataW.trod enc P w base sp held fuel t cs = some x) : ∃ v, cs = [v] ∧ (v = .nilIface ∨ ∃ u y, v = .iface u y) := by
  cases fuel with
  | zero => simp [DataW.trod] at h
  | succ n =>
    cases cs with
    | nil => simp [DataW.trod, ht] at h
    | cons c r =>
      cases r with
      | nil => cases c <;> simp [DataW.trod, ht] at h ⊢
      | cons _ _ => simp [DataW.trod, ht] at h

theorem laid_itf {W : World} {name : String} {d : DataW Unit} {g : Nat} {t : TypeId} {ms : Array (String × TypeId)} (hg : Tryz.prog.globalNamed name = some g) (hty : (Tryz.prog.globals[g]?).map (·.type) = some t) (ht : Tryz.prog.underlying t = some (.interface ms))
    (h : laidMet Tryz.prog [(name, d)] W) : ∃ ev, W.cell? ⟨g, 0, none⟩ = some ev ∧ (ev = .nilIface ∨ ∃ te pe, ev = .iface te pe) := by
  obtain ⟨ps, ⟨g', t', cs, fuel, p, q, hg', ht', hvar, hd, _, _⟩, _⟩ := h
  obtain rfl := Option.some.inj (hg.symm.trans hg')
  obtain rfl := Option.some.inj (hty.symm.trans ht')
  obtain ⟨v, e, hv⟩ := open_itf ht hd
  refine ⟨v, ?_, hv⟩
  rw [World.var?_cell hg hvar 0, ← Array.getElem?_toList, e]
  rfl

theorem ty1 : (Tryz.prog.globals[1]?).map (·.type) = some 196 := by kernel_rfl
theorem ty2 : (Tryz.prog.globals[2]?).map (·.type) = some 196 := by kernel_rfl
theorem ty3 : (Tryz.prog.globals[3]?).map (·.type) = some 267 := by kernel_rfl
theorem cellsTab : Tryz.prog.cellsOf 267 = 20 := by kernel_rfl
theorem cellsU64 : Tryz.prog.cellsOf 241 = 1 := by kernel_rfl

theorem laid_syn {W : World} (hL : laidMetH Tryz.prog Rows.valuesUptoRow.laid W) : ∃ ev, W.cell? ⟨1, 0, none⟩ = some ev ∧ (ev = .nilIface ∨ ∃ te pe, ev = .iface te pe) := by
  have hp := laidMetH.filter (fun x => x.1 == "strconv.ErrSyntax") hL
  obtain ⟨d, e1, e2⟩ : ∃ d, (Rows.valuesUptoRow.laid.filter fun x => x.1 == "strconv.ErrSyntax") = [("strconv.ErrSyntax", d)] ∧ d.handleName?.isNone = true := ⟨_, rfl, rfl⟩
  rw [e1, MakeChecks.laidMetH_plain _ _ _ (by simp [e2])] at hp
  exact laid_itf g1 ty1 Tryz.underlying196 hp
theorem laid_rng {W : World} (hL : laidMetH Tryz.prog Rows.valuesUptoRow.laid W) : ∃ ev, W.cell? ⟨2, 0, none⟩ = some ev ∧ (ev = .nilIface ∨ ∃ te pe, ev = .iface te pe) := by
  have hp := laidMetH.filter (fun x => x.1 == "strconv.ErrRange") hL
  obtain ⟨d, e1, e2⟩ : ∃ d, (Rows.valuesUptoRow.laid.filter fun x => x.1 == "strconv.ErrRange") = [("strconv.ErrRange", d)] ∧ d.handleName?.isNone = true := ⟨_, rfl, rfl⟩
  rw [e1, MakeChecks.laidMetH_plain _ _ _ (by simp [e2])] at hp
  exact laid_itf g2 ty2 Tryz.underlying196 hp
theorem glob_tab {W : World} (hL : laidMetH Tryz.prog Rows.valuesUptoRow.laid W) : Lib.TabIs Tryz.prog W "internal/strconv.uint64pow10" .u64 Lib.pow10Tab := by
  have hp := laid_pow hL
  rw [MakeChecks.laidMetH_plain _ _ _ (by kernel_rfl)] at hp
  exact Lib.tabIs_of_head g3 ty3 Tryz.underlying267 Tryz.underlying241 cellsU64 cellsTab hp

theorem glob_of {W : World} (hS : W.ShapedOpen Tryz.prog) (hL : laidMetH Tryz.prog Rows.valuesUptoRow.laid W) : Glob W :=
  ⟨glob_len hS, laid_syn hL, laid_rng hL, glob_tab hL, World.block_lt_of_cell? W ⟨3, 0, none⟩ ((glob_tab hL).cell g3 0 (by decide))⟩
end Go.Proofs.YtmnnojekcloblaaGreatDoor

namespace Go.Proofs.YtmnnojekcloblaaGreatDoor
open Go.ChangeShapes Go.WideShapes Go.ChangeAt Go.RowKit Go.Deep

theorem own : ownKnob Tryz.prog.godebug = none := by kernel_rfl
theorem laidOut : laidOutB Tryz.prog = true := by kernel_rfl

set_option maxRecDepth 100000 in
/-- The law over every script of the bulk. -/
theorem contract (H : Type) (enc : TypeId × Value → H) (W : World) (args : Array Value) (base : Nat) (ds gs : List (DataW H)) (before : List MemPlace)
    (hval : ∀ (j : Nat) t v, Tryz.f3.params[j]? = some t → args[j]? = some v → Value.okWide Tryz.prog W .any base t v) (hW : DataW.Whole enc Tryz.prog Tryz.f3.params.toList Rows.valuesSpec.vars false W args.toList ds gs before) (hB : Rows.uptoSmall H (ds ++ gs) = true)
    (hL : laidMetH Tryz.prog Rows.valuesUptoRow.laid W) (hS : W.ShapedOpen Tryz.prog) :
    Calls Tryz.prog 3 args W fun e W' => ∃ v, e = .returned v ∧ Rows.valuesSpec.post enc Tryz.prog Tryz.f3 false true false false W args v W' := by
  have hW' := hW
  obtain ⟨p, q, hA0, hV, rfl, hfz, hnd⟩ := hW
  have hA : DataW.TrodAll enc Tryz.prog W 0 (fun _ => true) true Tryz.f3.params.toList args.toList ds p := hA0
  rw [Tryz.params3] at hA hval
  obtain ⟨v0, vs0, d0, ds0, p0, q0, hargs, rfl, rfl, h0, r0⟩ := trodAll_cons hA
  obtain ⟨rfl, rfl, rfl⟩ := trodAll_nil r0
  obtain rfl : args = #[v0] := by cases args; simp_all
  obtain ⟨rfl, rfl⟩ := trodVars_none hV
  clear hA0
  simp only [List.append_nil] at hW' hB
  have hb1 : Rows.uptoBulk d0 ≤ 1048576 := by
    have h1 := of_decide_eq_true hB
    have h2 := (bulk_all [d0]).2 d0 (List.mem_singleton.2 rfl)
    omega
  have h0k := h0
  obtain ⟨fuel, hf⟩ := h0
  have hcs : v0.cells.toList = [v0] := by
    obtain ⟨a, len, cap, rfl⟩ := okWide_slice Tryz.underlying22 (hval 0 22 v0 rfl rfl)
    rfl
  rw [hcs] at hf
  obtain ⟨l, hv, hok⟩ := open_script hf
  have hlen : l.length ≤ 1099511627776 := by
    cases l with
    | nil => exact Nat.zero_le _
    | cons o r => exact Nat.le_trans (hok o (List.mem_cons_self ..) hb1).2 (by decide)
  refine (Values_any W (glob_of hS hL) v0 l hv hlen (fun o ho => (hok o ho hb1).1)).mono fun e W' ⟨he, hg⟩ => ?_
  subst he
  have hlt : ∀ x ∈ p0, x.block < W.heap.size := fun x hx => by simpa using hW'.lt x hx
  exact ⟨_, rfl, _, _, _, [], _, [], hW', trodAll_mk1 (shut_bool Tryz.underlying4 _), trodAll_mk1 (Below.trod laidOut (by kernel_rfl) (of_decide_eq_true (by kernel_rfl)) h0k hg hlt), rfl, hg.frame _, fun h => by cases h⟩
end Go.Proofs.YtmnnojekcloblaaGreatDoor

namespace Go.Proofs.YtmnnojekcloblaaGreatDoor
open Go.ChangeShapes Go.WideShapes Go.ChangeAt Go.RowKit Go.Deep

/-- A world for the witness: the listed variables hold what is listed. -/
noncomputable def start (os : Os) : World := World.laidAll Tryz.prog os Rows.valuesUptoRow.laid
theorem start_laid (os : Os) : laidMetH Tryz.prog Rows.valuesUptoRow.laid ((start os).forCall (fun _ _ => 0) ⟨#[], #[.slice none 0 0], []⟩).memory := by
  rw [MakeChecks.laidMetH_plain _ _ _ (by kernel_rfl)]
  exact laidMet_laidAll _ (by kernel_rfl) (by kernel_rfl)
theorem start_shaped (os : Os) : ((start os).forCall (fun _ _ => 0) ⟨#[], #[.slice none 0 0], []⟩).Shaped Tryz.prog := World.shaped_of_ZipB (by kernel_rfl) (by kernel_rfl)
theorem start_reads (os : Os) {H : Type} (enc : TypeId × Value → H) : ∃ places, DataW.whole enc Tryz.prog ((start os).forCall (fun _ _ => 0) ⟨#[], #[.slice none 0 0], []⟩).memory Tryz.f3.params.toList Rows.valuesSpec.vars false #[Value.slice none 0 0].toList 8 = some ([.nil], [], places) :=
  ⟨[], by kernel_rfl⟩
theorem start_ok (os : Os) : Input.okWideB Tryz.prog ((start os).forCall (fun _ _ => 0) ⟨#[], #[.slice none 0 0], []⟩) 3 ⟨#[], #[.slice none 0 0], []⟩ = true := by kernel_rfl
theorem start_small (os : Os) {H : Type} (enc : TypeId × Value → H) : (Rows.OpenSpec.upto Rows.valuesSpec).bare.sizedB enc Tryz.prog Tryz.f3 false ((start os).forCall (fun _ _ => 0) ⟨#[], #[.slice none 0 0], []⟩).memory #[.slice none 0 0] 8 = true := by kernel_rfl

set_option maxRecDepth 100000 in
theorem witness (os : Os) {H : Type} (enc : TypeId × Value → H) :
    ∃ (w : World) (tape : Tape) (i : Input), w.os = os ∧ (w.forCall tape i).Shaped Tryz.checked.prog ∧ i.vars = [] ∧ Input.okWide Tryz.checked.prog (w.forCall tape i) .any w.heap.size 3 i ∧
      (Rows.OpenSpec.upto Rows.valuesSpec).preRow enc Tryz.checked.prog Tryz.f3 Rows.valuesUptoRow.domain false Rows.valuesUptoRow.laid (w.forCall tape i).memory i.args ∧
      ({} : Assume).holds Tryz.checked.prog (lone (Frame.enter Tryz.checked.prog 3 i.args .normal) [] (w.forCall tape i)) := by
  obtain ⟨places, hx⟩ := start_reads os enc
  refine ⟨start os, fun _ _ => 0, ⟨#[], #[.slice none 0 0], []⟩, World.laidAll_os _ _ _, start_shaped os, (Input.okWide_of_okWideB (base := 0) (start_ok os)).1, (Input.okWide_of_okWideB (start_ok os)).2,
    OpenSpec.preRow_of_cond 8 hx (by kernel_rfl) (fun k hk => by cases hk; kernel_rfl) (start_small os enc) (start_laid os), ?_⟩
  simp only [Assume.holds]
  exact ⟨by simp, by simp, fun _ => Modest.zero, by simp, by simp⟩

set_option maxRecDepth 100000 in
theorem lifted (os : Os) (started : os.Started) (H : Type) (enc : TypeId × Value → H) (F : Stop.Interp) :
    ReturnsInHanded {} Tryz.checked os 3 .any ((Rows.OpenSpec.upto Rows.valuesSpec).preRow enc Tryz.prog Tryz.f3 Rows.valuesUptoRow.domain false Rows.valuesUptoRow.laid) (((Rows.OpenSpec.upto Rows.valuesSpec).at F).post enc Tryz.prog Tryz.f3 false true false false) := by
  refine returnsInHanded_of_row (C := Tryz.checked) (s := Rows.OpenSpec.upto Rows.valuesSpec) own started (by kernel_rfl) Tryz.func3 (witness os enc) ?_
  intro W base args ds gs before hval hW _ hcond _ hL hS _
  exact contract H enc W args base ds gs before hval hW (hcond _ rfl) hL hS

theorem values_upto : Rows.ValuesUptoSaid :=
  OpenClaim.holds_of_cond 3 Tryz.f3 rfl rfl rfl rfl rfl rfl rfl ⟨rfl, rfl, rfl, rfl, rfl⟩ rfl rfl rfl rfl rfl (by kernel_rfl) Tryz.func3 (by kernel_rfl)
    (of_decide_eq_true (by kernel_rfl)) (by unfold Func.isWrapper; first | (rw [if_pos (by decide +kernel)]; kernel_rfl) | (rw [if_neg (by decide +kernel)]; exact ⟨rfl, rfl⟩))
    (fun os started H enc _ F => by rw [OpenClaim.pre_eq_preRow]; exact lifted os started H enc F)

theorem plain (f : FuncId) (fn : Func) (hf : Tryz.pinned.checked.prog.funcNamed Rows.valuesUptoRow.func = some f) (hfn : Tryz.pinned.checked.prog.funcs[f]? = some fn) :
    true = Tryz.pinned.checked.prog.looks [] ∧ ∀ (j : Nat) t, fn.params[j]? = some t → Tryz.pinned.checked.prog.wantsStandIn t = false := by
  obtain rfl : f = 3 := Option.some.inj ((show Tryz.prog.funcNamed Rows.valuesUptoRow.func = some 3 by kernel_rfl).symm.trans hf) |>.symm
  obtain rfl : fn = Tryz.f3 := (Option.some.inj (Tryz.func3.symm.trans hfn)).symm
  refine ⟨by kernel_rfl, fun j t ht => ?_⟩
  rw [Tryz.params3] at ht
  obtain rfl : t = 22 := by simpa using Array.mem_of_getElem? ht
  exact (show Tryz.prog.wantsStandIn 22 = false by kernel_rfl)

theorem values_upto_card : Rows.ValuesUptoCardSaid :=
  Claim7.holds_tied_plain_at .later [] _ _ _ _ values_upto (fun _ h => by cases h) (by kernel_rfl) (fun _ h => by cases h) valuesUpto_row_tie rfl ⟨rfl, rfl⟩ (by kernel_rfl) rfl plain (by kernel_rfl)
end Go.Proofs.YtmnnojekcloblaaGreatDoor

