import Derived.Handy
import Derived.Deep.DeepCutAuto
import Derived.Deep.RegionWith
import Derived.Lib.QuietBelow
import Derived.Test.YtoiiaankpnhppaaGreatDoorPart01
set_option linter.unusedVariables false
set_option linter.unusedSimpArgs false
namespace Go.Proofs.YtoiiaankpnhppaaGreatDoor
open Go.RowKit

def withStep (s : Thk.Bs) (p : List Thk.Bs × Bool) (x : Thk.Bs) : List Thk.Bs × Bool :=
  ((if p.2 = false ∧ (Op.bytesLess s x || s == x) = true then p.1 ++ [s] else p.1) ++ (if x = s then [] else [x]), p.2 || (Op.bytesLess s x || s == x))
def withL (l : List Thk.Bs) (s : Thk.Bs) : List Thk.Bs := if (l.foldl (withStep s) ([], false)).2 then (l.foldl (withStep s) ([], false)).1 else (l.foldl (withStep s) ([], false)).1 ++ [s]

theorem fold_take {α β : Type} (f : β → α → β) (b : β) (l : List α) (k : Nat) (h : k < l.length) : (l.take (k + 1)).foldl f b = f ((l.take k).foldl f b) l[k] := by
  rw [List.take_succ_eq_append_getElem h, List.foldl_append]; (first | done | rfl)

set_option maxHeartbeats 2000000 in
set_option maxRecDepth 100000 in
theorem with_any (B : Nat) (v : Value) (ss : List ByteArray) (s : ByteArray) (w : World) (hl : ss.length ≤ 1000) (hv : SliceIn B w v (strs ss)) (hB : B ≤ w.heap.size) :
    Calls Tryz.prog 192 #[v, .string s] w fun e w' => ∃ v' ss', e = .returned v' ∧ w'.ownsRow w.heap.size 9 1 v' ss'.length (strs ss') ∧ ss'.map toL = withL (ss.map toL) (toL s) ∧ (∀ x ∈ ss', x ∈ ss ∨ x = s) ∧ ss'.length ≤ ss.length + 1 ∧ Below w.heap.size w w' := by
  obtain ⟨i0, hi, hz0, hz1, hz2⟩ := info_parts Tryz.info9
  rcases hv with ⟨rfl, hx⟩ | ⟨b, off, cap, rfl, hcap, hb, hc⟩
  · have : ss = [] := by simpa [strs] using hx
    subst this
    go_enter Tryz.func192, Tryz.ntmps192
    go_wp2
    refine wp_loop_rounds 1 ?_
    rw [rounds_succ]
    go_wp2_with (at_builtin; refine wpList_append_own _ rfl _ _ 128 rfl w.heap.size 9 i0 (.string ⟨#[]⟩) 1 16 Tryz.underlying128 hi hz0 hz1 hz2 rfl (by decide) (.slice none 0 0) 0 [] rfl (World.ownsRow_nil _ _ _ _) ⟨w.heap.size, 0, none⟩ 1 1 [.string s] rfl rfl (cell_one_new _ _ _) (by intro u hu; simp at hu; subst hu; rfl) (by unfold maxLen; omega) (by omega) (by simp) ?_; intro v1 w1 hown1 hg1 _)
    go_ret
    refine ⟨v1, rfl, [s], by simpa [strs] using hown1, rfl, by simp, by simp, ?_⟩
    exact ((Below.refl _ _).alloc (Nat.le_refl _) _).grown hg1 (by simp) (fun k hk => by simp [Value.ownBlock] at hk)
  · have hlen : (strs ss).length = ss.length := by simp [strs]
    rw [hlen] at hcap ⊢
    have Hc : Hid (∀ (wr : World), Below w.heap.size w wr → ∀ j (h : j < ss.length), wr.cell? ⟨b, off + j, none⟩ = some (.string ss[j])) := by
      intro wr hbw j h; rw [hbw.cell (p := ⟨b, off + j, none⟩) (show b < _ by omega), hc j (by omega)]; simp [strs]
    clear hc hlen
    go_enter Tryz.func192, Tryz.ntmps192
    go_wp2
    go_loopw [5, 6, 7] (fun o d i wr => ∃ (k : Nat) (outs : List ByteArray) (dn : Bool), k ≤ ss.length ∧ i = .int .i64 k ∧ d = .bool dn ∧ wr.ownsRow w.heap.size 9 1 o outs.length (strs outs) ∧ Below w.heap.size w wr ∧ outs.length ≤ k + (if dn then 1 else 0) ∧
        Hid ((outs.map toL, dn) = ((ss.map toL).take k).foldl (withStep (toL s)) ([], false)) ∧ Hid (∀ x ∈ outs, x ∈ ss ∨ x = s)) (fun _ _ i _ => ss.length - (intOf i).toNat)
    case atStart => exact ⟨0, [], false, by omega, rfl, rfl, World.ownsRow_nil _ _ _ _, Below.refl _ _, by simp, by simp [Hid], by simp [Hid]⟩
    case round =>
      obtain ⟨k, outs, dn, hk, rfl, rfl, hown, hnx, hol, Hf, Hm⟩ := hrel
      by_cases hlt : k < ss.length
      · have hck := Hc.out wr hnx k hlt
        have hckA : ∀ o, (wr.alloc o).cell? ⟨b, off + k, none⟩ = some (.string ss[k]) := fun o => Hc.out _ (hnx.alloc hnx.size o) k hlt
        have hmem : Hid (ss[k] ∈ ss) := List.getElem_mem hlt
        have Hn : Hid (((ss.map toL).take (k + 1)).foldl (withStep (toL s)) ([], false) = withStep (toL s) (outs.map toL, dn) (toL ss[k])) := by
          unfold Hid; rw [fold_take _ _ _ k (by simpa using hlt), ← Hf.out]; simp
        clear Hf
        cases dn
        · simp only [Bool.false_eq_true, if_false, Nat.add_zero] at hol
          cases hle : (Op.bytesLess s.toList ss[k].toList || s.toList == ss[k].toList)
          · have hne : (ss[k].toList == s.toList) = false := by
              rw [Bool.or_eq_false_iff] at hle
              have := hle.2
              rw [beq_eq_false_iff_ne] at this ⊢
              exact fun h => this h.symm
            have Hw : Hid (withStep (toL s) (outs.map toL, false) (toL ss[k]) = ((outs ++ [ss[k]]).map toL, false)) := by
              have h1 : (Op.bytesLess (toL s) (toL ss[k]) || toL s == toL ss[k]) = false := by simpa [toList_eq, toL] using hle
              have h2 : ¬ toL ss[k] = toL s := by rw [beq_eq_false_iff_ne, toList_eq, toList_eq] at hne; exact hne
              unfold Hid withStep; rw [h1, if_neg (by simp), if_neg h2]; simp
            go_wp2_with (at_builtin; refine wpList_append_own _ rfl (.tmp 34) (.tmp 39) 128 rfl w.heap.size 9 i0 (.string ⟨#[]⟩) 1 16 Tryz.underlying128 hi hz0 hz1 hz2 rfl (by decide) _ _ _ rfl (hown.alloc _) ⟨wr.heap.size, 0, none⟩ 1 1 [.string ss[k]] rfl rfl (cell_one_new _ _ _) (by intro u hu; simp at hu; subst hu; rfl) (by unfold maxLen; omega) (by omega) (by have := hnx.size; simp; omega) ?_; intro v2 w2 hown2 hg2 _; have hb2 := grown_below hnx (Nat.le_refl _) hown hg2; clear hg2)
            go_roundw
            case rel => exact ⟨k + 1, outs ++ [ss[k]], false, by omega, by go_num, rfl, by simpa [strs] using hown2, hb2, by simp; omega, by unfold Hid; rw [Hn.out, Hw.out], by
              intro x hx
              rcases List.mem_append.1 hx with h | h
              · exact Hm.out x h
              · simp at h; subst h; exact Or.inl hmem.out⟩
            case measure => simp [intOf]; omega
          · cases hne : (ss[k].toList == s.toList)
            · have Hw : Hid (withStep (toL s) (outs.map toL, false) (toL ss[k]) = ((outs ++ [s] ++ [ss[k]]).map toL, true)) := by
                have h1 : (Op.bytesLess (toL s) (toL ss[k]) || toL s == toL ss[k]) = true := by simpa [toList_eq, toL] using hle
                have h2 : ¬ toL ss[k] = toL s := by rw [beq_eq_false_iff_ne, toList_eq, toList_eq] at hne; exact hne
                unfold Hid withStep; rw [h1, if_pos (by simp), if_neg h2]; simp
              go_wp2_with (first | (at_builtin; refine wpList_append_own _ rfl (.tmp 24) (.tmp 26) 128 rfl w.heap.size 9 i0 (.string ⟨#[]⟩) 1 16 Tryz.underlying128 hi hz0 hz1 hz2 rfl (by decide) _ _ _ rfl (hown.alloc _) ⟨wr.heap.size, 0, none⟩ 1 1 [.string s] rfl rfl (cell_one_new _ _ _) (by intro u hu; simp at hu; subst hu; rfl) (by unfold maxLen; omega) (by omega) (by have := hnx.size; simp; omega) ?_; intro v1 w1 hown1 hg1 _; have hb1 := grown_below hnx (Nat.le_refl _) hown hg1; have hcB := Hc.out _ (hb1) k hlt; have hcA : ∀ o, (w1.alloc o).cell? ⟨b, off + k, none⟩ = some (.string ss[k]) := fun o => Hc.out _ (hb1.alloc hb1.size o) k hlt; clear hg1) | (at_builtin; refine wpList_append_own _ rfl (.tmp 34) (.tmp 39) 128 rfl w.heap.size 9 i0 (.string ⟨#[]⟩) 1 16 Tryz.underlying128 hi hz0 hz1 hz2 rfl (by decide) _ _ _ rfl (hown1.alloc _) ⟨w1.heap.size, 0, none⟩ 1 1 [.string ss[k]] rfl rfl (cell_one_new _ _ _) (by intro u hu; simp at hu; subst hu; rfl) (by unfold maxLen; omega) (by omega) (by have := hb1.size; simp; omega) ?_; intro v2 w2 hown2 hg2 _; have hb2 := grown_below hb1 (Nat.le_refl _) hown1 hg2; clear hg2))
              go_roundw
              case rel => exact ⟨k + 1, outs ++ [s] ++ [ss[k]], true, by omega, by go_num, rfl, by simpa [strs] using hown2, hb2, by simp; omega, by unfold Hid; rw [Hn.out, Hw.out], by
                intro x hx
                rcases List.mem_append.1 hx with h | h
                · rcases List.mem_append.1 h with h | h
                  · exact Hm.out x h
                  · simp at h; exact Or.inr h
                · simp at h; subst h; exact Or.inl hmem.out⟩
              case measure => simp [intOf]; omega
            · have Hw : Hid (withStep (toL s) (outs.map toL, false) (toL ss[k]) = ((outs ++ [s]).map toL, true)) := by
                have h1 : (Op.bytesLess (toL s) (toL ss[k]) || toL s == toL ss[k]) = true := by simpa [toList_eq, toL] using hle
                have h2 : toL ss[k] = toL s := by rw [beq_iff_eq, toList_eq, toList_eq] at hne; exact hne
                unfold Hid withStep; rw [h1, if_pos (by simp), if_pos h2]; simp
              go_wp2_with (at_builtin; refine wpList_append_own _ rfl (.tmp 24) (.tmp 26) 128 rfl w.heap.size 9 i0 (.string ⟨#[]⟩) 1 16 Tryz.underlying128 hi hz0 hz1 hz2 rfl (by decide) _ _ _ rfl (hown.alloc _) ⟨wr.heap.size, 0, none⟩ 1 1 [.string s] rfl rfl (cell_one_new _ _ _) (by intro u hu; simp at hu; subst hu; rfl) (by unfold maxLen; omega) (by omega) (by have := hnx.size; simp; omega) ?_; intro v1 w1 hown1 hg1 _; have hb1 := grown_below hnx (Nat.le_refl _) hown hg1; have hcB := Hc.out _ (hb1) k hlt; have hcA : ∀ o, (w1.alloc o).cell? ⟨b, off + k, none⟩ = some (.string ss[k]) := fun o => Hc.out _ (hb1.alloc hb1.size o) k hlt; clear hg1)
              go_roundw
              case rel => exact ⟨k + 1, outs ++ [s], true, by omega, by go_num, rfl, by simpa [strs] using hown1, hb1, by simp; omega, by unfold Hid; rw [Hn.out, Hw.out], by
                intro x hx
                rcases List.mem_append.1 hx with h | h
                · exact Hm.out x h
                · simp at h; exact Or.inr h⟩
              case measure => simp [intOf]; omega
        · simp only [if_true] at hol
          cases hne : (ss[k].toList == s.toList)
          · have Hw : Hid (withStep (toL s) (outs.map toL, true) (toL ss[k]) = ((outs ++ [ss[k]]).map toL, true)) := by
              have h2 : ¬ toL ss[k] = toL s := by rw [beq_eq_false_iff_ne, toList_eq, toList_eq] at hne; exact hne
              unfold Hid withStep; rw [if_neg (by simp), if_neg h2]; simp
            go_wp2_with (at_builtin; refine wpList_append_own _ rfl (.tmp 34) (.tmp 39) 128 rfl w.heap.size 9 i0 (.string ⟨#[]⟩) 1 16 Tryz.underlying128 hi hz0 hz1 hz2 rfl (by decide) _ _ _ rfl (hown.alloc _) ⟨wr.heap.size, 0, none⟩ 1 1 [.string ss[k]] rfl rfl (cell_one_new _ _ _) (by intro u hu; simp at hu; subst hu; rfl) (by unfold maxLen; omega) (by omega) (by have := hnx.size; simp; omega) ?_; intro v2 w2 hown2 hg2 _; have hb2 := grown_below hnx (Nat.le_refl _) hown hg2; clear hg2)
            go_roundw
            case rel => exact ⟨k + 1, outs ++ [ss[k]], true, by omega, by go_num, rfl, by simpa [strs] using hown2, hb2, by simp; omega, by unfold Hid; rw [Hn.out, Hw.out], by
              intro x hx
              rcases List.mem_append.1 hx with h | h
              · exact Hm.out x h
              · simp at h; subst h; exact Or.inl hmem.out⟩
            case measure => simp [intOf]; omega
          · have Hw : Hid (withStep (toL s) (outs.map toL, true) (toL ss[k]) = (outs.map toL, true)) := by
              have h2 : toL ss[k] = toL s := by rw [beq_iff_eq, toList_eq, toList_eq] at hne; exact hne
              unfold Hid withStep; rw [if_neg (by simp), if_pos h2]; simp
            go_wp2
            go_roundw
            case rel => exact ⟨k + 1, outs, true, by omega, by go_num, rfl, hown, hnx, by simp; omega, by unfold Hid; rw [Hn.out, Hw.out], Hm.out⟩
            case measure => simp [intOf]; omega
      · have hks : k = ss.length := by omega
        subst hks
        have Hf2 : Hid ((outs.map toL, dn) = (ss.map toL).foldl (withStep (toL s)) ([], false)) := by
          have h := Hf.out; rw [List.take_of_length_le (by simp)] at h; exact h
        clear Hf
        cases dn
        · simp only [Bool.false_eq_true, if_false, Nat.add_zero] at hol
          go_wp2_with (at_builtin; refine wpList_append_own _ rfl (.tmp 43) (.tmp 45) 128 rfl w.heap.size 9 i0 (.string ⟨#[]⟩) 1 16 Tryz.underlying128 hi hz0 hz1 hz2 rfl (by decide) _ _ _ rfl (hown.alloc _) ⟨wr.heap.size, 0, none⟩ 1 1 [.string s] rfl rfl (cell_one_new _ _ _) (by intro u hu; simp at hu; subst hu; rfl) (by unfold maxLen; omega) (by omega) (by have := hnx.size; simp; omega) ?_; intro v2 w2 hown2 hg2 _; have hb2 := grown_below hnx (Nat.le_refl _) hown hg2; clear hg2)
          go_ret
          refine ⟨v2, outs ++ [s], rfl, by simpa [strs] using hown2, ?_, ?_, by simp; omega, hb2⟩
          · unfold withL; rw [← Hf2.out]; simp
          · intro x hx
            rcases List.mem_append.1 hx with h | h
            · exact Hm.out x h
            · simp at h; exact Or.inr h
        · simp only [if_true] at hol
          go_wp2
          go_ret
          refine ⟨_, outs, rfl, hown, ?_, Hm.out, by omega, hnx⟩
          unfold withL; rw [← Hf2.out]; simp

end Go.Proofs.YtoiiaankpnhppaaGreatDoor
namespace Go.Proofs.YtoiiaankpnhppaaGreatDoor
open Go.RowKit Go.Sort

structure Ev where
  p : ByteArray
  a : UInt8
  v : ByteArray
  n : Int
  saw : List Bool

def EvsIn (B : Nat) (w : World) (v : Value) (es : List Ev) : Prop :=
  (v = .slice none 0 0 ∧ es = []) ∨
    ∃ b off cap, v = .slice (some ⟨b, off, none⟩) es.length cap ∧ es.length ≤ cap ∧ b < B ∧ ∀ j (h : j < es.length), ∃ sv,
      w.cell? ⟨b, off + j * 5, none⟩ = some (.string es[j].p) ∧ w.cell? ⟨b, off + j * 5 + 1, none⟩ = some (.int .u8 (es[j].a.toNat : Int)) ∧ w.cell? ⟨b, off + j * 5 + 2, none⟩ = some (.string es[j].v) ∧
      w.cell? ⟨b, off + j * 5 + 3, none⟩ = some (.int .i64 es[j].n) ∧ w.cell? ⟨b, off + j * 5 + 4, none⟩ = some sv ∧ SliceIn B w sv (bools es[j].saw)

def covAt (es : List Ev) (known : List Bool) (k d : Nat) : Bool :=
  match es[d]?, es[k]? with
  | some x, some y => known.getD d false && x.saw.getD k false && covB (toL x.p) x.a (toL x.v) (toL y.p) y.a (toL y.v)
  | _, _ => false
def covTo (es : List Ev) (known : List Bool) (k : Nat) : Nat → Bool
  | 0 => false
  | d + 1 => covTo es known k d || (decide (k < d) && covAt es known k d)
def alive (es : List Ev) (known : List Bool) (k : Nat) : Bool :=
  match es[k]? with
  | some y => effB y.a && known.getD k false && !covTo es known k es.length
  | none => false
def aliveTo (es : List Ev) (known : List Bool) (n : Nat) : List Nat := (List.range n).filter (alive es known)

theorem Tryz.info3 : (Tryz.prog.info? 3).map (fun i => (i.zero, i.size, i.bytes)) = some (some (.int .i64 0), 1, 8) := by kernel_rfl

theorem EvsIn.below {B : Nat} {w w' : World} {v : Value} {es : List Ev} (h : EvsIn B w v es) (hb : Below B w w') : EvsIn B w' v es := by
  rcases h with h | ⟨b, off, cap, h1, h2, h3, h4⟩
  · exact Or.inl h
  · refine Or.inr ⟨b, off, cap, h1, h2, h3, fun j hj => ?_⟩
    obtain ⟨sv, c0, c1, c2, c3, c4, c5⟩ := h4 j hj
    exact ⟨sv, (hb.cell (p := ⟨b, _, none⟩) h3).trans c0, (hb.cell (p := ⟨b, _, none⟩) h3).trans c1, (hb.cell (p := ⟨b, _, none⟩) h3).trans c2, (hb.cell (p := ⟨b, _, none⟩) h3).trans c3, (hb.cell (p := ⟨b, _, none⟩) h3).trans c4, c5.below hb⟩

theorem own_below {w w' : World} {B : Nat} {e : TypeId} {v : Value} {n size : Nat} {xs : List Value} (h : w.ownsRow B e size v n xs) (hb : Below w.heap.size w w') : w'.ownsRow B e size v n xs :=
  h.kept (row := none) ⟨hb.os, hb.tape, hb.output, hb.size, fun k hk _ => hb.block k hk⟩ (by cases h : v.ownBlock <;> simp)
theorem ownsRow_drewN {w : World} {B : Nat} {e : TypeId} {v : Value} {n size : Nat} {xs : List Value} (h : w.ownsRow B e size v n xs) (k : Nat) : (w.drewN k).ownsRow B e size v n xs := by
  exact own_below h (below_drewN (Below.refl _ _) k)
theorem aliveTo_le (es : List Ev) (known : List Bool) (k : Nat) : (aliveTo es known k).length ≤ k := by
  have := List.length_filter_le (alive es known) (List.range k); simpa [aliveTo] using this
theorem covTo_start (es : List Ev) (known : List Bool) (k : Nat) : ∀ n, n ≤ k + 1 → covTo es known k n = false := by
  intro n
  induction n with
  | zero => intro _; rfl
  | succ n ih => intro h; unfold covTo; rw [ih (by omega)]; simp; omega
theorem covTo_mono (es : List Ev) (known : List Bool) (k : Nat) : ∀ m n, n ≤ m → covTo es known k n = true → covTo es known k m = true := by
  intro m
  induction m with
  | zero => intro n h; have : n = 0 := by omega
            subst this; exact id
  | succ m ih =>
    intro n h hn
    rcases Nat.lt_or_ge m n with h1 | h1
    · have : n = m + 1 := by omega
      subst this; exact hn
    · unfold covTo; rw [ih n h1 hn]; (first | done | rfl)

set_option maxHeartbeats 2000000 in
set_option maxRecDepth 100000 in
theorem Alive_some (B b off cap : Nat) (es : List Ev) (kv : Value) (known : List Bool) (w : World) (hB : B ≤ w.heap.size) (hcap : es.length ≤ cap) (hn : es.length ≤ 1000) (hkn : known.length ≤ 1000)
    (hev : EvsIn B w (.slice (some ⟨b, off, none⟩) es.length cap) es) (hkv : SliceIn B w kv (bools known)) (hz : ∀ e ∈ es, e.p.size ≤ 1048576 ∧ e.saw.length ≤ 1000) :
    Calls Tryz.prog 139 #[.slice (some ⟨b, off, none⟩) es.length cap, kv] w fun e w' => ∃ v, e = .returned v ∧ w'.ownsRow w.heap.size 3 1 v (aliveTo es known es.length).length (nats (aliveTo es known es.length)) ∧ Below w.heap.size w w' := by
  obtain ⟨i0, hi, hz0, hz1, hz2⟩ := info_parts Tryz.info3
  have Hev : Hid (∀ wr, Below w.heap.size w wr → ∀ j (h : j < es.length), ∃ sv,
      wr.cell? ⟨b, off + j * 5, none⟩ = some (.string es[j].p) ∧ wr.cell? ⟨b, off + j * 5 + 1, none⟩ = some (.int .u8 (es[j].a.toNat : Int)) ∧ wr.cell? ⟨b, off + j * 5 + 2, none⟩ = some (.string es[j].v) ∧
      wr.cell? ⟨b, off + j * 5 + 3, none⟩ = some (.int .i64 es[j].n) ∧ wr.cell? ⟨b, off + j * 5 + 4, none⟩ = some sv ∧ SliceIn B wr sv (bools es[j].saw)) := by
    intro wr hbw j h
    rcases hev.below (hbw.mono hB) with ⟨h1, _⟩ | ⟨b', off', cap', h1, h2, h3, h4⟩
    · cases h1
    · cases h1; exact h4 j h
  have Hkv : Hid (∀ wr, Below w.heap.size w wr → SliceIn B wr kv (bools known)) := fun wr hbw => hkv.below (hbw.mono hB)
  have Hz : Hid (_) := hz
  clear hev hkv hz
  go_enter Tryz.func139, Tryz.ntmps139
  go_wp2
  go_loopw [5, 6, 7, 8, 9, 10, 11, 12] (fun o i _ _ _ _ _ _ wr => ∃ (k : Nat), k ≤ es.length ∧ i = .int .i64 k ∧ wr.ownsRow w.heap.size 3 1 o (aliveTo es known k).length (nats (aliveTo es known k)) ∧ Below w.heap.size w wr) (fun _ i _ _ _ _ _ _ _ => es.length - (intOf i).toNat)
  case atStart => exact ⟨0, by omega, rfl, World.ownsRow_nil _ _ _ _, Below.refl _ _⟩
  case round =>
    obtain ⟨k, hk, rfl, hown, hnx⟩ := hrel
    by_cases hlt : k < es.length
    · obtain ⟨sv, c0, c1, c2, c3, c4, c5⟩ := Hev.out wr hnx k hlt
      have hck : ∀ w', Below wr.heap.size wr w' → SliceIn B w' kv (bools known) := fun w' h => Hkv.out w' (hnx.trans (h.mono hnx.size))
      have Hck : Hid (_) := hck
      clear hck c5
      have hget : es[k]? = some es[k] := List.getElem?_eq_getElem hlt
      have Hal : Hid (alive es known k = (effB es[k].a && known.getD k false && !covTo es known k es.length)) := by unfold Hid alive; rw [hget]
      have Hsucc : Hid (aliveTo es known (k + 1) = aliveTo es known k ++ if alive es known k then [k] else []) := by
        unfold Hid aliveTo; rw [List.range_succ, List.filter_append]; congr 1; cases h : alive es known k <;> simp [h]
      have hall := aliveTo_le es known k
      clear hget
      generalize hek : es[k] = ek at *
      go_wp2_with fail
      refine (effect_any _ _ _ _ _ _).mono ?_
      rintro e w1 ⟨rfl, hb1⟩
      have hnx1 : Below w.heap.size w w1 := hnx.trans (hb1.mono hnx.size)
      have hown1 := own_below hown hb1
      go_wp2_with fail
      refine (in_any B _ known k _ (by omega) (by omega) (Hck.out _ hb1)).mono ?_
      rintro e w2 ⟨rfl, rfl⟩
      clear hown hnx c0 c1 c2 c3 c4 hb1 Hck
      cases heff : effB ek.a
      · have Hs2 : Hid (aliveTo es known (k + 1) = aliveTo es known k) := by unfold Hid; rw [Hsucc.out, Hal.out, heff]; simp
        clear heff Hal Hsucc
        go_wp2
        go_roundw
        case rel => exact ⟨k + 1, by omega, by go_num, by rw [Hs2.out]; exact hown1, hnx1⟩
        case measure => simp [intOf]; omega
      · cases hkn2 : known.getD k false
        · have Hs2 : Hid (aliveTo es known (k + 1) = aliveTo es known k) := by unfold Hid; rw [Hsucc.out, Hal.out, hkn2]; simp
          clear heff hkn2 Hal Hsucc
          go_wp2
          go_roundw
          case rel => exact ⟨k + 1, by omega, by go_num, by rw [Hs2.out]; exact hown1, hnx1⟩
          case measure => simp [intOf]; omega
        · have Hs2 : Hid (aliveTo es known (k + 1) = aliveTo es known k ++ if covTo es known k es.length then [] else [k]) := by
            unfold Hid; rw [Hsucc.out, Hal.out, hkn2, heff]; cases covTo es known k es.length <;> rfl
          clear heff hkn2 Hal Hsucc
          go_wp2
          go_loopw [9, 10, 11, 12] (fun c d _ _ wr => ∃ (n : Nat), k + 1 ≤ n ∧ n ≤ es.length ∧ d = .int .i64 n ∧ c = .bool (covTo es known k n) ∧ wr.ownsRow w.heap.size 3 1 u5 (aliveTo es known k).length (nats (aliveTo es known k)) ∧ Below w.heap.size w wr) (fun _ d _ _ _ => es.length - (intOf d).toNat)
          case atStart => exact ⟨k + 1, by omega, by omega, by go_num, by rw [covTo_start _ _ _ _ (Nat.le_refl _)], hown1, hnx1⟩
          case round =>
            obtain ⟨n, hn1, hn2, rfl, rfl, hownr, hnxr⟩ := hrel
            by_cases hlt2 : n < es.length
            · cases hcv : covTo es known k n
              · obtain ⟨svd, e0, e1, e2, e3, e4, e5⟩ := Hev.out _ hnxr n hlt2
                obtain ⟨svk, f0, f1, f2, f3, f4, f5⟩ := Hev.out _ hnxr k hlt
                have Hcv : Hid (covTo es known k (n + 1) = (known.getD n false && es[n].saw.getD k false && covB (toL es[n].p) es[n].a (toL es[n].v) (toL es[k].p) es[k].a (toL es[k].v))) := by
                  unfold Hid covTo; rw [hcv]; unfold covAt
                  rw [List.getElem?_eq_getElem hlt2, List.getElem?_eq_getElem hlt]
                  have : decide (k < n) = true := by simp; omega
                  rw [this]; simp
                have hz1 := Hz.out _ (List.getElem_mem hlt2)
                have hz2 := Hz.out _ (List.getElem_mem hlt)
                have hkv2 := Hkv.out _ hnxr
                have Hkv2 : Hid (_) := hkv2
                have He5 : Hid (_) := e5
                clear hkv2 e5 f5 hcv
                rw [hek] at *
                clear hek
                generalize es[n] = en at *
                go_wp2_with fail
                refine (in_any B _ known n _ (by omega) (by omega) Hkv2.out).mono ?_
                rintro e w3 ⟨rfl, rfl⟩
                cases h1 : known.getD n false
                · have Hc2 : Hid (covTo es known k (n + 1) = false) := by unfold Hid; rw [Hcv.out, h1]; (first | done | rfl)
                  clear h1 Hcv
                  go_wp2_with fail
                  refine (in_any B _ en.saw k _ (by omega) (by omega) He5.out).mono ?_
                  rintro e w3 ⟨rfl, rfl⟩
                  generalize en.saw.getD k false = x2
                  go_wp2_with fail
                  go_quiet (fail)
                  go_wp2
                  go_roundw
                  case rel => exact ⟨n + 1, by omega, by omega, by go_num, by rw [Hc2.out], ownsRow_drewN hownr _, below_drewN hnxr _⟩
                  case measure => simp [intOf]; omega
                · go_wp2_with fail
                  refine (in_any B _ en.saw k _ (by omega) (by omega) He5.out).mono ?_
                  rintro e w3 ⟨rfl, rfl⟩
                  cases h2 : en.saw.getD k false
                  · have Hc2 : Hid (covTo es known k (n + 1) = false) := by unfold Hid; rw [Hcv.out, h2]; simp
                    clear h1 h2 Hcv
                    go_wp2_with fail
                    go_quiet (fail)
                    go_wp2
                    go_roundw
                    case rel => exact ⟨n + 1, by omega, by omega, by go_num, by rw [Hc2.out], ownsRow_drewN hownr _, below_drewN hnxr _⟩
                    case measure => simp [intOf]; omega
                  · have Hc2 : Hid (covTo es known k (n + 1) = covB (toL en.p) en.a (toL en.v) (toL ek.p) ek.a (toL ek.v)) := by unfold Hid; rw [Hcv.out, h1, h2]; simp
                    clear h1 h2 Hcv
                    go_wp2_with fail
                    have cCov : Hid (∀ d os, Calls Tryz.prog 189 #[.agg #[.string en.p, .int .u8 (en.a.toNat : Int), .string en.v, .int .i64 en.n, svd], .agg #[.string ek.p, .int .u8 (ek.a.toNat : Int), .string ek.v, .int .i64 ek.n, svk]] (grow (redrawn w3 d) os) fun e w'' => e = .returned (.bool (covB (toL en.p) en.a (toL en.v) (toL ek.p) ek.a (toL ek.v))) ∧ ∃ p : Regrown, w'' = grow (redrawn w3 p.d) p.os) := fun d os => Calls.regrown_of (covers_any _ _ _ _ _ _ _ _ _ _ _ hz1.1 hz2.1)
                    have e0' := fun d os => cell_regrown e0 d os
                    have e1' := fun d os => cell_regrown e1 d os
                    have e2' := fun d os => cell_regrown e2 d os
                    have e3' := fun d os => cell_regrown e3 d os
                    have e4' := fun d os => cell_regrown e4 d os
                    have f0' := fun d os => cell_regrown f0 d os
                    have f1' := fun d os => cell_regrown f1 d os
                    have f2' := fun d os => cell_regrown f2 d os
                    have f3' := fun d os => cell_regrown f3 d os
                    have f4' := fun d os => cell_regrown f4 d os
                    clear e0 e1 e2 e3 e4 f0 f1 f2 f3 f4
                    refine wp_region_quiet_below (by kernel_rfl) (by kernel_rfl) ?_
                    repeat (first | go_big_quiet_step (exact cCov.out _ _) | quiet_step (exact cCov.out _ _))
                    refine wpQuiet_nil ?_
                    intro _ hw'
                    obtain ⟨⟨dq, osq⟩, hw''⟩ := hw'
                    subst hw''
                    have hb6 := below_regrown w3 dq osq
                    have hown6 := own_below hownr hb6
                    generalize grow (redrawn w3 dq) osq = w6 at *
                    go_wp2
                    go_roundw
                    case rel => exact ⟨n + 1, by omega, by omega, by go_num, by rw [Hc2.out], hown6, hnxr.trans (hb6.mono hnxr.size)⟩
                    case measure => simp [intOf]; omega
              · have Hc2 : Hid (covTo es known k es.length = true) := covTo_mono _ _ _ _ _ hn2 hcv
                clear hcv
                go_wp2
                go_roundw
                case rel => exact ⟨k + 1, by omega, by go_num, by rw [Hs2.out, Hc2.out]; simpa using hownr, hnxr⟩
                case measure => simp [intOf]; omega
            · have hne : n = es.length := by omega
              subst hne
              cases hcv : covTo es known k es.length
              · go_wp2_with (at_builtin; refine wpList_append_own _ rfl _ _ 42 rfl w.heap.size 3 i0 (.int .i64 0) 1 8 Tryz.underlying42 hi hz0 hz1 hz2 rfl (by decide) _ _ _ rfl (hownr.alloc _) ⟨_, 0, none⟩ 1 1 [.int .i64 (k : Int)] rfl rfl (cell_one_new _ _ _) (by intro u hu; simp at hu; subst hu; rfl) (by unfold maxLen; omega) (by omega) (by have := hnxr.size; simp; omega) ?_; intro v5 w5 hown5 hg5 _; have hb5 := grown_below hnxr (Nat.le_refl _) hownr hg5; clear hg5)
                go_roundw
                case rel => exact ⟨k + 1, by omega, by go_num, by rw [Hs2.out, hcv]; simpa [nats] using hown5, hb5⟩
                case measure => simp [intOf]; omega
              · go_wp2
                go_roundw
                case rel => exact ⟨k + 1, by omega, by go_num, by rw [Hs2.out, hcv]; simpa using hownr, hnxr⟩
                case measure => simp [intOf]; omega
    · have : k = es.length := by omega
      subst this
      go_wp2
      go_ret
      exact ⟨_, rfl, hown, hnx⟩

end Go.Proofs.YtoiiaankpnhppaaGreatDoor
namespace Go.Proofs.YtoiiaankpnhppaaGreatDoor
open Go.RowKit

theorem SliceIn.form {B : Nat} {w : World} {v : Value} {xs : List Value} (h : SliceIn B w v xs) : ∃ ao cap, v = .slice ao xs.length cap ∧ xs.length ≤ cap ∧ (0 < xs.length → ∃ b off, ao = some ⟨b, off, none⟩ ∧ b < B ∧ ∀ j (h : j < xs.length), w.cell? ⟨b, off + j, none⟩ = some xs[j]) := by
  rcases h with ⟨rfl, rfl⟩ | ⟨b, off, cap, h1, h2, h3, h4⟩
  · exact ⟨none, 0, rfl, Nat.le_refl _, fun h => by simp at h⟩
  · exact ⟨some ⟨b, off, none⟩, cap, h1, h2, fun _ => ⟨b, off, rfl, h3, h4⟩⟩

structure TSt where
  l : List Thk.Bs
  sum : Int
  some : Bool
def tstep (k : UInt8) (path : Thk.Bs) (st : TSt) (e : Ev) : TSt :=
  if ((k.toNat : Int) == 109) && Thk.begins (toL e.p) path && !(toL e.p == path) then ⟨withL st.l ((Thk.split 47 ((toL e.p).drop (path.length + 1))).headD []), st.sum, st.some⟩
  else if toL e.p == path then ⟨withL st.l (toL e.v), st.sum + e.n, true⟩ else st
def tellB (k : UInt8) (st : TSt) : Thk.Bs :=
  if (k.toNat : Int) = 102 then (if st.some then [49] else [48]) else if (k.toNat : Int) = 99 then Thk.digits st.sum else Thk.joinTo st.l st.l.length
def tellR (es : List Ev) (al : List Nat) (path : Thk.Bs) : Thk.Bs :=
  tellB (Thk.kindOf path) (al.foldl (fun st j => match es[j]? with | some e => tstep (Thk.kindOf path) path st e | none => st) ⟨[], 0, false⟩)

def tfold (es : List Ev) (k : UInt8) (path : Thk.Bs) (al : List Nat) : TSt := al.foldl (fun st j => match es[j]? with | some e => tstep k path st e | none => st) ⟨[], 0, false⟩
theorem tfold_succ (es : List Ev) (k : UInt8) (path : Thk.Bs) (al : List Nat) (i : Nat) (h : i < al.length) (e : Ev) (he : es[al[i]]? = some e) :
    tfold es k path (al.take (i + 1)) = tstep k path (tfold es k path (al.take i)) e := by
  unfold tfold; rw [fold_take _ _ _ i h, he]

structure EvOk (e : Ev) : Prop where
  p : e.p.size ≤ 20
  v : e.v.size ≤ 20
  n1 : e.n ≤ 1000000000
  n2 : -1000000000 ≤ e.n
  s : e.saw.length ≤ 1000

structure TInv (B : Nat) (w : World) (es : List Ev) (k : UInt8) (path : Thk.Bs) (al : List Nat) (i : Nat) (lv : Value) (sum : Int) (sm : Bool) (wr : World) : Prop where
  below : Below B w wr
  own : ∃ ss : List ByteArray, SliceIn wr.heap.size wr lv (strs ss) ∧ ss.map toL = (tfold es k path (al.take i)).l ∧ ss.length ≤ i ∧ ∀ s ∈ ss, s.size ≤ 1000
  hsum : sum = (tfold es k path (al.take i)).sum
  b1 : sum ≤ 1000000000 * i
  b2 : -(1000000000 * i) ≤ sum
  hsome : sm = (tfold es k path (al.take i)).some

theorem TInv.next {w wr w' : World} {es : List Ev} {k : UInt8} {path : Thk.Bs} {al : List Nat} {i : Nat} {lv : Value} {sum : Int} {sm : Bool} (h : TInv w.heap.size w es k path al i lv sum sm wr)
    (hf : tfold es k path (al.take (i + 1)) = tfold es k path (al.take i)) (hb : Below w.heap.size w w') (hb2 : Below wr.heap.size wr w') : TInv w.heap.size w es k path al (i + 1) lv sum sm w' := by
  obtain ⟨ss, h1, h2, h3, h4⟩ := h.own
  have a := h.b1
  have b := h.b2
  exact ⟨hb, ⟨ss, (h1.below hb2).mono hb2.size, by rw [hf]; exact h2, by omega, h4⟩, by rw [hf]; exact h.hsum, by omega, by omega, by rw [hf]; exact h.hsome⟩

set_option maxHeartbeats 4000000 in
set_option maxRecDepth 100000 in
theorem Tell_any (B : Nat) (evv : Value) (es : List Ev) (av : Value) (al : List Nat) (path : ByteArray) (w : World) (hB : B ≤ w.heap.size) (hn : es.length ≤ 1000)
    (hev : EvsIn B w evv es) (hav : SliceIn w.heap.size w av (nats al)) (hal : ∀ j ∈ al, j < es.length) (hall : al.length ≤ 1000) (hz : ∀ e ∈ es, EvOk e) (hps : path.size ≤ 1048576) (hp : Thk.path (toL path) = true) :
    Calls Tryz.prog 140 #[evv, av, .string path] w fun e w' => ∃ t, e = .returned (.string t) ∧ toL t = tellR es al (toL path) ∧ Below w.heap.size w w' := by
  have Hev : Hid (0 < es.length → ∃ b off cap, evv = .slice (some ⟨b, off, none⟩) es.length cap ∧ es.length ≤ cap ∧ ∀ wr, Below w.heap.size w wr → ∀ j (h : j < es.length), ∃ so sn sc,
      wr.cell? ⟨b, off + j * 5, none⟩ = some (.string es[j].p) ∧ wr.cell? ⟨b, off + j * 5 + 1, none⟩ = some (.int .u8 (es[j].a.toNat : Int)) ∧ wr.cell? ⟨b, off + j * 5 + 2, none⟩ = some (.string es[j].v) ∧
      wr.cell? ⟨b, off + j * 5 + 3, none⟩ = some (.int .i64 es[j].n) ∧ wr.cell? ⟨b, off + j * 5 + 4, none⟩ = some (.slice so sn sc)) := by
    intro hpos
    rcases hev with ⟨_, h2⟩ | ⟨b, off, cap, h1, h2, h3, h4⟩
    · rw [h2] at hpos; simp at hpos
    · refine ⟨b, off, cap, h1, h2, fun wr hbw j h => ?_⟩
      obtain ⟨sv, c0, c1, c2, c3, c4, c5⟩ := h4 j h
      have hb' := hbw.mono hB
      obtain ⟨so, sc, rfl, _, _⟩ := c5.form
      exact ⟨so, _, sc, (hb'.cell (p := ⟨b, _, none⟩) h3).trans c0, (hb'.cell (p := ⟨b, _, none⟩) h3).trans c1, (hb'.cell (p := ⟨b, _, none⟩) h3).trans c2, (hb'.cell (p := ⟨b, _, none⟩) h3).trans c3, (hb'.cell (p := ⟨b, _, none⟩) h3).trans c4⟩
  have Hz : Hid (_) := hz
  have Hp : Hid (_) := hp
  have Hal : Hid (_) := hal
  obtain ⟨ao, ac, rfl, hac, hcells⟩ := hav.form
  have hlen : (nats al).length = al.length := by simp [nats]
  rw [hlen] at hac ⊢
  have Hc : Hid (0 < al.length → ∃ b off, ao = some ⟨b, off, none⟩ ∧ ∀ (wr : World), Below w.heap.size w wr → ∀ j (h : j < al.length), wr.cell? ⟨b, off + j, none⟩ = some (.int .i64 (al[j] : Int))) := by
    intro hpos
    obtain ⟨b, off, h1, h2, h3⟩ := hcells (by omega)
    refine ⟨b, off, h1, fun wr hbw j h => ?_⟩
    rw [hbw.cell (p := ⟨b, off + j, none⟩) h2, h3 j (by omega)]; simp [nats]
  clear hev hz hp hal hav hcells hlen
  go_enter Tryz.func140, Tryz.ntmps140
  go_wp2_with fail
  refine (kind_any path _ hps Hp.out).mono ?_
  rintro e w1 ⟨rfl, hb1⟩
  have hTell : Hid (tellR es al (toL path) = tellB (Thk.kindOf (toL path)) (tfold es (Thk.kindOf (toL path)) (toL path) al)) := rfl
  generalize Thk.kindOf (toL path) = kd at *
  go_wp2
  go_loopw [7, 8, 9, 11] (fun l s m i wr => ∃ (k : Nat) (sm : Int) (x : Bool), k ≤ al.length ∧ i = .int .i64 k ∧ s = .int .i64 sm ∧ m = .bool x ∧ TInv w.heap.size w es kd (toL path) al k l sm x wr) (fun _ _ _ i _ => al.length - (intOf i).toNat)
  case atStart => exact ⟨0, 0, false, by omega, rfl, rfl, rfl, hb1, ⟨[], Or.inl ⟨rfl, rfl⟩, rfl, by simp, by simp⟩, rfl, by simp, by simp, rfl⟩
  case round =>
    obtain ⟨k, sm, x, hk, rfl, rfl, rfl, hI⟩ := hrel
    have HI : Hid (_) := hI
    clear hI
    by_cases hlt : k < al.length
    · obtain ⟨ab, aoff, rfl, Hca⟩ := Hc.out (by omega)
      have hca := Hca _ HI.out.below k hlt
      have hj : al[k] < es.length := Hal.out _ (List.getElem_mem hlt)
      obtain ⟨b, off, cap, rfl, hcap, Hcc⟩ := Hev.out (by omega)
      obtain ⟨so, sn, sc, c0, c1, c2, c3, c4⟩ := Hcc _ HI.out.below al[k] hj
      have hok := Hz.out _ (List.getElem_mem hj)
      have hstep : Hid (_) := tfold_succ es kd (toL path) al k hlt _ (List.getElem?_eq_getElem hj)
      clear Hca Hcc
      generalize al[k] = j at *
      generalize es[j] = ej at *
      go_wp2_with fail
      refine (begins_any _ _ _ (by have := hok.p; omega) hps).mono ?_
      rintro e w2 ⟨rfl, rfl⟩
      have hbw := HI.out.below.alloc HI.out.below.size (.cells #[.string ej.p, .int .u8 (ej.a.toNat : Int), .string ej.v, .int .i64 ej.n, .slice so sn sc] 207)
      have HbL : Hid (Below w.heap.size w (wr.alloc (.cells #[.string ej.p, .int .u8 (ej.a.toNat : Int), .string ej.v, .int .i64 ej.n, .slice so sn sc] 207))) := hbw
      clear hbw c0 c1 c2 c3 c4 hca
      have hpsz := hok.p
      have hvsz := hok.v
      have hn1 := hok.n1
      have hn2 := hok.n2
      have hb1' := HI.out.b1
      have hb2' := HI.out.b2
      cases q3 : (ej.p.toList == path.toList)
      · cases q1 : ((kd.toNat : Int) == 109)
        · have Hst : Hid (tfold es kd (toL path) (al.take (k + 1)) = tfold es kd (toL path) (al.take k)) := by
            unfold Hid; rw [hstep.out]; unfold tstep; rw [q1, if_neg (by simp), if_neg (by rw [toList_eq, toList_eq] at q3; rw [show (toL ej.p == toL path) = false from q3]; simp)]
          generalize Thk.begins ej.p.data.toList path.data.toList = bg
          go_wp2
          go_roundw
          case rel => exact ⟨k + 1, sm, x, by omega, by go_num, rfl, rfl, HI.out.next Hst.out HbL.out (Below.refl _ _ |>.alloc (Nat.le_refl _) _)⟩
          case measure => simp [intOf]; omega
        · cases q2 : Thk.begins ej.p.data.toList path.data.toList
          · have Hst : Hid (tfold es kd (toL path) (al.take (k + 1)) = tfold es kd (toL path) (al.take k)) := by
              unfold Hid; rw [hstep.out]; unfold tstep; rw [q1, show Thk.begins (toL ej.p) (toL path) = false from q2, if_neg (by simp), if_neg (by rw [toList_eq, toList_eq] at q3; rw [show (toL ej.p == toL path) = false from q3]; simp)]
            go_wp2
            go_roundw
            case rel => exact ⟨k + 1, sm, x, by omega, by go_num, rfl, rfl, HI.out.next Hst.out HbL.out (Below.refl _ _ |>.alloc (Nat.le_refl _) _)⟩
            case measure => simp [intOf]; omega
          · have hlt2 : path.size < ej.p.size := by
              rw [toList_eq, toList_eq] at q3
              unfold Thk.begins at q2; rw [q3] at q2
              simp only [Bool.false_or, Bool.and_eq_true, decide_eq_true_eq] at q2
              have := q2.1.1; simpa using this
            have Hst : Hid (tfold es kd (toL path) (al.take (k + 1)) = ⟨withL (tfold es kd (toL path) (al.take k)).l ((Thk.split 47 ((toL ej.p).drop (path.size + 1))).headD []), (tfold es kd (toL path) (al.take k)).sum, (tfold es kd (toL path) (al.take k)).some⟩) := by
              unfold Hid; rw [hstep.out]; unfold tstep; rw [q1, show Thk.begins (toL ej.p) (toL path) = true from q2, if_pos (by rw [toList_eq, toList_eq] at q3; rw [show (toL ej.p == toL path) = false from q3]; (first | done | rfl)), toL_length]
            obtain ⟨ss, hs1, hs2, hs3, hs4⟩ := HI.out.own
            have Hs1 : Hid (SliceIn wr.heap.size wr u7 (strs ss)) := hs1
            have Hs2 : Hid (_) := hs2
            have Hs4 : Hid (_) := hs4
            clear hs1 hs2 hs4 hstep hok
            have Hwr : Hid (Below wr.heap.size wr (wr.alloc (.cells #[.string ej.p, .int .u8 (ej.a.toNat : Int), .string ej.v, .int .i64 ej.n, .slice so sn sc] 207))) := (Below.refl _ _).alloc (Nat.le_refl _) _
            go_wp2_with fail
            refine (split_any _ 47 _ (by simp [ByteArray.size_extract]; omega)).mono ?_
            rintro e w3 ⟨v3, ps, rfl, hown3, hps3, hpl3, hpz3, hb3⟩
            have Hb4 : Hid (Below wr.heap.size wr w3) := Hwr.out.trans (hb3.mono (by simp))
            have Hps3 : Hid (_) := hps3
            have hne : ps ≠ [] := by
              intro h; rw [h] at hps3; exact Thk.split_ne_nil _ _ hps3.symm
            have hpos : 0 < ps.length := List.length_pos_iff.2 hne
            have hzz : Hid (∀ p ∈ ps, p.size ≤ 1000) := fun p hp => by have := hpz3 p hp; simp [ByteArray.size_extract] at this; omega
            rcases own_cells hown3 with ⟨rfl, h2, h3⟩ | ⟨g, cp, rfl, hcp, hcm, hg, hgs, hxl, hcells⟩
            · omega
            · have hc0 := hcells 0 (by simpa [strs] using hpos)
              have he0 : (strs ps)[0]'(by simpa [strs] using hpos) = .string (ps[0]'hpos) := by simp [strs]
              rw [he0] at hc0
              have hq0 := hzz.out _ (List.getElem_mem hpos)
              have Hh : Hid ((Thk.split 47 ((toL ej.p).drop (path.size + 1))).headD [] = toL (ps[0]'hpos)) := by
                have e1 : toL (ej.p.extract (path.size + 1) ej.p.size) = (toL ej.p).drop (path.size + 1) := by rw [toL_extract, ← toL_length ej.p, List.take_length]
                unfold Hid; rw [← e1, ← Hps3.out]
                cases ps with
                | nil => exact absurd rfl hne
                | cons a r => rfl
              generalize ps[0]'hpos = q0 at *
              clear hcells he0 hown3 hps3 hpz3 hne hxl hb3
              go_wp2_with fail
              refine (with_any wr.heap.size _ ss q0 _ (by omega) (Hs1.out.below Hb4.out) Hb4.out.size).mono ?_
              rintro e w5 ⟨v5, ss5, rfl, hown5, hm5, hmem5, hl5, hb5⟩
              have hB5 : Below w.heap.size w w5 := (HI.out.below.trans (Hb4.out.mono HI.out.below.size)).trans (hb5.mono (Nat.le_trans HI.out.below.size Hb4.out.size))
              go_wp2
              go_roundw
              case rel =>
                refine ⟨k + 1, sm, x, by omega, by go_num, rfl, rfl, hB5, ⟨ss5, own_slice hown5, ?_, by omega, ?_⟩, ?_, by omega, by omega, ?_⟩
                · rw [Hst.out, hm5, Hs2.out, Hh.out]
                · intro s hs
                  rcases hmem5 s hs with h | h
                  · exact Hs4.out s h
                  · rw [h]; exact hq0
                · rw [Hst.out]; exact HI.out.hsum
                · rw [Hst.out]; exact HI.out.hsome
              case measure => simp [intOf]; omega
      · have hne3 : ((kd.toNat : Int) == 109 && Thk.begins ej.p.data.toList path.data.toList && !(ej.p.toList == path.toList)) = false := by rw [q3]; simp
        have Hst : Hid (tfold es kd (toL path) (al.take (k + 1)) = ⟨withL (tfold es kd (toL path) (al.take k)).l (toL ej.v), (tfold es kd (toL path) (al.take k)).sum + ej.n, true⟩) := by
          rw [toList_eq, toList_eq] at q3
          unfold Hid; rw [hstep.out]; unfold tstep; rw [show (toL ej.p == toL path) = true from q3, if_neg (by simp), if_pos rfl]
        obtain ⟨ss, hs1, hs2, hs3, hs4⟩ := HI.out.own
        have Hs1 : Hid (SliceIn wr.heap.size wr u7 (strs ss)) := hs1
        have Hs2 : Hid (_) := hs2
        have Hs4 : Hid (_) := hs4
        clear hs1 hs2 hs4 hstep hok hne3
        have Hwr : Hid (Below wr.heap.size wr (wr.alloc (.cells #[.string ej.p, .int .u8 (ej.a.toNat : Int), .string ej.v, .int .i64 ej.n, .slice so sn sc] 207))) := (Below.refl _ _).alloc (Nat.le_refl _) _
        generalize Thk.begins ej.p.data.toList path.data.toList = bg
        cases bg <;> cases q1 : ((kd.toNat : Int) == 109)
        all_goals
          go_wp2_with fail
          refine (with_any wr.heap.size _ ss ej.v _ (by omega) (Hs1.out.below Hwr.out) Hwr.out.size).mono ?_
          rintro e w5 ⟨v5, ss5, rfl, hown5, hm5, hmem5, hl5, hb5⟩
          have hB5 : Below w.heap.size w w5 := HbL.out.trans (hb5.mono (Nat.le_trans HI.out.below.size Hwr.out.size))
          have hI5 : TInv w.heap.size w es kd (toL path) al (k + 1) v5 (sm + ej.n) true w5 := by
            refine ⟨hB5, ⟨ss5, own_slice hown5, ?_, by omega, ?_⟩, ?_, by omega, by omega, ?_⟩
            · rw [Hst.out, hm5, Hs2.out]
            · intro s hs
              rcases hmem5 s hs with h | h
              · exact Hs4.out s h
              · rw [h]; omega
            · rw [Hst.out, HI.out.hsum]
            · rw [Hst.out]
          have HI5 : Hid (_) := hI5
          clear hown5 hm5 hmem5 hb5 hI5 hB5
          go_wp2
          go_roundw
          case rel => first | exact ⟨k + 1, sm + ej.n, true, by omega, by go_num, rfl, rfl, HI5.out⟩ | ((repeat apply Exists.intro); exact ⟨⟨k + 1, sm + ej.n, true, by omega, by go_num, rfl, rfl, HI5.out⟩, rfl⟩)
          case measure => simp [intOf]; omega
    · have hke : k = al.length := by omega
      subst hke
      have Hst : Hid ((tfold es kd (toL path) (al.take al.length)) = tfold es kd (toL path) al) := by unfold Hid; rw [List.take_length]
      by_cases h102 : (kd.toNat : Int) = 102
      · have hd : ((kd.toNat : Int) == 102) = true := by rw [h102]; (first | done | rfl)
        cases x
        all_goals
          go_wp2
          go_ret
          refine ⟨_, rfl, ?_, HI.out.below⟩
          rw [hTell.out]; unfold tellB; rw [if_pos h102, ← Hst.out, ← HI.out.hsome]; (first | done | rfl)
      · have hd : ((kd.toNat : Int) == 102) = false := by simpa using h102
        by_cases h99 : (kd.toNat : Int) = 99
        · have hd2 : ((kd.toNat : Int) == 99) = true := by rw [h99]; (first | done | rfl)
          go_wp2_with fail
          refine (digits_any sm _ (by have := HI.out.b1; have := HI.out.b2; omega)).mono ?_
          rintro e w3 ⟨t, rfl, ht, hts, hb3⟩
          go_wp2
          go_ret
          refine ⟨t, rfl, ?_, HI.out.below.trans (hb3.mono HI.out.below.size)⟩
          rw [hTell.out, ht]; unfold tellB; rw [if_neg h102, if_pos h99, ← Hst.out, ← HI.out.hsum]
        · have hd2 : ((kd.toNat : Int) == 99) = false := by simpa using h99
          obtain ⟨ss, hs1, hs2, hs3, hs4⟩ := HI.out.own
          have Hs1 : Hid (SliceIn wr.heap.size wr u7 (strs ss)) := hs1
          have Hs2 : Hid (_) := hs2
          have Hs4 : Hid (_) := hs4
          clear hs1 hs2 hs4
          go_wp2_with fail
          refine (joined_any _ _ ss _ (by omega) Hs4.out Hs1.out).mono ?_
          rintro e w3 ⟨t, rfl, ht, hts, rfl⟩
          go_wp2
          go_ret
          refine ⟨t, rfl, ?_, HI.out.below⟩
          rw [hTell.out, ht]; unfold tellB; rw [if_neg h102, if_neg h99, ← Hst.out, ← Hs2.out]; simp

end Go.Proofs.YtoiiaankpnhppaaGreatDoor

