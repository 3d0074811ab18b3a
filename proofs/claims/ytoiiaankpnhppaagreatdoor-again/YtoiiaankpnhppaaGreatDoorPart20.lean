import Derived.Deep.DeepCutAuto
import Derived.Test.YtoiiaankpnhppaaGreatDoorPart04
import Derived.Test.YtoiiaankpnhppaaGreatDoorPart19
set_option linter.unusedVariables false
set_option linter.unusedSimpArgs false
namespace Go.Proofs.YtoiiaankpnhppaaGreatDoor
open Go.RowKit Go.Maps Go.WideMaps

def okR (r : Nat × Nat) : Prop := (who r.1 ≤ 5 ∧ 1 ≤ nth r.1 ∧ nth r.1 ≤ 500) ∧ 1 ≤ r.2 ∧ r.2 ≤ 500 ∧ nth r.1 + r.2 ≤ 502
structure RS (w : World) (rb : Nat) (rs : List (Nat × Nat)) (rest : Thk.Bs) (i : Nat) (v3 : Value) (wx : World) : Prop where
  rd : ∃ s, RdP wx rb s ∧ toL s = (rs.drop i).flatMap encR ++ rest ∧ s.size ≤ 1000000000
  row : wx.ownsRow w.heap.size 121 2 v3 (flatR (rs.take i)).length (dcells (flatR (rs.take i)))
  chg : Chg (fun k => k = rb) w wx
theorem rd_len {w : World} {rb : Nat} {s s' : ByteArray} {a b : Thk.Bs} (h : toL s = a ++ b) (h' : toL s' = b) (hs : s.size ≤ 1000000000) : s'.size ≤ 1000000000 := by
  have e1 : s'.size = (toL s').length := by simp [toL]
  have e2 : s.size = (toL s).length := by simp [toL]
  rw [h'] at e1
  rw [h, List.length_append] at e2
  omega

theorem drop_enc (rs : List (Nat × Nat)) (rest : Thk.Bs) (i : Nat) (hi : i < rs.length) : (rs.drop i).flatMap encR ++ rest = encD rs[i].1 ++ (encN rs[i].2 ++ ((rs.drop (i + 1)).flatMap encR ++ rest)) := by
  rw [List.drop_eq_getElem_cons hi, List.flatMap_cons]
  unfold encR
  simp only [List.append_assoc]
theorem flat_take (rs : List (Nat × Nat)) (i : Nat) (hi : i < rs.length) : flatR (rs.take (i + 1)) = flatR (rs.take i) ++ runD rs[i] := by
  rw [List.take_succ_eq_append_getElem hi, flatR_snoc]

def itsC (its : List (Nat × Thk.Bs)) (j : Nat) : Nat → Option Value := fun d => ((its.take j).reverse.find? (fun x => x.1 == d)).bind (fun x => match Thk.read x.2 with | .inr c => some (chV c) | .inl _ => none)

theorem itsC_succ (its : List (Nat × Thk.Bs)) (j : Nat) (hj : j < its.length) (c : Thk.Ch) (hc : Thk.read its[j].2 = .inr c) : itsC its (j + 1) = fun d => if d = its[j].1 then some (chV c) else itsC its j d := by
  funext d
  unfold itsC
  rw [List.take_succ_eq_append_getElem hj, List.reverse_append, List.reverse_singleton, List.singleton_append, List.find?_cons]
  by_cases e : d = its[j].1
  · subst e
    simp [hc]
  · have e2 : (its[j].1 == d) = false := by simpa using fun h => e h.symm
    rw [e2, if_neg e]
theorem itsC_ok {its : List (Nat × Thk.Bs)} {P : Nat → Prop} (h : ∀ x ∈ its, P x.1) (j d : Nat) (hd : itsC its j d ≠ none) : P d := by
  unfold itsC at hd
  cases hf : (its.take j).reverse.find? (fun x => x.1 == d) with
  | none => rw [hf] at hd; exact absurd rfl hd
  | some x =>
    have h1 := List.find?_some hf
    have h2 := List.mem_of_find?_eq_some hf
    have h3 : x.1 = d := by simpa using h1
    rw [← h3]
    exact h x (List.mem_of_mem_take (List.mem_reverse.1 h2))
theorem itsC_item {its : List (Nat × Thk.Bs)} {j d : Nat} {v : Value} (hd : itsC its j d = some v) : ItemV v := by
  unfold itsC at hd
  cases hf : (its.take j).reverse.find? (fun x => x.1 == d) with
  | none => rw [hf] at hd; cases hd
  | some x =>
    rw [hf] at hd
    simp only [Option.bind_some] at hd
    split at hd
    · cases hd; exact ⟨_, _, _, _, rfl⟩
    · cases hd
theorem drop_encI (its : List (Nat × Thk.Bs)) (r : Thk.Bs) (j : Nat) (hj : j < its.length) : (its.drop j).flatMap encI ++ r = encD its[j].1 ++ (encN its[j].2.length ++ its[j].2 ++ ((its.drop (j + 1)).flatMap encI ++ r)) := by
  rw [List.drop_eq_getElem_cons hj, List.flatMap_cons]
  unfold encI
  simp only [List.append_assoc]
theorem own_sliceD {w : World} {base : Nat} {v : Value} {ns : List Nat} (h : w.ownsRow base 121 2 v ns.length (dcells ns)) : SliceD w v ns := by
  have hlt := h.lt
  have hcl := fun g (hg : v.ownBlock = some g) => h.cells hg
  rcases h.2 with ⟨h1, h2⟩ | ⟨g, cap, cur, h1, _, _, h4, _⟩
  · exact Or.inl ⟨h1, List.eq_nil_of_length_eq_zero h2⟩
  · subst h1
    refine Or.inr ⟨g, 0, cap, rfl, h4, (hlt g rfl).2, fun j hj => ?_⟩
    have hg := dcells_get ns j hj
    have a1 := hcl g rfl _ _ hg.1
    have a2 := hcl g rfl _ _ hg.2
    rw [addr0] at a1 a2
    rw [Nat.zero_add]
    exact ⟨a1, a2⟩
structure RT (w : World) (rb : Nat) (its : List (Nat × Thk.Bs)) (u3 : Value) (fl : List Nat) (mb j : Nat) (wx : World) : Prop where
  row : wx.ownsRow w.heap.size 121 2 u3 fl.length (dcells fl)
  mp : ∃ N, MapV Tryz.prog 121 wx mb N (im (itsC its j))
  kr : Blk wx w.heap.size #[.map none, .map none, .map none] 106
  chg : Chg (fun k => k = rb) w wx
  new : w.heap.size < mb
  rbw : rb < w.heap.size
theorem RT.to {w : World} {rb : Nat} {its : List (Nat × Thk.Bs)} {u3 : Value} {fl : List Nat} {mb j : Nat} {wx wy : World} (h : RT w rb its u3 fl mb j wx) (hc : Chg (fun k => k = rb) wx wy) : RT w rb its u3 fl mb j wy := by
  have h1 := h.new
  have h2 := h.rbw
  obtain ⟨N, hN⟩ := h.mp
  exact ⟨ownsRow_chg h.row hc (fun g hg e => by have := (h.row.lt g hg).1; omega), ⟨N, hN.block (hc.block _ hN.lt (by omega))⟩, h.kr.chg hc (by omega), h.chg.trans hc, h1, h2⟩
theorem RT.put {w : World} {rb : Nat} {its : List (Nat × Thk.Bs)} {u3 : Value} {fl : List Nat} {mb j N : Nat} {wx wy : World} (h : RT w rb its u3 fl mb j wx) (hj : j < its.length) (c : Thk.Ch) (hc : Thk.read its[j].2 = .inr c) (hg : wx.grownBy wy (some mb)) (hm : MapV Tryz.prog 121 wy mb N (upd (im (itsC its j)) (dotE its[j].1) (chV c))) : RT w rb its u3 fl mb (j + 1) wy := by
  have h1 := h.new
  have h2 := h.rbw
  obtain ⟨N0, hN0⟩ := h.mp
  have hch : Chg (fun k => k = mb) wx wy := (Chg.refl _ wx).grown hg (fun k e => by cases e; exact Or.inl rfl)
  have hne : ∀ g, u3.ownBlock = some g → g ≠ mb := fun g hgu e => by
    rw [e] at hgu
    exact ownsRow_ne h.row (fun cur fz hh => hN0.noTag hh) hgu
  refine ⟨ownsRow_chg h.row hch hne, ⟨N, by rw [itsC_succ its j hj c hc, ← im_upd]; exact hm⟩, h.kr.chg hch (by omega), ?_, h1, h2⟩
  have h0 := h.chg
  exact ⟨hch.os.trans h0.os, hch.tape.trans h0.tape, hch.output.trans h0.output, Nat.le_trans h0.size hch.size, fun k hk hm => (hch.block k (Nat.lt_of_lt_of_le hk h0.size) (by omega)).trans (h0.block k hk hm)⟩

set_option maxHeartbeats 8000000 in
set_option maxRecDepth 100000 in
theorem rStore_any (w : World) (hG : Glob w) (rb : Nat) (hrb : 3 < rb) (s : ByteArray) (rs : List (Nat × Nat)) (its : List (Nat × Thk.Bs)) (r : Thk.Bs) (h : RdP w rb s) (hs : toL s = encS rs its ++ r) (hsz : s.size ≤ 1000000000)
    (hrs : rs.length ≤ 500) (hro : ∀ x ∈ rs, okR x) (his : its.length ≤ 500) (hio : ∀ x ∈ its, (who x.1 ≤ 5 ∧ 1 ≤ nth x.1 ∧ nth x.1 ≤ 500) ∧ x.2.length < 16384 ∧ ∃ c, Thk.read x.2 = .inr c ∧ effB c.act = true) :
    Calls Tryz.prog 136 #[.pointer (some ⟨rb, 0, none⟩)] w fun e w' => ∃ ib cb lb s', e = .returned (.agg #[.map (some ib), .map (some cb), .map (some lb)]) ∧ StoreS w' ib cb lb (fun d => itsC its its.length d ≠ none ∨ d ∈ flatR rs) (itsC its its.length) ∧ RdP w' rb s' ∧ toL s' = r ∧ (w.heap.size ≤ ib ∧ w.heap.size ≤ cb ∧ w.heap.size ≤ lb) ∧ Chg (fun k => k = rb) w w' := by
  have hmm := @run_makeMap Tryz.prog
  obtain ⟨i0, hi, hz0, hz1, hz2⟩ := info_parts Tryz.infoDot
  have hlt := h.lt
  have Hro : Hid (∀ x ∈ rs, okR x) := hro
  have Hio : Hid (∀ x ∈ its, (who x.1 ≤ 5 ∧ 1 ≤ nth x.1 ∧ nth x.1 ≤ 500) ∧ x.2.length < 16384 ∧ ∃ c, Thk.read x.2 = .inr c ∧ effB c.act = true) := hio
  have HGl : Hid (Glob w) := hG
  obtain ⟨rest, hrest⟩ : ∃ rest, rest = encN its.length ++ (its.flatMap encI ++ r) := ⟨_, rfl⟩
  have hs2 : toL s = encN rs.length ++ (rs.flatMap encR ++ rest) := by rw [hs, hrest]; unfold encS; simp only [List.append_assoc]
  have Hrest : Hid (rest = encN its.length ++ (its.flatMap encI ++ r)) := hrest
  have hflat : ∀ i, i ≤ rs.length → (flatR (rs.take i)).length ≤ i * 500 := by
    intro i
    induction i with
    | zero => intro _; simp [flatR]
    | succ i ih =>
      intro h
      rw [flat_take rs i (by omega), List.length_append, len_runD]
      have := ih (by omega)
      have h2 := (hro rs[i] (List.getElem_mem (by omega))).2.2.1
      omega
  have Hflat : Hid (∀ i, i ≤ rs.length → (flatR (rs.take i)).length ≤ i * 500) := hflat
  have HN : Hid (∀ ob, Calls Tryz.prog 135 #[.pointer (some ⟨rb, 0, none⟩), .int .i64 0, .int .i64 500] (w.alloc ob) fun e w' => e = .returned (.int .i64 (rs.length : Int)) ∧ RS w rb rs rest 0 (.slice none 0 0) w' ∧ Chg (fun k => k = rb) (w.alloc ob) w') := fun ob => by
    refine Calls.mono (rNumber_any (w.alloc ob) rb s rs.length 0 500 (rs.flatMap encR ++ rest) (h.alloc ob) hs2 (by omega) (by omega) (by omega) (by omega) hsz) ?_
    rintro e w' ⟨s', rfl, h1, h2, h3⟩
    have hc : Chg (fun k => k = rb) w w' := (Chg.of_below ((Below.refl _ w).alloc (Nat.le_refl _) ob) : Chg (fun k => k = rb) w _).trans h3
    exact ⟨rfl, ⟨⟨s', h1, h2, rd_len (w := w) (rb := rb) hs2 h2 hsz⟩, World.ownsRow_nil _ _ _ _, hc⟩, h3⟩
  clear h hs hs2 hrest hro hio hG hflat
  go_enter Tryz.func136, Tryz.ntmps136
  go_wp2_with fail
  refine Calls.mono (HN.out _) ?_
  rintro e w1 ⟨rfl, hRS1, hch1⟩
  have kr1 : Blk w1 w.heap.size #[.map none, .map none, .map none] 106 := (Blk.new w _ _).chg hch1 (by omega)
  have HR1 : Hid (RS w rb rs rest 0 (.slice none 0 0) w1 ∧ Blk w1 w.heap.size #[.map none, .map none, .map none] 106) := ⟨hRS1, kr1⟩
  clear HN hRS1 hch1 kr1
  go_wp2_with fail
  go_loopg [3, 9] rs.length (fun g v3 v9 wx => ∃ i : Nat, i + g = rs.length ∧ v9 = .int .i64 (i : Int) ∧ RS w rb rs rest i v3 wx ∧ Blk wx w.heap.size #[.map none, .map none, .map none] 106)
  case atStart => exact ⟨0, by omega, rfl, HR1.out.1, HR1.out.2⟩
  case round =>
    obtain ⟨i, hig, rfl, hR, hkr⟩ := hrel
    have HR : Hid (RS w rb rs rest i u3 wr ∧ Blk wr w.heap.size #[.map none, .map none, .map none] 106) := ⟨hR, hkr⟩
    clear HR1 hkr
    by_cases him : i < rs.length
    · have hok := Hro.out _ (List.getElem_mem him)
      obtain ⟨sr, hsr, hsl, hss⟩ := hR.rd
      rw [drop_enc rs rest i him] at hsl
      have HE : Hid (flatR (rs.take (i + 1)) = flatR (rs.take i) ++ runD rs[i]) := flat_take rs i him
      have hfl := Hflat.out i (by omega)
      obtain ⟨x, hx⟩ : ∃ x, rs[i] = x := ⟨_, rfl⟩
      rw [hx] at hok hsl HE
      obtain ⟨d, m⟩ := x
      simp only at hsl
      obtain ⟨hd5, hm1, hm5, hm502⟩ := hok
      simp only at hd5 hm1 hm5 hm502
      obtain ⟨tl, htl⟩ : ∃ tl, tl = (rs.drop (i + 1)).flatMap encR ++ rest := ⟨_, rfl⟩
      have Htl : Hid (tl = (rs.drop (i + 1)).flatMap encR ++ rest) := htl
      rw [← htl] at hsl
      have Hdot : Hid (_) := rdot_any wr rb sr d (encN m ++ tl) hsr hsl hd5 hss
      have HN2 : Hid (∀ w2 s2 ob, RdP w2 rb s2 → toL s2 = encN m ++ tl → Calls Tryz.prog 135 #[.pointer (some ⟨rb, 0, none⟩), .int .i64 1, .int .i64 500] (w2.alloc ob) fun e w' => ∃ s', e = .returned (.int .i64 (m : Int)) ∧ (RdP w' rb s' ∧ toL s' = tl ∧ s'.size ≤ 1000000000) ∧ Chg (fun k => k = rb) (w2.alloc ob) w') := fun w2 s2 ob h2 hs2 => by
        have hz2 := rd_len (w := w) (rb := rb) hsl hs2 hss
        refine Calls.mono (rNumber_any (w2.alloc ob) rb s2 m 1 500 tl (h2.alloc ob) hs2 (by omega) (by omega) (by omega) (by omega) hz2) ?_
        rintro e w' ⟨s', rfl, h1, h2, h3⟩
        exact ⟨s', rfl, ⟨h1, h2, rd_len (w := w) (rb := rb) hs2 h2 hz2⟩, h3⟩
      clear hsr hsl hss hR hx htl
      go_wp2_with fail
      refine Calls.mono Hdot.out ?_
      rintro e w2 ⟨s2, rfl, hk2, hs2, hch2⟩
      have hl2 := hk2.lt
      have HB2 : Hid (Chg (fun k => k = rb) wr w2) := hch2
      have HN3 : Hid (_) := fun ob => HN2.out w2 s2 ob hk2 hs2
      clear Hdot HN2 hk2 hs2 hch2
      go_wp2_with fail
      refine Calls.mono (HN3.out _) ?_
      rintro e w3 ⟨s3, rfl, hR3, hch3⟩
      have kx3 : Blk w3 w2.heap.size #[.int .i64 (who d : Int), .int .i64 (nth d : Int), .int .i64 0] 249 := (Blk.new w2 _ _).chg hch3 (by omega)
      have HC3 : Hid (Chg (fun k => k = rb) wr w3) := HB2.out.trans ((Chg.of_below ((Below.refl _ w2).alloc (Nat.le_refl _) _) : Chg (fun k => k = rb) w2 _).trans hch3)
      have hb2 : rb < w2.heap.size := hl2
      have hwr2 : wr.heap.size ≤ w2.heap.size := HB2.out.size
      have x0 := (kx3.cell 0).trans rfl
      have x1 := (kx3.cell 1).trans rfl
      have x2 := (kx3.cell 2).trans rfl
      have fx := kx3.frozen
      have HR3 : Hid (RdP w3 rb s3 ∧ toL s3 = tl ∧ s3.size ≤ 1000000000) := hR3
      have Hd : Hid (∀ wx, Calls Tryz.prog 183 #[.agg #[.int .i64 (who d : Int), .int .i64 (nth d : Int), .int .i64 (m : Int)]] wx fun e w' => ∃ v, e = .returned v ∧ w'.ownsRow wx.heap.size 121 2 v m (dcells (runD (d, m))) ∧ Below wx.heap.size wx w') := fun wx => Dots_any wx d m (by omega)
      have hw23 : w2.heap.size < w3.heap.size := kx3.lt
      clear HN3 hR3 hch3 kx3 HB2
      go_wp2_with fail
      refine Calls.mono (Hd.out _) ?_
      rintro e w5 ⟨v5, rfl, ho5, hb5⟩
      have hc34 : Chg (fun k => k = w2.heap.size) w3 (w3.setCell ⟨w2.heap.size, 2, none⟩ (.int .i64 (m : Int))) := (Chg.refl (fun k => k = w2.heap.size) w3).setCell (p := ⟨w2.heap.size, 2, none⟩) rfl _
      have hsz4 : (w3.setCell ⟨w2.heap.size, 2, none⟩ (.int .i64 (m : Int))).heap.size = w3.heap.size := by simp
      have hc35 : Chg (fun k => k = w2.heap.size) w3 w5 := hc34.trans (Chg.of_below hb5)
      have hc5 : Chg (fun k => k = rb) wr w5 := by
        have h0 := HC3.out
        exact ⟨hc35.os.trans h0.os, hc35.tape.trans h0.tape, hc35.output.trans h0.output, Nat.le_trans h0.size hc35.size, fun k hk hm => (hc35.block k (Nat.lt_of_lt_of_le hk h0.size) (by omega)).trans (h0.block k hk hm)⟩
      have hg0 : ∀ g, u3.ownBlock = some g → w.heap.size ≤ g := fun g hg => (HR.out.1.row.lt g hg).1
      have hO5 : w5.ownsRow w.heap.size 121 2 u3 (flatR (rs.take i)).length (dcells (flatR (rs.take i))) := ownsRow_chg HR.out.1.row hc5 (fun g hg e => by have := hg0 g hg; omega)
      have hk5 : RdP w5 rb s3 := Blk.chg HR3.out.1 hc35 (by omega)
      have hkr5 := HR.out.2.chg hc5 (by omega)
      obtain ⟨g5, cap5, hv5⟩ := own_some ho5 (by omega)
      subst hv5
      have Hc5 : Hid (∀ j u, (dcells (runD (d, m)))[j]? = some u → w5.cell? ((⟨g5, 0, none⟩ : Addr).add j) = some u) := ho5.cells (g := g5) rfl
      have HO5 : Hid (w5.ownsRow w.heap.size 121 2 u3 (flatR (rs.take i)).length (dcells (flatR (rs.take i)))) := hO5
      have HX5 : Hid (RdP w5 rb s3 ∧ Blk w5 w.heap.size #[.map none, .map none, .map none] 106 ∧ Chg (fun k => k = rb) w w5) := ⟨hk5, hkr5, HR.out.1.chg.trans hc5⟩
      have hbw : w.heap.size ≤ w5.heap.size := Nat.le_trans HR.out.1.chg.size hc5.size
      have h63 : (flatR (rs.take i)).length + m ≤ maxLen := by unfold maxLen; omega
      have h64 : ((flatR (rs.take i)).length + m) * 16 ≤ 140737488355328 := by omega
      have hnl : (dcells (runD (d, m))).length = m * 2 := by rw [dcells_len, len_runD]
      clear hc34 hsz4 hc35 hc5 hO5 hk5 hkr5 ho5 hb5 Hd HC3 x0 x1 x2 fx hfl
      generalize hfn : (flatR (rs.take i)).length = fn at *
      go_wp2_with (first | (at_builtin; refine wpList_append_own_at _ rfl (.tmp 17) (.tmp 19) 124 rfl w.heap.size 121 i0 (.agg #[.int .i64 0, .int .i64 0]) 2 16 Tryz.underlying124 hi hz0 hz1 hz2 rfl (by decide) _ _ _ rfl HO5.out ⟨g5, 0, none⟩ m cap5 (dcells (runD (d, m))) rfl hnl Hc5.out (dcells_one _) h63 h64 hbw ?_; intro v6 w6 ho6 hg6 hn6 hl6))
      have hch6 : Chg (fun k => u3.ownBlock = some k) w5 w6 := (Chg.refl _ w5).grown hg6 (fun k e => Or.inl e)
      go_roundg (rs.length - (i + 1))
      case measure => omega
      case rel =>
        refine ⟨i + 1, by omega, by go_num, ⟨⟨s3, Blk.chg HX5.out.1 hch6 (fun e => by have := hg0 _ e; omega), by rw [← Htl.out]; exact HR3.out.2.1, HR3.out.2.2⟩, ?_, ?_⟩, ?_⟩
        · rw [HE.out, dcells_app, List.length_append, len_runD, hfn]
          exact ho6
        · have h0 := HX5.out.2.2
          exact ⟨hch6.os.trans h0.os, hch6.tape.trans h0.tape, hch6.output.trans h0.output, Nat.le_trans h0.size hch6.size, fun k hk hm => (hch6.block k (Nat.lt_of_lt_of_le hk h0.size) (fun e => by have := hg0 _ e; omega)).trans (h0.block k hk hm)⟩
        · exact HX5.out.2.1.chg hch6 (fun e => ownsRow_ne HO5.out (fun cur fz hh => by rw [show w5.heap[w.heap.size]? = _ from HX5.out.2.1] at hh; cases hh) e)
    · have e : i = rs.length := by omega
      subst e
      obtain ⟨sr, hsr, hsl, hss⟩ := hR.rd
      rw [List.drop_length, List.flatMap_nil, List.nil_append, Hrest.out] at hsl
      have hrow := HR.out.1.row
      rw [List.take_length] at hrow
      have HN : Hid (∀ ob, Calls Tryz.prog 135 #[.pointer (some ⟨rb, 0, none⟩), .int .i64 0, .int .i64 500] (wr.alloc ob) fun e w' => ∃ s', e = .returned (.int .i64 (its.length : Int)) ∧ (RdP w' rb s' ∧ toL s' = (its.drop 0).flatMap encI ++ r ∧ s'.size ≤ 1000000000) ∧ Chg (fun k => k = rb) (wr.alloc ob) w') := fun ob => by
        refine Calls.mono (rNumber_any (wr.alloc ob) rb sr its.length 0 500 (its.flatMap encI ++ r) (hsr.alloc ob) hsl (by omega) (by omega) (by omega) (by omega) hss) ?_
        rintro e w' ⟨s', rfl, h1, h2, h3⟩
        exact ⟨s', rfl, ⟨h1, h2, rd_len (w := w) (rb := rb) hsl h2 hss⟩, h3⟩
      have hwr : w.heap.size < wr.heap.size := HR.out.2.lt
      have hmade := MapV.made wr Tryz.prog 121
      have HT0 : Hid (RT w rb its u3 (flatR rs) wr.heap.size 0 (wr.alloc (.map #[] 0))) := by
        have hb : Below wr.heap.size wr (wr.alloc (.map #[] 0)) := (Below.refl _ wr).alloc (Nat.le_refl _) _
        refine ⟨own_below hrow hb, ⟨0, ?_⟩, HR.out.2.below hb, HR.out.1.chg.below hb, hwr, hlt⟩
        have e0 : itsC its 0 = fun _ => none := by funext d; unfold itsC; simp
        rw [e0, im_none]
        exact hmade
      clear hR hsr hsl hss hmade hrow
      go_wp2_with fail
      refine Calls.mono (HN.out _) ?_
      rintro e w2 ⟨s2, rfl, hR2, hch2⟩
      have HT2 : Hid (RT w rb its u3 (flatR rs) wr.heap.size 0 w2 ∧ ∃ s, RdP w2 rb s ∧ toL s = (its.drop 0).flatMap encI ++ r ∧ s.size ≤ 1000000000) := ⟨HT0.out.to hch2, s2, hR2⟩
      clear HN hR2 hch2 HT0 HR
      go_wp2_with fail
      generalize wr.heap.size = mb at *
      go_loopg [25] its.length (fun g v25 wx => ∃ j : Nat, j + g = its.length ∧ v25 = .int .i64 (j : Int) ∧ RT w rb its u3 (flatR rs) mb j wx ∧ ∃ s, RdP wx rb s ∧ toL s = (its.drop j).flatMap encI ++ r ∧ s.size ≤ 1000000000)
      case atStart => exact ⟨0, by omega, rfl, HT2.out.1, HT2.out.2⟩
      case round =>
        obtain ⟨j, hjg, rfl, hT, sr, hsr, hsl, hss⟩ := hrel
        have HT : Hid (RT w rb its u3 (flatR rs) mb j wr) := hT
        clear HT2
        by_cases hj : j < its.length
        · obtain ⟨hd5, ht, c, hc, he⟩ := Hio.out _ (List.getElem_mem hj)
          rw [drop_encI its r j hj] at hsl
          obtain ⟨N0, hN0⟩ := hT.mp
          have hNb : N0 ≤ 3072 := items_bound hN0 (fun d hd => itsC_ok (P := okD) (fun x hx => ⟨(Hio.out x hx).1.1, (Hio.out x hx).1.2.1, by have := (Hio.out x hx).1.2.2; omega⟩) j d hd)
          have HNb : Hid (∀ wx N, MapV Tryz.prog 121 wx mb N (im (itsC its j)) → N < maxLen) := fun wx N hN => by
            have := items_bound hN (fun d hd => itsC_ok (P := okD) (fun x hx => ⟨(Hio.out x hx).1.1, (Hio.out x hx).1.2.1, by have := (Hio.out x hx).1.2.2; omega⟩) j d hd)
            unfold maxLen; omega
          have HP : Hid (∀ wx wy N, RT w rb its u3 (flatR rs) mb j wx → wx.grownBy wy (some mb) → MapV Tryz.prog 121 wy mb N (upd (im (itsC its j)) (dotE its[j].1) (chV c)) → RT w rb its u3 (flatR rs) mb (j + 1) wy) := fun wx wy N h1 h2 h3 => h1.put hj c hc h2 h3
          obtain ⟨x, hx⟩ : ∃ x, its[j] = x := ⟨_, rfl⟩
          rw [hx] at hd5 ht hc hsl HP
          obtain ⟨d, t⟩ := x
          simp only at hd5 ht hc hsl HP
          obtain ⟨kl, hkl⟩ := keyE d (by omega)
          obtain ⟨tl, htl⟩ : ∃ tl, tl = (its.drop (j + 1)).flatMap encI ++ r := ⟨_, rfl⟩
          have Htl : Hid (tl = (its.drop (j + 1)).flatMap encI ++ r) := htl
          rw [← htl] at hsl
          have Hdot : Hid (_) := rdot_any wr rb sr d (encN t.length ++ t ++ tl) hsr hsl hd5 hss
          have hmbw := hT.new
          have hrbw := hT.rbw
          have HEf : Hid (∀ w2 s2 wx, RT w rb its u3 (flatR rs) mb j w2 → RdP w2 rb s2 → toL s2 = encN t.length ++ t ++ tl → Blk wx w2.heap.size #[.int .i64 (who d : Int), .int .i64 (nth d : Int)] 121 → Below w2.heap.size w2 wx → Calls Tryz.prog 184 #[.pointer (some ⟨rb, 0, none⟩)] wx fun e w' => ∃ s', e = .returned (.agg #[.string ⟨c.path.toArray⟩, .int .u8 (c.act.toNat : Int), .string (keptVal c.act ⟨c.val.toArray⟩), .int .i64 c.n]) ∧ (RdP w' rb s' ∧ toL s' = tl ∧ s'.size ≤ 1000000000) ∧ RT w rb its u3 (flatR rs) mb j w' ∧ Blk w' w2.heap.size #[.int .i64 (who d : Int), .int .i64 (nth d : Int)] 121) := fun w2 s2 wx h2 hk2 hs2 hkd hb => by
            have hz2 := rd_len (w := w) (rb := rb) hsl hs2 hss
            have hGx : Glob wx := (HGl.out.chg h2.chg (fun k hk => by subst hk; exact hrb)).mono hb
            refine Calls.mono (rEffect_any wx hGx rb hrb s2 t tl c (hk2.below hb) hs2 ht hz2 hc he) ?_
            rintro e w' ⟨s', rfl, h3, h4, h5⟩
            have hl2 := hk2.lt
            exact ⟨s', rfl, ⟨h3, h4, rd_len (w := w) (rb := rb) hs2 h4 hz2⟩, (h2.to (Chg.of_below hb)).to h5, hkd.chg h5 (by omega)⟩
          clear hsr hsl hss hT hx htl hN0 hc he ht hNb
          go_wp2_with fail
          refine Calls.mono Hdot.out ?_
          rintro e w2 ⟨s2, rfl, hk2, hs2, hch2⟩
          have hT2 := HT.out.to hch2
          have kd := Blk.new w2 #[.int .i64 (who d : Int), .int .i64 (nth d : Int)] 121
          have hbd : Below w2.heap.size w2 (w2.alloc (.cells #[.int .i64 (who d : Int), .int .i64 (nth d : Int)] 121)) := (Below.refl _ w2).alloc (Nat.le_refl _) _
          have HE2 : Hid (∀ wx, wx.heap = (w2.alloc (.cells #[.int .i64 (who d : Int), .int .i64 (nth d : Int)] 121)).heap → wx.os = w2.os → wx.tape = w2.tape → wx.output = w2.output → Calls Tryz.prog 184 #[.pointer (some ⟨rb, 0, none⟩)] wx _) := fun wx h1 h3 h4 h5 => HEf.out w2 s2 wx hT2 hk2 hs2 (by unfold Blk; rw [h1]; exact kd) ⟨h3, h4, h5, by rw [h1]; simp, fun k hk => by rw [h1]; exact hbd.block k hk⟩
          have z0 := (kd.cell 0).trans rfl
          have z1 := (kd.cell 1).trans rfl
          clear Hdot HEf hk2 hs2 hch2 hT2 hbd
          unfold chV at HP
          go_wp2_with fail
          go_region_with (go_at_call 184; refine Calls.mono (HE2.out _ rfl rfl rfl rfl) ?_; rintro e w4 ⟨s4, rfl, hR4, hT4, hk4⟩; have y0 := (hk4.cell 0).trans rfl; have y1 := (hk4.cell 1).trans rfl; obtain ⟨N4, hN4⟩ := hT4.mp; obtain ⟨w6, hrun, hm6, hg6, hs6⟩ := hN4.store kDot Tryz.underlying100 (HNb.out _ _ hN4) (.agg #[.string ⟨c.path.toArray⟩, .int .u8 (c.act.toNat : Int), .string (keptVal c.act ⟨c.val.toArray⟩), .int .i64 c.n]) hkl)
          all_goals
            have hT6 := HP.out _ _ _ hT4 hg6 hm6
            have hk6 : RdP w6 rb s4 := Blk.grown hR4.1 hg6 (by omega)
            go_wp2_with fail
            go_roundg (its.length - (j + 1))
            case measure => omega
            case rel => exact ⟨j + 1, by omega, by go_num, hT6, s4, hk6, by rw [← Htl.out]; exact hR4.2.1, hR4.2.2⟩
        · have e : j = its.length := by omega
          subst e
          rw [List.drop_length, List.flatMap_nil, List.nil_append] at hsl
          obtain ⟨N0, hN0⟩ := hT.mp
          have hfo : ∀ d ∈ flatR rs, okD d := fun d hd => by
            unfold flatR at hd
            obtain ⟨x, hx, hdx⟩ := List.mem_flatMap.1 hd
            have hx' := Hro.out x hx
            unfold runD at hdx
            obtain ⟨k, hk, rfl⟩ := List.mem_map.1 hdx
            have hk' := List.mem_range.1 hk
            obtain ⟨⟨a1, a2, a3⟩, a4, a5, a6⟩ := hx'
            exact ⟨by rw [who_add (by omega)]; exact a1, by rw [nth_add (by omega)]; omega, by rw [nth_add (by omega)]; omega⟩
          have hfl : (flatR rs).length ≤ 1000000 := by have := Hflat.out rs.length (Nat.le_refl _); rw [List.take_length] at this; omega
          have HOf : Hid (_) := Of_any wr (some mb) u3 (itsC its its.length) (flatR rs) N0 (Or.inr ⟨mb, rfl, hN0⟩) (fun n v hv => itsC_item hv) (fun n hn => itsC_ok (P := okD) (fun x hx => ⟨(Hio.out x hx).1.1, (Hio.out x hx).1.2.1, by have := (Hio.out x hx).1.2.2; omega⟩) its.length n hn) (own_sliceD hT.row) hfl hfo
          have hww := hT.chg.size
          have hrbw := hT.rbw
          have hkl := hT.kr.lt
          have HX : Hid (RdP wr rb sr ∧ toL sr = r) := ⟨hsr, hsl⟩
          clear hT hN0 hsr hsl hss hfo
          go_wp2_with fail
          refine Calls.mono HOf.out ?_
          rintro e w5 ⟨ib, cb, lb, rfl, hst, hnew, hb5⟩
          have kr5 := HT.out.kr.below hb5
          have r0 := (kr5.cell 0).trans rfl
          have r1 := (kr5.cell 1).trans rfl
          have r2 := (kr5.cell 2).trans rfl
          have f0 := kr5.frozen
          have HS : Hid (StoreS w5 ib cb lb (fun d => itsC its its.length d ≠ none ∨ d ∈ flatR rs) (itsC its its.length) ∧ Chg (fun k => k = rb) w w5 ∧ RdP w5 rb sr) := ⟨hst, HT.out.chg.below hb5, HX.out.1.below hb5⟩
          clear hst hb5 kr5 HOf
          go_wp2_with fail
          have hc : Chg (fun k => k = w.heap.size) w5 (((w5.setCell ⟨w.heap.size, 0, none⟩ (.map (some ib))).setCell ⟨w.heap.size, 1, none⟩ (.map (some cb))).setCell ⟨w.heap.size, 2, none⟩ (.map (some lb))) := (((Chg.refl (fun k => k = w.heap.size) w5).setCell (p := ⟨w.heap.size, 0, none⟩) rfl _).setCell (p := ⟨w.heap.size, 1, none⟩) rfl _).setCell (p := ⟨w.heap.size, 2, none⟩) rfl _
          refine bodyPost_ret (v := .agg #[.map (some ib), .map (some cb), .map (some lb)]) (by simp [results, Tryz.results136, go_sem, r0, r1, r2, cs_same, cs_oth, World.cell?_setCell_other]) rfl ⟨ib, cb, lb, sr, rfl, HS.out.1.chg hc (by omega) (by omega) (by omega), Blk.chg HS.out.2.2 hc (by omega), HX.out.2, by omega, ?_⟩
          have h0 := HS.out.2.1
          exact ⟨hc.os.trans h0.os, hc.tape.trans h0.tape, hc.output.trans h0.output, Nat.le_trans h0.size hc.size, fun k hk hm => (hc.block k (Nat.lt_of_lt_of_le hk h0.size) (by omega)).trans (h0.block k hk hm)⟩

theorem rb_below {w wx wy : World} {rb : Nat} (hb : Below w.heap.size w wx) (hc : Chg (fun k => k = rb) wx wy) (hr : w.heap.size ≤ rb) : Below w.heap.size w wy :=
  hb.trans ⟨hc.os, hc.tape, hc.output, hc.size, fun k hk => hc.block k (Nat.lt_of_lt_of_le hk hb.size) (by omega)⟩
theorem bl_w {w w' : World} {i : Nat} {u : Value} (h : Below w.heap.size w w') : Below w.heap.size w (w'.setCell ⟨w.heap.size, i, none⟩ u) := h.setCell (p := ⟨w.heap.size, i, none⟩) (Nat.le_refl _) _
theorem blk_set5 {w : World} {b : Nat} {x0 x1 x2 x3 x4 u : Value} {t : TypeId} (h : Blk w b #[x0, x1, x2, x3, x4] t) : Blk (w.setCell ⟨b, 0, none⟩ u) b #[u, x1, x2, x3, x4] t ∧ Blk (w.setCell ⟨b, 1, none⟩ u) b #[x0, u, x2, x3, x4] t := by
  unfold Blk at h ⊢
  constructor <;> simp [World.setCell, Array.getElem?_modify, h]

theorem blk5_all {w : World} {b : Nat} {x0 x1 x2 x3 x4 u0 u1 u2 u3 u4 : Value} {t : TypeId} (h : Blk w b #[x0, x1, x2, x3, x4] t) : Blk (((((w.setCell ⟨b, 0, none⟩ u0).setCell ⟨b, 1, none⟩ u1).setCell ⟨b, 2, none⟩ u2).setCell ⟨b, 3, none⟩ u3).setCell ⟨b, 4, none⟩ u4) b #[u0, u1, u2, u3, u4] t := by
  unfold Blk at h ⊢
  simp [World.setCell, Array.getElem?_modify, h]
theorem blk5_tail {w : World} {b : Nat} {x0 x1 x2 x3 x4 u2 u3 u4 : Value} {t : TypeId} (h : Blk w b #[x0, x1, x2, x3, x4] t) : Blk (((w.setCell ⟨b, 2, none⟩ u2).setCell ⟨b, 3, none⟩ u3).setCell ⟨b, 4, none⟩ u4) b #[x0, x1, u2, u3, u4] t := by
  unfold Blk at h ⊢
  simp [World.setCell, Array.getElem?_modify, h]
set_option maxHeartbeats 4000000 in
set_option maxRecDepth 100000 in
theorem fRead_ack (w : World) (s : ByteArray) (a : Nat) (ha : a ≤ 5) (hs : toL s = encA a) :
    Calls Tryz.prog 79 #[.string s] w fun e w' => e = .returned (.tuple #[.agg #[.int .i64 (a : Int), .bool true, .map none, .map none, .map none], .bool true]) ∧ Below w.heap.size w w' := by
  have hsz : s.size ≤ 1000000000 := by
    have : s.size = (toL s).length := by simp [toL]
    rw [this, hs]
    have h1 := encN_len 1
    have h2 := encN_len a
    unfold encA; simp; omega
  have H1 : Hid (∀ ob, Calls Tryz.prog 135 #[.pointer (some ⟨w.heap.size + 1, 0, none⟩), .int .i64 0, .int .i64 1] ((w.alloc ob).alloc (.cells #[.string s, .bool false] 246)) fun e w' => ∃ s', e = .returned (.int .i64 1) ∧ RdP w' (w.heap.size + 1) s' ∧ toL s' = encN a ∧ Chg (fun k => k = w.heap.size + 1) ((w.alloc ob).alloc (.cells #[.string s, .bool false] 246)) w') := fun ob => by
    have hk := Blk.new (w.alloc ob) #[.string s, .bool false] 246
    rw [World.size_alloc] at hk
    exact rNumber_any _ (w.heap.size + 1) s 1 0 1 (encN a) hk hs (by omega) (by omega) (by omega) (by omega) hsz
  have H2 : Hid (∀ wx s1, RdP wx (w.heap.size + 1) s1 → toL s1 = encN a → Calls Tryz.prog 135 #[.pointer (some ⟨w.heap.size + 1, 0, none⟩), .int .i64 0, .int .i64 5] wx fun e w' => ∃ s', e = .returned (.int .i64 (a : Int)) ∧ RdP w' (w.heap.size + 1) s' ∧ toL s' = [] ∧ Chg (fun k => k = w.heap.size + 1) wx w') := fun wx s1 h1 h2 =>
    rNumber_any wx _ s1 a 0 5 [] h1 (by rw [h2, List.append_nil]) (by omega) (by omega) ha (by omega) (rd_len (w := w) (rb := 0) (a := encN 1) (by rw [hs]; rfl) h2 hsz)
  clear hs hsz
  go_enter Tryz.func79, Tryz.ntmps79
  go_wp2_with fail
  refine Calls.mono (NewReader_any _ s) ?_
  rintro e w1 ⟨rfl, rfl⟩
  simp only [World.size_alloc]
  go_wp2_with fail
  refine Calls.mono (H1.out _) ?_
  rintro e w2 ⟨s2, rfl, hk2, hs2, hch2⟩
  have kf2 : Blk w2 w.heap.size #[.int .i64 0, .bool false, .map none, .map none, .map none] 108 := ((Blk.new w _ _).alloc _).chg hch2 (by omega)
  have hb2 : Below w.heap.size w w2 := rb_below (((Below.refl _ w).alloc (Nat.le_refl _) _).alloc (by simp) _) hch2 (by omega)
  have c1 := (kf2.cell 1).trans rfl
  have f0 := kf2.frozen
  have hl2 : w.heap.size + 1 < w2.heap.size := hk2.lt
  have HK : Hid (Blk w2 w.heap.size #[.int .i64 0, .bool false, .map none, .map none, .map none] 108 ∧ Below w.heap.size w w2 ∧ RdP w2 (w.heap.size + 1) s2) := ⟨kf2, hb2, hk2⟩
  have H3 : Hid (_) := H2.out (w2.setCell ⟨w.heap.size, 1, none⟩ (.bool true)) s2 (Blk.chg hk2 ((Chg.refl (fun k => k = w.heap.size) w2).setCell (p := ⟨w.heap.size, 1, none⟩) rfl _) (by omega)) hs2
  clear H1 H2 kf2 hb2 hk2 hs2 hch2
  go_wp2_with fail
  refine Calls.mono H3.out ?_
  rintro e w3 ⟨s3, rfl, hk3, hs3, hch3⟩
  have kf3 : Blk w3 w.heap.size #[.int .i64 0, .bool true, .map none, .map none, .map none] 108 := ((blk_set5 HK.out.1).2).chg hch3 (by omega)
  have hb3 : Below w.heap.size w w3 := rb_below (HK.out.2.1.setCell (p := ⟨w.heap.size, 1, none⟩) (Nat.le_refl _) _) hch3 (by omega)
  have c0 := (kf3.cell 0).trans rfl
  have f0 := kf3.frozen
  have kf4 : Blk (w3.setCell ⟨w.heap.size, 0, none⟩ (.int .i64 (a : Int))) w.heap.size #[.int .i64 (a : Int), .bool true, .map none, .map none, .map none] 108 := (blk_set5 kf3).1
  have hb4 : Below w.heap.size w (w3.setCell ⟨w.heap.size, 0, none⟩ (.int .i64 (a : Int))) := hb3.setCell (p := ⟨w.heap.size, 0, none⟩) (Nat.le_refl _) _
  have HA : Hid (_) := AtEnd_any (w3.setCell ⟨w.heap.size, 0, none⟩ (.int .i64 (a : Int))) (w.heap.size + 1) s3 (Blk.chg hk3 ((Chg.refl (fun k => k = w.heap.size) w3).setCell (p := ⟨w.heap.size, 0, none⟩) rfl _) (by omega)) hs3
  have d0 := (kf4.cell 0).trans rfl
  have d1 := (kf4.cell 1).trans rfl
  have d2 := (kf4.cell 2).trans rfl
  have d3 := (kf4.cell 3).trans rfl
  have d4 := (kf4.cell 4).trans rfl
  have g0 := kf4.frozen
  have HB : Hid (Below w.heap.size w (w3.setCell ⟨w.heap.size, 0, none⟩ (.int .i64 (a : Int)))) := hb4
  have HKf : Hid (Blk (w3.setCell ⟨w.heap.size, 0, none⟩ (.int .i64 (a : Int))) w.heap.size #[.int .i64 (a : Int), .bool true, .map none, .map none, .map none] 108) := kf4
  clear H3 HK kf3 hb3 hk3 hs3 hch3 hb4 kf4
  go_wp2_with fail
  refine Calls.mono HA.out ?_
  rintro e w5 ⟨rfl, rfl⟩
  clear HA c0 f0
  go_wp2_with fail
  have kz := blk5_all (u0 := .int .i64 (a : Int)) (u1 := .bool true) (u2 := .map none) (u3 := .map none) (u4 := .map none) HKf.out
  have hbz := bl_w (i := 4) (u := .map none) (bl_w (i := 3) (u := .map none) (bl_w (i := 2) (u := .map none) (bl_w (i := 1) (u := .bool true) (bl_w (i := 0) (u := .int .i64 (a : Int)) HB.out))))
  clear d0 d1 d2 d3 d4 g0 HB HKf
  generalize ((((((w3.setCell ⟨w.heap.size, 0, none⟩ (.int .i64 (a : Int))).setCell ⟨w.heap.size, 0, none⟩ (.int .i64 (a : Int))).setCell ⟨w.heap.size, 1, none⟩ (.bool true)).setCell ⟨w.heap.size, 2, none⟩ (.map none)).setCell ⟨w.heap.size, 3, none⟩ (.map none)).setCell ⟨w.heap.size, 4, none⟩ (.map none)) = wz at *
  have d0 := (kz.cell 0).trans rfl
  have d1 := (kz.cell 1).trans rfl
  have d2 := (kz.cell 2).trans rfl
  have d3 := (kz.cell 3).trans rfl
  have d4 := (kz.cell 4).trans rfl
  exact bodyPost_ret (v := .tuple #[.agg #[.int .i64 (a : Int), .bool true, .map none, .map none, .map none], .bool true]) (by simp [results, Tryz.results79, go_sem, d0, d1, d2, d3, d4]) rfl ⟨rfl, hbz⟩

set_option maxHeartbeats 4000000 in
set_option maxRecDepth 100000 in
theorem fRead_brings (w : World) (hG : Glob w) (s : ByteArray) (a : Nat) (ha : a ≤ 5) (rs : List (Nat × Nat)) (its : List (Nat × Thk.Bs)) (hs : toL s = encF a rs its) (hsz : s.size ≤ 1000000000)
    (hrs : rs.length ≤ 500) (hro : ∀ x ∈ rs, okR x) (his : its.length ≤ 500) (hio : ∀ x ∈ its, (who x.1 ≤ 5 ∧ 1 ≤ nth x.1 ∧ nth x.1 ≤ 500) ∧ x.2.length < 16384 ∧ ∃ c, Thk.read x.2 = .inr c ∧ effB c.act = true) :
    Calls Tryz.prog 79 #[.string s] w fun e w' => ∃ ib cb lb, e = .returned (.tuple #[.agg #[.int .i64 (a : Int), .bool false, .map (some ib), .map (some cb), .map (some lb)], .bool true]) ∧ StoreS w' ib cb lb (fun d => itsC its its.length d ≠ none ∨ d ∈ flatR rs) (itsC its its.length) ∧ (w.heap.size ≤ ib ∧ w.heap.size ≤ cb ∧ w.heap.size ≤ lb) ∧ Below w.heap.size w w' := by
  have hg3 : 3 < w.heap.size := hG.size
  have hs' : toL s = encN 0 ++ (encN a ++ encS rs its) := by rw [hs]; unfold encF; rw [List.append_assoc]
  have H1 : Hid (∀ ob, Calls Tryz.prog 135 #[.pointer (some ⟨w.heap.size + 1, 0, none⟩), .int .i64 0, .int .i64 1] ((w.alloc ob).alloc (.cells #[.string s, .bool false] 246)) fun e w' => ∃ s', e = .returned (.int .i64 0) ∧ RdP w' (w.heap.size + 1) s' ∧ toL s' = encN a ++ encS rs its ∧ Chg (fun k => k = w.heap.size + 1) ((w.alloc ob).alloc (.cells #[.string s, .bool false] 246)) w') := fun ob => by
    have hk := Blk.new (w.alloc ob) #[.string s, .bool false] 246
    rw [World.size_alloc] at hk
    exact rNumber_any _ (w.heap.size + 1) s 0 0 1 (encN a ++ encS rs its) hk hs' (by omega) (by omega) (by omega) (by omega) hsz
  have H2 : Hid (∀ wx s1, RdP wx (w.heap.size + 1) s1 → toL s1 = encN a ++ encS rs its → Calls Tryz.prog 135 #[.pointer (some ⟨w.heap.size + 1, 0, none⟩), .int .i64 0, .int .i64 5] wx fun e w' => ∃ s', e = .returned (.int .i64 (a : Int)) ∧ (RdP w' (w.heap.size + 1) s' ∧ toL s' = encS rs its ++ [] ∧ s'.size ≤ 1000000000) ∧ Chg (fun k => k = w.heap.size + 1) wx w') := fun wx s1 h1 h2 => by
    have hz1 := rd_len (w := w) (rb := 0) hs' h2 hsz
    refine Calls.mono (rNumber_any wx _ s1 a 0 5 (encS rs its) h1 h2 (by omega) (by omega) ha (by omega) hz1) ?_
    rintro e w' ⟨s', rfl, h3, h4, h5⟩
    exact ⟨s', rfl, ⟨h3, by rw [h4, List.append_nil], rd_len (w := w) (rb := 0) h2 h4 hz1⟩, h5⟩
  have H4 : Hid (∀ wx s1, Below w.heap.size w wx → RdP wx (w.heap.size + 1) s1 → toL s1 = encS rs its ++ [] → s1.size ≤ 1000000000 → Calls Tryz.prog 136 #[.pointer (some ⟨w.heap.size + 1, 0, none⟩)] wx _) := fun wx s1 hb h1 h2 h3 => rStore_any wx (hG.mono hb) (w.heap.size + 1) (by omega) s1 rs its [] h1 h2 h3 hrs hro his hio
  clear hs hs' hsz hG hro hio
  go_enter Tryz.func79, Tryz.ntmps79
  go_wp2_with fail
  refine Calls.mono (NewReader_any _ s) ?_
  rintro e w1 ⟨rfl, rfl⟩
  simp only [World.size_alloc]
  go_wp2_with fail
  refine Calls.mono (H1.out _) ?_
  rintro e w2 ⟨s2, rfl, hk2, hs2, hch2⟩
  have kf2 : Blk w2 w.heap.size #[.int .i64 0, .bool false, .map none, .map none, .map none] 108 := ((Blk.new w _ _).alloc _).chg hch2 (by omega)
  have hb2 : Below w.heap.size w w2 := rb_below (((Below.refl _ w).alloc (Nat.le_refl _) _).alloc (by simp) _) hch2 (by omega)
  have c1 := (kf2.cell 1).trans rfl
  have f0 := kf2.frozen
  have HK : Hid (Blk w2 w.heap.size #[.int .i64 0, .bool false, .map none, .map none, .map none] 108 ∧ Below w.heap.size w w2 ∧ RdP w2 (w.heap.size + 1) s2) := ⟨kf2, hb2, hk2⟩
  have H3 : Hid (_) := H2.out (w2.setCell ⟨w.heap.size, 1, none⟩ (.bool false)) s2 (Blk.chg hk2 ((Chg.refl (fun k => k = w.heap.size) w2).setCell (p := ⟨w.heap.size, 1, none⟩) rfl _) (by omega)) hs2
  clear H1 H2 kf2 hb2 hk2 hs2 hch2
  go_wp2_with fail
  refine Calls.mono H3.out ?_
  rintro e w3 ⟨s3, rfl, hR3, hch3⟩
  have kf3 : Blk w3 w.heap.size #[.int .i64 0, .bool false, .map none, .map none, .map none] 108 := ((blk_set5 HK.out.1).2).chg hch3 (by omega)
  have hb3 : Below w.heap.size w w3 := rb_below (HK.out.2.1.setCell (p := ⟨w.heap.size, 1, none⟩) (Nat.le_refl _) _) hch3 (by omega)
  have c0 := (kf3.cell 0).trans rfl
  have f0 := kf3.frozen
  have kf4 : Blk (w3.setCell ⟨w.heap.size, 0, none⟩ (.int .i64 (a : Int))) w.heap.size #[.int .i64 (a : Int), .bool false, .map none, .map none, .map none] 108 := (blk_set5 kf3).1
  have hb4 : Below w.heap.size w (w3.setCell ⟨w.heap.size, 0, none⟩ (.int .i64 (a : Int))) := hb3.setCell (p := ⟨w.heap.size, 0, none⟩) (Nat.le_refl _) _
  have HS : Hid (_) := H4.out (w3.setCell ⟨w.heap.size, 0, none⟩ (.int .i64 (a : Int))) s3 hb4 (Blk.chg hR3.1 ((Chg.refl (fun k => k = w.heap.size) w3).setCell (p := ⟨w.heap.size, 0, none⟩) rfl _) (by omega)) hR3.2.1 hR3.2.2
  have d1 := (kf4.cell 1).trans rfl
  have HB : Hid (Below w.heap.size w (w3.setCell ⟨w.heap.size, 0, none⟩ (.int .i64 (a : Int))) ∧ Blk (w3.setCell ⟨w.heap.size, 0, none⟩ (.int .i64 (a : Int))) w.heap.size #[.int .i64 (a : Int), .bool false, .map none, .map none, .map none] 108) := ⟨hb4, kf4⟩
  have hw3 : w.heap.size ≤ (w3.setCell ⟨w.heap.size, 0, none⟩ (.int .i64 (a : Int))).heap.size := hb4.size
  clear H3 H4 HK kf3 hb3 hR3 hch3 hb4 kf4
  go_wp2_with fail
  refine Calls.mono HS.out ?_
  rintro e w5 ⟨ib, cb, lb, s5, rfl, hst, hk5, hs5, hnew, hch5⟩
  have kf5 := HB.out.2.chg hch5 (by omega)
  have hb5 := rb_below HB.out.1 hch5 (by omega)
  have e2 := (kf5.cell 2).trans rfl
  have e3 := (kf5.cell 3).trans rfl
  have e4 := (kf5.cell 4).trans rfl
  have g0 := kf5.frozen
  have hc6 : Chg (fun k => k = w.heap.size) w5 (((w5.setCell ⟨w.heap.size, 2, none⟩ (.map (some ib))).setCell ⟨w.heap.size, 3, none⟩ (.map (some cb))).setCell ⟨w.heap.size, 4, none⟩ (.map (some lb))) := (((Chg.refl (fun k => k = w.heap.size) w5).setCell (p := ⟨w.heap.size, 2, none⟩) rfl _).setCell (p := ⟨w.heap.size, 3, none⟩) rfl _).setCell (p := ⟨w.heap.size, 4, none⟩) rfl _
  have kf6 : Blk (((w5.setCell ⟨w.heap.size, 2, none⟩ (.map (some ib))).setCell ⟨w.heap.size, 3, none⟩ (.map (some cb))).setCell ⟨w.heap.size, 4, none⟩ (.map (some lb))) w.heap.size #[.int .i64 (a : Int), .bool false, .map (some ib), .map (some cb), .map (some lb)] 108 := blk5_tail kf5
  have hb6 := bl_w (i := 4) (u := .map (some lb)) (bl_w (i := 3) (u := .map (some cb)) (bl_w (i := 2) (u := .map (some ib)) hb5))
  have hnw : w.heap.size < w5.heap.size := kf5.lt
  have hnn : w.heap.size < ib ∧ w.heap.size < cb ∧ w.heap.size < lb := by
    have := HB.out.2.lt
    omega
  have HF : Hid (StoreS (((w5.setCell ⟨w.heap.size, 2, none⟩ (.map (some ib))).setCell ⟨w.heap.size, 3, none⟩ (.map (some cb))).setCell ⟨w.heap.size, 4, none⟩ (.map (some lb))) ib cb lb (fun d => itsC its its.length d ≠ none ∨ d ∈ flatR rs) (itsC its its.length)) := hst.chg hc6 (by omega) (by omega) (by omega)
  have HA : Hid (_) := AtEnd_any (((w5.setCell ⟨w.heap.size, 2, none⟩ (.map (some ib))).setCell ⟨w.heap.size, 3, none⟩ (.map (some cb))).setCell ⟨w.heap.size, 4, none⟩ (.map (some lb))) (w.heap.size + 1) s5 (Blk.chg hk5 hc6 (by omega)) hs5
  have HKf : Hid (Blk (((w5.setCell ⟨w.heap.size, 2, none⟩ (.map (some ib))).setCell ⟨w.heap.size, 3, none⟩ (.map (some cb))).setCell ⟨w.heap.size, 4, none⟩ (.map (some lb))) w.heap.size #[.int .i64 (a : Int), .bool false, .map (some ib), .map (some cb), .map (some lb)] 108 ∧ Below w.heap.size w (((w5.setCell ⟨w.heap.size, 2, none⟩ (.map (some ib))).setCell ⟨w.heap.size, 3, none⟩ (.map (some cb))).setCell ⟨w.heap.size, 4, none⟩ (.map (some lb)))) := ⟨kf6, hb6⟩
  clear HS HB hst hk5 hs5 hch5 kf5 hb5 kf6 hb6 hc6 c0 f0 d1
  go_wp2_with fail
  generalize (((w5.setCell ⟨w.heap.size, 2, none⟩ (.map (some ib))).setCell ⟨w.heap.size, 3, none⟩ (.map (some cb))).setCell ⟨w.heap.size, 4, none⟩ (.map (some lb))) = w6 at *
  refine Calls.mono HA.out ?_
  rintro e w7 ⟨rfl, rfl⟩
  have d0 := (HKf.out.1.cell 0).trans rfl
  have d1 := (HKf.out.1.cell 1).trans rfl
  have d2 := (HKf.out.1.cell 2).trans rfl
  have d3 := (HKf.out.1.cell 3).trans rfl
  have d4 := (HKf.out.1.cell 4).trans rfl
  have g6 := HKf.out.1.frozen
  clear HA e2 e3 e4 g0
  go_wp2_with fail
  have kz := blk5_all (u0 := .int .i64 (a : Int)) (u1 := .bool false) (u2 := .map (some ib)) (u3 := .map (some cb)) (u4 := .map (some lb)) HKf.out.1
  have hbz := bl_w (i := 4) (u := .map (some lb)) (bl_w (i := 3) (u := .map (some cb)) (bl_w (i := 2) (u := .map (some ib)) (bl_w (i := 1) (u := .bool false) (bl_w (i := 0) (u := .int .i64 (a : Int)) HKf.out.2))))
  have hsz := HF.out.chg (M := fun k => k = w.heap.size) (((((Chg.refl (fun k => k = w.heap.size) w7).setCell (p := ⟨w.heap.size, 0, none⟩) rfl (.int .i64 (a : Int))).setCell (p := ⟨w.heap.size, 1, none⟩) rfl (.bool false)).setCell (p := ⟨w.heap.size, 2, none⟩) rfl (.map (some ib))).setCell (p := ⟨w.heap.size, 3, none⟩) rfl (.map (some cb)) |>.setCell (p := ⟨w.heap.size, 4, none⟩) rfl (.map (some lb))) (by omega) (by omega) (by omega)
  clear d0 d1 d2 d3 d4 g6 HF HKf
  generalize (((((w7.setCell ⟨w.heap.size, 0, none⟩ (.int .i64 (a : Int))).setCell ⟨w.heap.size, 1, none⟩ (.bool false)).setCell ⟨w.heap.size, 2, none⟩ (.map (some ib))).setCell ⟨w.heap.size, 3, none⟩ (.map (some cb))).setCell ⟨w.heap.size, 4, none⟩ (.map (some lb))) = wz at *
  have d0 := (kz.cell 0).trans rfl
  have d1 := (kz.cell 1).trans rfl
  have d2 := (kz.cell 2).trans rfl
  have d3 := (kz.cell 3).trans rfl
  have d4 := (kz.cell 4).trans rfl
  exact bodyPost_ret (v := .tuple #[.agg #[.int .i64 (a : Int), .bool false, .map (some ib), .map (some cb), .map (some lb)], .bool true]) (by simp [results, Tryz.results79, go_sem, d0, d1, d2, d3, d4]) rfl ⟨ib, cb, lb, rfl, hsz, by omega, hbz⟩
end Go.Proofs.YtoiiaankpnhppaaGreatDoor

