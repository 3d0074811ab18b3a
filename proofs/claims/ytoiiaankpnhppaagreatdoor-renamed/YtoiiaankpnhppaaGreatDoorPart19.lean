import Derived.Test.YtoiiaankpnhppaaGreatDoorPart18
set_option linter.unusedVariables false
set_option linter.unusedSimpArgs false
namespace Go.Proofs.YtoiiaankpnhppaaGreatDoor
open Go.RowKit Go.Maps

structure OutG (v : Value) (w : World) (v' : Value) (w' : World) : Prop where
  chg : Chg (fun k => v.ownBlock = some k) w w'
  loc : ∀ g, v'.ownBlock = some g → v.ownBlock = some g ∨ w.heap.size ≤ g
theorem OutG.trans {v v1 v2 : Value} {w w1 w2 : World} (h : OutG v w v1 w1) (k : OutG v1 w1 v2 w2) : OutG v w v2 w2 := by
  have hs := h.chg.size
  refine ⟨⟨k.chg.os.trans h.chg.os, k.chg.tape.trans h.chg.tape, k.chg.output.trans h.chg.output, Nat.le_trans hs k.chg.size, fun j hj hn => ?_⟩, fun g hg => ?_⟩
  · refine (k.chg.block j (by omega) (fun e => ?_)).trans (h.chg.block j hj hn)
    rcases h.loc j e with h1 | h1
    · exact hn h1
    · omega
  · rcases k.loc g hg with h1 | h1
    · exact h.loc g h1
    · right; omega
theorem OutG.of_below {v : Value} {w w' : World} (hb : Below w.heap.size w w') : OutG v w v w' := ⟨Chg.of_below hb, fun _ h => Or.inl h⟩
theorem OutG.heap {v : Value} {w w' : World} (hx : w'.heap = w.heap) (ho : w'.os = w.os) (ht : w'.tape = w.tape) (hp : w'.output = w.output) : OutG v w v w' :=
  ⟨⟨ho, ht, hp, by rw [hx]; exact Nat.le_refl _, fun k _ _ => by rw [hx]⟩, fun _ h => Or.inl h⟩
theorem OutG.app0 {v v' : Value} {w w' : World} (hg : w.grownBy w' v.ownBlock) (hl : v'.ownBlock = v.ownBlock ∨ v'.ownBlock = some w.heap.size) : OutG v w v' w' := by
  refine ⟨(Chg.refl _ w).grown hg (fun k e => Or.inl e), fun g h => ?_⟩
  rcases hl with e | e
  · exact Or.inl (e ▸ h)
  · rw [e] at h; cases h; exact Or.inr (Nat.le_refl _)
theorem OutG.app {v v' : Value} {w w' : World} {o : Obj} (hg : (w.alloc o).grownBy w' v.ownBlock) (hl : v'.ownBlock = v.ownBlock ∨ v'.ownBlock = some (w.alloc o).heap.size) : OutG v w v' w' :=
  (OutG.of_below ((Below.refl _ w).alloc (Nat.le_refl _) o)).trans (OutG.app0 hg hl)
theorem OutG.blk {B : Nat} {v v' : Value} {l : Thk.Bs} {w w' : World} {b : Nat} {cs : Array Value} {t : TypeId} (h : OutG v w v' w') (ho : OutV B w v l) (k : Blk w b cs t) (ht : t ≠ 5) : Blk w' b cs t := by
  refine k.chg h.chg (fun hm => ownsRow_ne ho (fun cur fz e => ?_) hm)
  rw [show w.heap[b]? = _ from k] at e
  cases e
  exact ht rfl
theorem OutG.outF {B : Nat} {v v' : Value} {l : Thk.Bs} {w w' : World} (h : OutG v w v' w') (ho : OutV B w v l) : OutF B w w' := by
  refine h.chg.mono (fun k hk e => ?_)
  rcases ho.2 with ⟨rfl, _⟩ | ⟨g, cap, cur, rfl, hB, hg, _⟩
  · cases e
  · cases e; exact ⟨hB, _, _, hg⟩

section
variable {P : Program} {w : World}
open Go.Lib in
theorem run_str_at (base : Nat) (t u ty e : TypeId) (i : TypeInfo) (ht : P.underlying t = some (.slice e)) (hu : P.underlying u = some .string) (hi : P.info? e = some i) (hz : i.zero = some (.int .u8 0))
    (hsize : i.size = 1) (hby : i.bytes = 1) (v : Value) (n : Nat) (xs : List Value) (hown : w.ownsRow base e 1 v n xs) (s : ByteArray) (h63 : n + s.size ≤ maxLen) (hbytes : n + s.size ≤ 140737488355328) (hbase : base ≤ w.heap.size) :
    ∃ v' w', (Builtin.append_ #[t, u] ty #[v, .string s]).run P w = .ok v' w' ∧ w'.ownsRow base e 1 v' (n + s.size) (xs ++ strCells s) ∧ w.grownBy w' v.ownBlock ∧ (v'.ownBlock = v.ownBlock ∨ v'.ownBlock = some w.heap.size) := by
  obtain ⟨v', w', hr, h2, h3, h4⟩ := run_append_own_string (P := P) w base t u ty e i ht hu hi hz hsize hby v n xs hown s h63 hbytes hbase
  refine ⟨v', w', hr, h2, h3, ?_⟩
  have hsmall : n + s.size ≤ 9223372036854775807 := by simp only [maxLen] at h63; omega
  have hxl : xs.length = n := by simpa using hown.1
  rcases hown.2 with ⟨rfl, rfl⟩ | ⟨g, cap, cur, rfl, hbg, hg, hnc, hcm, hcs, htake⟩
  · by_cases hm : s.size = 0
    · left; rw [h4.2 ⟨rfl, hm⟩]
    · right
      have hr2 := run_append_nil_string (P := P) w t u ty e i (.int .u8 0) ht hu hi hz s (by omega) (by omega) (by rw [hby]; omega)
      rw [hr] at hr2
      injection hr2 with h5 h6
      rw [h5]; (first | done | rfl)
  · by_cases hroom : n + s.size ≤ cap
    · left
      have hcs' : cur.size = cap := by simpa using hcs
      have hr2 := run_append_room_string (P := P) w t u ty e i ht hu hi hsize g n cap cur hg s hroom (by omega)
      rw [hr] at hr2
      injection hr2 with h5 h6
      rw [h5]; (first | done | rfl)
    · right
      have holds : ∀ j u, xs[j]? = some u → w.cell? ((⟨g, 0, none⟩ : Addr).add j) = some u := hown.cells (g := g) rfl
      have hr2 := run_append_grow_string (P := P) w t u ty e i (.int .u8 0) ht hu hi hz ⟨g, 0, none⟩ n cap xs (by rw [hsize]; simpa using hxl) holds s (by omega) (by omega) (by rw [hby]; exact growslice_fits (by omega) (by omega))
      rw [hr] at hr2
      injection hr2 with h5 h6
      rw [h5]; (first | done | rfl)
theorem wpList_str_at {ops : Array Oper} {rest : List Oper} {o : Oper} {a : Act} {Q : Exit → Act → World → Prop} (hgd : o.guard = none) (sl x : Operand) (t u : TypeId)
    (ho : o.op = .call { callee := .builtin .append, args := #[sl, x], argTypes := #[t, u] })
    (base : Nat) (e : TypeId) (i : TypeInfo) (ht : P.underlying t = some (.slice e)) (hu : P.underlying u = some .string) (hi : P.info? e = some i) (hz : i.zero = some (.int .u8 0)) (hsize : i.size = 1) (hby : i.bytes = 1)
    (v : Value) (n : Nat) (xs : List Value) (hs : a.eval sl = v) (hown : w.ownsRow base e 1 v n xs) (s : ByteArray) (hx : a.eval x = .string s) (h63 : n + s.size ≤ maxLen) (hbytes : n + s.size ≤ 140737488355328) (hbase : base ≤ w.heap.size)
    (h : ∀ v' w', w'.ownsRow base e 1 v' (n + s.size) (xs ++ Lib.strCells s) → w.grownBy w' v.ownBlock → (v'.ownBlock = v.ownBlock ∨ v'.ownBlock = some w.heap.size) → wpList P ops Q rest (a.put o.dst v') w') : wpList P ops Q (o :: rest) a w := by
  refine wpList_plain hgd fun K hK => ?_
  obtain ⟨v', w', hr, h2, h3, h4⟩ := run_str_at (P := P) base t u o.type e i ht hu hi hz hsize hby v n xs hown s h63 hbytes hbase
  unfold Oper.wp execOp
  simp only [ho, resolve, invoke, builtin, Sem.run_bind, Sem.run_pure, Result.andThen_ok, List.map_toArray, List.map_cons, List.map_nil, hs, hx, hr]
  exact hK _ _ (h v' w' h2 h3 h4)
end

set_option maxHeartbeats 4000000 in
set_option maxRecDepth 100000 in
theorem Number_loc (B : Nat) (w : World) (v : Value) (l : Thk.Bs) (n : Nat) (h : OutV B w v l) (hB : B ≤ w.heap.size) (hl : l.length ≤ 1000000) (hn : n < 16384) :
    Calls Tryz.prog 199 #[v, .int .i64 (n : Int)] w fun e w' => ∃ v', e = .returned v' ∧ OutV B w' v' (l ++ encN n) ∧ OutG v w v' w' := by
  obtain ⟨i0, hi, hz0, hz1, hz2⟩ := info_parts Tryz.infoU8
  have H : Hid (OutV B w v l) := h
  have h63 : l.length + 1 ≤ maxLen := by unfold maxLen; omega
  have h64 : (l.length + 1) * 1 ≤ 140737488355328 := by omega
  by_cases hs : n < 128
  · have hconv : IntKind.u8.wrap (n : Int) = n := wrap_u8 n (by omega)
    have hgt : ((n : Int) > 127) = False := by simp; omega
    have He : Hid (bsV (l ++ encN n) = bsV l ++ [.int .u8 (n : Int)]) := by
      unfold Hid
      rw [encN_one hs, bsV_app]
      simp [bsV, UInt8.toNat_ofNat']
      omega
    clear h
    go_enter Tryz.func199, Tryz.ntmps199
    go_wp2_with fail
    go_loopg [0, 1] 0 (fun g v0 v1 wx => v0 = v ∧ v1 = .int .i64 (n : Int) ∧ wx = w)
    case atStart => exact ⟨rfl, rfl, rfl⟩
    case round =>
      obtain ⟨rfl, rfl, rfl⟩ := hrel
      go_wp2_with (first | (at_builtin; refine wpList_append_own_at _ rfl (.tmp 16) (.tmp 19) 88 rfl B 5 i0 (.int .u8 0) 1 1 Tryz.underlying88 hi hz0 hz1 hz2 rfl (by decide) _ _ _ rfl (H.out.alloc _) ⟨wr.heap.size, 0, none⟩ 1 1 [.int .u8 (n : Int)] rfl rfl (cell_one_new _ _ _) (by intro u hu; simp at hu; subst hu; rfl) h63 h64 (by simp; omega) ?_; intro v6 w6 ho6 hg6 hn6 hl6))
      go_ret
      refine ⟨_, rfl, ?_, OutG.app hg6 hl6⟩
      unfold OutV
      rw [He.out, List.length_append, encN_one hs]
      exact ho6
  · have hb0 : n % 128 + 128 < 256 := by omega
    obtain ⟨q, hq⟩ : ∃ q, n / 128 = q := ⟨_, rfl⟩
    obtain ⟨r, hr⟩ : ∃ r, n % 128 + 128 = r := ⟨_, rfl⟩
    have hlow : bits .and .i64 (n : Int) 127 = (n : Int) % 128 := by rw [low_i64 n (by omega)]; omega
    have hmore : bits .or .i64 ((n : Int) % 128) 128 = (r : Int) := by
      have := more_i64 (n % 128) (by omega)
      rw [← hr, ← this]
      congr 1
    have hcv0 : (r : Int) % 256 = r := by omega
    have hcv1 : (q : Int) % 256 = q := by omega
    have hdiv : (n : Int) / 128 = (q : Int) := by omega
    have hgt : (n : Int) > 127 := by omega
    have hd128 : q < 128 := by omega
    have He1 : Hid (bsV (l ++ [UInt8.ofNat r]) = bsV l ++ [.int .u8 (r : Int)]) := by
      unfold Hid
      rw [bsV_app]
      simp [bsV, UInt8.toNat_ofNat']
      omega
    have He2 : Hid (bsV (l ++ encN n) = bsV (l ++ [UInt8.ofNat r]) ++ [.int .u8 (q : Int)]) := by
      unfold Hid
      rw [encN_two hs, hr, hq, bsV_app, bsV_app, List.append_assoc]
      simp [bsV, UInt8.toNat_ofNat']
      omega
    have h65 : l.length + 1 + 1 ≤ maxLen := by unfold maxLen; omega
    have h66 : (l.length + 1 + 1) * 1 ≤ 140737488355328 := by omega
    clear hq hr hb0
    clear h
    go_enter Tryz.func199, Tryz.ntmps199
    go_wp2_with fail
    go_loopg [0, 1] 1 (fun g v0 v1 wx => (g = 1 ∧ v0 = v ∧ v1 = .int .i64 (n : Int) ∧ wx = w) ∨ (g = 0 ∧ v1 = .int .i64 (q : Int) ∧ wx.ownsRow B 5 1 v0 (l.length + 1) (bsV (l ++ [UInt8.ofNat r])) ∧ OutG v w v0 wx))
    case atStart => exact Or.inl ⟨rfl, rfl, rfl, rfl⟩
    case round =>
      rcases hrel with ⟨hg, rfl, rfl, rfl⟩ | ⟨hg, rfl, hown, hF⟩
      · go_wp2_with (first | (at_builtin; refine wpList_append_own_at _ rfl (.tmp 7) (.tmp 12) 88 rfl B 5 i0 (.int .u8 0) 1 1 Tryz.underlying88 hi hz0 hz1 hz2 rfl (by decide) _ _ _ rfl (H.out.alloc _) ⟨wr.heap.size, 0, none⟩ 1 1 [.int .u8 (r : Int)] rfl rfl (cell_one_new _ _ _) (by intro u hu; simp at hu; subst hu; rfl) h63 h64 (by simp; omega) ?_; intro v6 w6 ho6 hg6 hn6 hl6; have HF6 := OutG.app hg6 hl6; clear hg6 hl6))
        go_roundg 0
        case measure => omega
        case rel => exact Or.inr ⟨rfl, rfl, by rw [He1.out]; exact ho6, HF6⟩
      · have HF : Hid (OutG v w u0 wr) := hF
        have HV : Hid (OutV B wr u0 (l ++ [UInt8.ofNat r])) := by unfold Hid OutV; rw [List.length_append]; exact hown
        have hBr : B ≤ wr.heap.size := Nat.le_trans hB hF.chg.size
        have hgt2 : ¬ ((q : Int) > 127) := by omega
        have HO : Hid (∀ o, (wr.alloc o).ownsRow B 5 1 u0 (l.length + 1) (bsV (l ++ [UInt8.ofNat r]))) := fun o => hown.alloc o
        clear hF hown
        go_wp2_with (first | (at_builtin; refine wpList_append_own_at _ rfl (.tmp 16) (.tmp 19) 88 rfl B 5 i0 (.int .u8 0) 1 1 Tryz.underlying88 hi hz0 hz1 hz2 rfl (by decide) _ _ _ rfl (HO.out _) ⟨wr.heap.size, 0, none⟩ 1 1 [.int .u8 (q : Int)] rfl rfl (cell_one_new _ _ _) (by intro u hu; simp at hu; subst hu; rfl) h65 h66 (by simp; omega) ?_; intro v6 w6 ho6 hg6 hn6 hl6; have HF6 := OutG.app hg6 hl6; clear hg6 hl6))
        go_ret
        refine ⟨_, rfl, ?_, HF.out.trans HF6⟩
        unfold OutV
        rw [He2.out, List.length_append, encN_two hs]
        exact ho6
set_option maxHeartbeats 4000000 in
set_option maxRecDepth 100000 in
theorem wdot_loc (B : Nat) (w : World) (v : Value) (l : Thk.Bs) (d : Nat) (h : OutV B w v l) (hB : B ≤ w.heap.size) (hl : l.length ≤ 900000) (hd : who d ≤ 5) :
    Calls Tryz.prog 201 #[v, dotE d] w fun e w' => ∃ v', e = .returned v' ∧ OutV B w' v' (l ++ encD d) ∧ OutG v w v' w' := by
  have hn := nth_lt d
  have He : Hid (l ++ encD d = l ++ encN (who d) ++ encN (nth d)) := by unfold Hid encD; rw [List.append_assoc]
  rw [He.out]
  unfold dotE
  generalize who d = a at *
  generalize nth d = n at *
  have hen := encN_len a
  have H0 : Hid (OutV B (w.alloc (.cells #[.int .i64 (a : Int), .int .i64 (n : Int)] 121)) v l) := World.ownsRow.alloc h _
  have kb := Blk.new w #[.int .i64 (a : Int), .int .i64 (n : Int)] 121
  have HF0 : Hid (OutG v w v (w.alloc (.cells #[.int .i64 (a : Int), .int .i64 (n : Int)] 121))) := OutG.of_below ((Below.refl _ w).alloc (Nat.le_refl _) _)
  clear h
  go_enter Tryz.func201, Tryz.ntmps201
  go_wp2_with fail
  generalize w.alloc (.cells #[.int .i64 (a : Int), .int .i64 (n : Int)] 121) = w0 at *
  have c0 : w0.cell? ⟨w.heap.size, 0, none⟩ = some (.int .i64 (a : Int)) := (kb.cell 0).trans rfl
  have c1 : w0.cell? ⟨w.heap.size, 1, none⟩ = some (.int .i64 (n : Int)) := (kb.cell 1).trans rfl
  have HN : ∀ (m : Nat) (lu : Thk.Bs) wx w3 u, (OutV B w3 u lu ∧ OutG v w u w3 ∧ Blk w3 w.heap.size #[.int .i64 (a : Int), .int .i64 (n : Int)] 121) → lu.length ≤ 1000000 → m < 16384 → wx.heap = w3.heap → wx.os = w3.os → wx.tape = w3.tape → wx.output = w3.output → Calls Tryz.prog 199 #[u, .int .i64 (m : Int)] wx fun e w' => ∃ v', e = .returned v' ∧ (OutV B w' v' (lu ++ encN m) ∧ OutG v w v' w' ∧ Blk w' w.heap.size #[.int .i64 (a : Int), .int .i64 (n : Int)] 121) ∧ w'.cell? ⟨w.heap.size, 0, none⟩ = some (.int .i64 (a : Int)) ∧ w'.cell? ⟨w.heap.size, 1, none⟩ = some (.int .i64 (n : Int)) := fun m lu wx w3 u hall hlu hm hx ho ht hp => by
    obtain ⟨hu, hF, hk⟩ := hall
    have hF' : OutG v w u wx := hF.trans (OutG.heap hx ho ht hp)
    have kx : Blk wx w.heap.size #[.int .i64 (a : Int), .int .i64 (n : Int)] 121 := by unfold Blk; rw [hx]; exact hk
    refine Calls.mono (Number_loc B wx u _ m (hu.heap hx) (Nat.le_trans hB hF'.chg.size) hlu hm) ?_
    rintro e w' ⟨v', rfl, h1, h2⟩
    have kx' := h2.blk (hu.heap hx) kx (by decide)
    exact ⟨v', rfl, ⟨h1, hF'.trans h2, kx'⟩, (kx'.cell 0).trans rfl, (kx'.cell 1).trans rfl⟩
  have HN1 : Hid (∀ wx, wx.heap = w0.heap → wx.os = w0.os → wx.tape = w0.tape → wx.output = w0.output → Calls Tryz.prog 199 #[v, .int .i64 (a : Int)] wx _) := fun wx => HN a l wx w0 v ⟨H0.out, HF0.out, kb⟩ (by omega) (by omega)
  have HN2 : Hid (∀ wx w3 u, (OutV B w3 u (l ++ encN a) ∧ OutG v w u w3 ∧ Blk w3 w.heap.size #[.int .i64 (a : Int), .int .i64 (n : Int)] 121) → wx.heap = w3.heap → wx.os = w3.os → wx.tape = w3.tape → wx.output = w3.output → Calls Tryz.prog 199 #[u, .int .i64 (n : Int)] wx _) := fun wx w3 u hall => HN n _ wx w3 u hall (by simp; omega) (by omega)
  clear kb hen H0 HF0 HN
  go_region_held3 (fun w' => w'.cell? ⟨w.heap.size, 0, none⟩ = some (.int .i64 (a : Int)) ∧ w'.cell? ⟨w.heap.size, 1, none⟩ = some (.int .i64 (n : Int))) (refine ⟨?_, ?_⟩ <;> (first | assumption | exact c0 | exact c1)) (first | (go_at_call 199; refine Calls.mono (HN2.out _ w3 _ h3 rfl rfl rfl rfl) ?_; rintro e w4 ⟨v4, rfl, h4, f0, f1⟩) | (go_at_call 199; refine Calls.mono (HN1.out _ rfl rfl rfl rfl) ?_; rintro e w3 ⟨v3, rfl, h3, e0, e1⟩))
  go_wp2_with fail
  go_ret
  exact ⟨_, rfl, h4.1, h4.2.1⟩

set_option maxHeartbeats 4000000 in
set_option maxRecDepth 100000 in
theorem wText_loc (B : Nat) (w : World) (v : Value) (l : Thk.Bs) (s : ByteArray) (h : OutV B w v l) (hB : B ≤ w.heap.size) (hl : l.length ≤ 900000) (hs : s.size < 16384) :
    Calls Tryz.prog 203 #[v, .string s] w fun e w' => ∃ v', e = .returned v' ∧ OutV B w' v' (l ++ encN s.size ++ toL s) ∧ OutG v w v' w' := by
  obtain ⟨i0, hi, hz0, hz1, hz2⟩ := info_parts Tryz.infoU8
  have hen := encN_len s.size
  have HN : Hid (_) := Number_loc B w v l s.size h hB (by omega) hs
  clear h
  go_enter Tryz.func203, Tryz.ntmps203
  go_wp2_with fail
  refine Calls.mono HN.out ?_
  rintro e w1 ⟨v1, rfl, h1, hF1⟩
  have hB1 : B ≤ w1.heap.size := Nat.le_trans hB hF1.chg.size
  have HV1 : Hid (OutV B w1 v1 (l ++ encN s.size)) := h1
  have HF1 : Hid (OutG v w v1 w1) := hF1
  have h63 : (l ++ encN s.size).length + s.size ≤ maxLen := by unfold maxLen; simp; omega
  have h64 : (l ++ encN s.size).length + s.size ≤ 140737488355328 := by simp; omega
  clear h1 hF1 HN
  go_wp2_with (first | (at_builtin; refine wpList_str_at rfl (.tmp 8) (.tmp 9) 88 9 rfl B 5 i0 Tryz.underlying88 Tryz.underlying9 hi hz0 hz1 hz2 _ _ _ rfl HV1.out s rfl h63 h64 hB1 ?_; intro v6 w6 ho6 hg6 hl6))
  go_ret
  refine ⟨_, rfl, ?_, HF1.out.trans (OutG.app0 hg6 hl6)⟩
  unfold OutV
  rw [bsV_app, ← strCells_bsV, List.length_append]
  exact ho6
end Go.Proofs.YtoiiaankpnhppaaGreatDoor
namespace Go.Proofs.YtoiiaankpnhppaaGreatDoor
open Go.RowKit Go.Maps Go.WideMaps

abbrev RdP (w : World) (rb : Nat) (s : ByteArray) : Prop := Blk w rb #[.string s, .bool false] 246

theorem RdP.set0 {w : World} {rb : Nat} {s : ByteArray} (h : RdP w rb s) (t : ByteArray) : RdP (w.setCell ⟨rb, 0, none⟩ (.string t)) rb t := by
  unfold RdP Blk at h ⊢
  simp [World.setCell, Array.getElem?_modify, h]

set_option maxHeartbeats 4000000 in
set_option maxRecDepth 100000 in
theorem rNumber_any (w : World) (rb : Nat) (s : ByteArray) (n lo hi : Nat) (r : Thk.Bs) (h : RdP w rb s) (hs : toL s = encN n ++ r) (hn : n < 16384) (h1 : lo ≤ n) (h2 : n ≤ hi) (hhi : hi ≤ 1000000000) (hsz : s.size ≤ 1000000000) :
    Calls Tryz.prog 135 #[.pointer (some ⟨rb, 0, none⟩), .int .i64 (lo : Int), .int .i64 (hi : Int)] w fun e w' => ∃ s', e = .returned (.int .i64 (n : Int)) ∧ RdP w' rb s' ∧ toL s' = r ∧ Chg (fun k => k = rb) w w' := by
  have c0 := (h.cell 0).trans rfl
  have c1 := (h.cell 1).trans rfl
  have f0 := h.frozen
  have hl : s.size = (encN n ++ r).length := by rw [← hs]; simp [toL]
  have HK : Hid (RdP w rb s) := h
  by_cases hs1 : n < 128
  · rw [encN_one hs1] at hs hl
    simp at hl
    have h0 : 0 < s.size := by omega
    have hv : (s[0]'h0).toNat = n := by
      have : s[0]'h0 = (toL s)[0]'(by rw [hs]; simp) := rfl
      rw [this]
      simp only [hs]
      simp
      omega
    have hand := low_u8 n (by omega)
    rw [Nat.mod_eq_of_lt hs1] at hand
    have htop := top_u8 n (by omega)
    rw [if_pos hs1] at htop
    have hor := or_zero n (by omega)
    have Hr : Hid (toL (s.extract 1 (r.length + 1)) = r) := by
      unfold Hid
      rw [toL_extract, hs, List.take_of_length_le (by simp)]
      rfl
    clear hs h
    go_enter Tryz.func135, Tryz.ntmps135
    go_wp2_with fail
    go_loopg [7, 8] 1 (fun g v7 v8 wx => g = 1 ∧ v7 = .int .i64 0 ∧ v8 = .int .i64 0 ∧ wx = w)
    case atStart => exact ⟨rfl, rfl, rfl, rfl⟩
    case round =>
      obtain ⟨hg, rfl, rfl, rfl⟩ := hrel
      go_wp2_with fail
      go_ret
      refine ⟨_, rfl, HK.out.set0 _, Hr.out, (Chg.refl (fun k => k = rb) wr).setCell (p := ⟨rb, 0, none⟩) rfl _⟩
  · rw [encN_two hs1] at hs hl
    simp at hl
    have h0 : 0 < s.size := by omega
    have h1' : 1 < s.size := by omega
    obtain ⟨b0, hb0⟩ : ∃ b, n % 128 + 128 = b := ⟨_, rfl⟩
    obtain ⟨b1, hb1⟩ : ∃ b, n / 128 = b := ⟨_, rfl⟩
    obtain ⟨q, hq⟩ : ∃ q, n % 128 = q := ⟨_, rfl⟩
    have hv0 : (s[0]'h0).toNat = b0 := by
      have : s[0]'h0 = (toL s)[0]'(by rw [hs]; simp) := rfl
      rw [this]
      simp only [hs]
      simp
      omega
    have hv1 : (s[1]'h1').toNat = b1 := by
      have : s[1]'h1' = (toL s)[1]'(by rw [hs]; simp) := rfl
      rw [this]
      simp only [hs]
      simp
      omega
    have hand0 : bits .and .u8 (b0 : Int) 127 = (q : Int) := by
      have := low_u8 b0 (by omega)
      rw [this, ← hb0, ← hq]; omega
    have htop0 : bits .and .u8 (b0 : Int) 128 = 128 := by
      have := top_u8 b0 (by omega)
      rw [if_neg (by omega)] at this
      exact this
    have hor0 := or_zero q (by omega)
    have hand1 : bits .and .u8 (b1 : Int) 127 = (b1 : Int) := by
      have := low_u8 b1 (by omega)
      rw [Nat.mod_eq_of_lt (by omega)] at this
      exact this
    have htop1 : bits .and .u8 (b1 : Int) 128 = 0 := by
      have := top_u8 b1 (by omega)
      rw [if_pos (by omega)] at this
      exact this
    have hor1 : bits .or .i64 (q : Int) ((b1 : Int) * 128) = (n : Int) := by
      have := or_i64 q b1 (by omega) (by omega)
      rw [show ((b1 : Int) * 128) = ((b1 * 128 : Nat) : Int) by omega, this]
      omega
    have hq128 : q < 128 := by omega
    have hb1128 : b1 < 128 := by omega
    have Hr : Hid (toL (s.extract 2 (r.length + 1 + 1)) = r) := by
      unfold Hid
      rw [toL_extract, hs, List.take_of_length_le (by simp)]
      rfl
    clear hs h hb0 hb1 hq
    go_enter Tryz.func135, Tryz.ntmps135
    go_wp2_with fail
    go_loopg [7, 8] 1 (fun g v7 v8 wx => ((g = 1 ∧ v7 = .int .i64 0 ∧ v8 = .int .i64 0) ∨ (g = 0 ∧ v7 = .int .i64 (q : Int) ∧ v8 = .int .i64 1)) ∧ wx = w)
    case atStart => exact ⟨Or.inl ⟨rfl, rfl, rfl⟩, rfl⟩
    case round =>
      obtain ⟨⟨hg, rfl, rfl⟩ | ⟨hg, rfl, rfl⟩, rfl⟩ := hrel
      · go_wp2_with fail
        go_roundg 0
        case measure => omega
        case rel => exact ⟨Or.inr ⟨rfl, rfl, rfl⟩, rfl⟩
      · go_wp2_with fail
        go_ret
        refine ⟨_, rfl, HK.out.set0 _, Hr.out, (Chg.refl (fun k => k = rb) wr).setCell (p := ⟨rb, 0, none⟩) rfl _⟩

set_option maxHeartbeats 4000000 in
set_option maxRecDepth 100000 in
theorem rText_any (w : World) (rb : Nat) (s : ByteArray) (t r : Thk.Bs) (h : RdP w rb s) (hs : toL s = encN t.length ++ t ++ r) (ht : t.length < 16384) (hsz : s.size ≤ 1000000000) :
    Calls Tryz.prog 227 #[.pointer (some ⟨rb, 0, none⟩)] w fun e w' => ∃ u s', e = .returned (.string u) ∧ toL u = t ∧ RdP w' rb s' ∧ toL s' = r ∧ Chg (fun k => k = rb) w w' := by
  have c0 := (h.cell 0).trans rfl
  have hl : s.size = (encN t.length ++ t ++ r).length := by rw [← hs]; simp [toL]
  have HN : Hid (_) := rNumber_any w rb s t.length 0 s.size (t ++ r) h (by rw [hs, List.append_assoc]) ht (Nat.zero_le _) (by rw [hl]; simp; omega) hsz hsz
  clear h hl hs
  go_enter Tryz.func227, Tryz.ntmps227
  go_wp2_with fail
  refine Calls.mono HN.out ?_
  rintro e w1 ⟨s1, rfl, hk, hs1, hch⟩
  have c0 := (hk.cell 0).trans rfl
  have f0 := hk.frozen
  have hl1 : t.length ≤ s1.size := by
    have : s1.size = (toL s1).length := by simp [toL]
    rw [this, hs1]; simp
  have Hu : Hid (toL (s1.extract 0 t.length) = t) := by unfold Hid; rw [toL_take, hs1]; simp
  have Hr : Hid (toL (s1.extract t.length s1.size) = r) := by unfold Hid; rw [toL_drop, hs1]; simp
  have HK : Hid (RdP w1 rb s1 ∧ Chg (fun k => k = rb) w w1) := ⟨hk, hch⟩
  have hi1 : (t.length : Int) ≤ (s1.size : Int) := by omega
  generalize t.length = m at *
  clear HN hk hs1 hch
  go_wp2_with fail
  go_ret
  exact ⟨_, _, rfl, Hu.out, HK.out.1.set0 _, Hr.out, HK.out.2.setCell (p := ⟨rb, 0, none⟩) rfl _⟩

set_option maxHeartbeats 4000000 in
set_option maxRecDepth 100000 in
theorem rdot_any (w : World) (rb : Nat) (s : ByteArray) (d : Nat) (r : Thk.Bs) (h : RdP w rb s) (hs : toL s = encD d ++ r) (hd : who d ≤ 5 ∧ 1 ≤ nth d ∧ nth d ≤ 500) (hsz : s.size ≤ 1000000000) :
    Calls Tryz.prog 182 #[.pointer (some ⟨rb, 0, none⟩)] w fun e w' => ∃ s', e = .returned (dotE d) ∧ RdP w' rb s' ∧ toL s' = r ∧ Chg (fun k => k = rb) w w' := by
  unfold dotE encD at *
  generalize who d = a at *
  generalize nth d = n at *
  have hlt := h.lt
  have HN : Hid (∀ ob, Calls Tryz.prog 135 #[.pointer (some ⟨rb, 0, none⟩), .int .i64 0, .int .i64 5] (w.alloc ob) fun e w' => ∃ s', e = .returned (.int .i64 (a : Int)) ∧ RdP w' rb s' ∧ toL s' = encN n ++ r ∧ Chg (fun k => k = rb) (w.alloc ob) w' ∧ s'.size ≤ 1000000000) := fun ob => by
    refine Calls.mono (rNumber_any (w.alloc ob) rb s a 0 5 (encN n ++ r) (h.alloc ob) (by rw [hs, List.append_assoc]) (by omega) (by omega) (by omega) (by omega) hsz) ?_
    rintro e w' ⟨s', rfl, h1, h2, h3⟩
    refine ⟨s', rfl, h1, h2, h3, ?_⟩
    have e1 : s'.size = (toL s').length := by simp [toL]
    have e2 : s.size = (toL s).length := by simp [toL]
    rw [h2] at e1
    rw [hs] at e2
    simp at e1 e2
    omega
  have HN2 : Hid (∀ w1 s1, RdP w1 rb s1 → toL s1 = encN n ++ r → s1.size ≤ 1000000000 → Calls Tryz.prog 135 #[.pointer (some ⟨rb, 0, none⟩), .int .i64 1, .int .i64 500] w1 fun e w' => ∃ s', e = .returned (.int .i64 (n : Int)) ∧ RdP w' rb s' ∧ toL s' = r ∧ Chg (fun k => k = rb) w1 w') := fun w1 s1 h1 h2 h3 => rNumber_any w1 rb s1 n 1 500 r h1 h2 (by omega) (by omega) (by omega) (by omega) h3
  clear h hs
  go_enter Tryz.func182, Tryz.ntmps182
  go_wp2_with fail
  refine Calls.mono (HN.out _) ?_
  rintro e w1 ⟨s1, rfl, hk1, hs1, hch1, hz1⟩
  have kr1 : Blk w1 w.heap.size #[.int .i64 0, .int .i64 0] 121 := (Blk.new w _ _).chg hch1 (by omega)
  have HC1 : Hid (Chg (fun k => k = rb) w w1) := (Chg.of_below ((Below.refl _ w).alloc (Nat.le_refl _) _) : Chg (fun k => k = rb) w _).trans hch1
  have HN3 : Hid (_) := HN2.out w1 s1 hk1 hs1 hz1
  clear HN HN2 hk1 hs1 hch1
  go_wp2_with fail
  refine Calls.mono HN3.out ?_
  rintro e w2 ⟨s2, rfl, hk2, hs2, hch2⟩
  have kr2 := kr1.chg hch2 (by omega)
  have r0 := (kr2.cell 0).trans rfl
  have r1 := (kr2.cell 1).trans rfl
  have f0 := kr2.frozen
  have HF : Hid (RdP w2 rb s2 ∧ toL s2 = r ∧ Chg (fun k => k = rb) w w2) := ⟨hk2, hs2, HC1.out.trans hch2⟩
  clear kr1 kr2 hk2 hs2 hch2 HN3
  go_wp2_with fail
  refine bodyPost_ret (v := .agg #[.int .i64 (a : Int), .int .i64 (n : Int)]) (by simp [results, Tryz.results182, go_sem, r0, r1, cs_same, cs_oth, World.cell?_setCell_other]) rfl ⟨s2, rfl, ?_, HF.out.2.1, ?_⟩
  · have hc : Chg (fun k => k = w.heap.size) w2 ((w2.setCell ⟨w.heap.size, 0, none⟩ (.int .i64 (a : Int))).setCell ⟨w.heap.size, 1, none⟩ (.int .i64 (n : Int))) := ((Chg.refl (fun k => k = w.heap.size) w2).setCell (p := ⟨w.heap.size, 0, none⟩) rfl _).setCell (p := ⟨w.heap.size, 1, none⟩) rfl _
    exact Blk.chg HF.out.1 hc (by omega)
  · have hc : Chg (fun k => k = w.heap.size) w2 ((w2.setCell ⟨w.heap.size, 0, none⟩ (.int .i64 (a : Int))).setCell ⟨w.heap.size, 1, none⟩ (.int .i64 (n : Int))) := ((Chg.refl (fun k => k = w.heap.size) w2).setCell (p := ⟨w.heap.size, 0, none⟩) rfl _).setCell (p := ⟨w.heap.size, 1, none⟩) rfl _
    have h0 := HF.out.2.2
    exact ⟨hc.os.trans h0.os, hc.tape.trans h0.tape, hc.output.trans h0.output, Nat.le_trans h0.size hc.size, fun k hk hm => (hc.block k (Nat.lt_of_lt_of_le hk h0.size) (by omega)).trans (h0.block k hk hm)⟩

theorem Glob.chg {M : Nat → Prop} {w w' : World} (h : Glob w) (hc : Chg M w w') (hM : ∀ k, M k → 3 < k) : Glob w' := by
  have hb : Below 4 w w' := ⟨hc.os, hc.tape, hc.output, hc.size, fun k hk => hc.block k (by have := h.size; omega) (fun hm => by have := hM k hm; omega)⟩
  obtain ⟨⟨m, h1⟩, ⟨e1, h2, h2'⟩, ⟨e2, h3, h3'⟩, h4, h5⟩ := h
  refine ⟨⟨m, (hb.cell (p := ⟨0, 0, none⟩) (by decide)).trans h1⟩, ⟨e1, (hb.cell (p := ⟨1, 0, none⟩) (by decide)).trans h2, h2'⟩, ⟨e2, (hb.cell (p := ⟨2, 0, none⟩) (by decide)).trans h3, h3'⟩, ?_, Nat.lt_of_lt_of_le h5 hb.size⟩
  exact var?_below (g := 3) hb (by kernel_rfl) (by decide) h4

set_option maxHeartbeats 4000000 in
set_option maxRecDepth 100000 in
theorem rEffect_any (w : World) (hG : Glob w) (rb : Nat) (hrb : 3 < rb) (s : ByteArray) (t r : Thk.Bs) (c : Thk.Ch) (h : RdP w rb s) (hs : toL s = encN t.length ++ t ++ r) (ht : t.length < 16384) (hsz : s.size ≤ 1000000000) (hc : Thk.read t = .inr c) (he : effB c.act = true) :
    Calls Tryz.prog 184 #[.pointer (some ⟨rb, 0, none⟩)] w fun e w' => ∃ s', e = .returned (chV c) ∧ RdP w' rb s' ∧ toL s' = r ∧ Chg (fun k => k = rb) w w' := by
  have hlt := h.lt
  have HT : Hid (∀ ob, Calls Tryz.prog 227 #[.pointer (some ⟨rb, 0, none⟩)] (w.alloc ob) fun e w' => ∃ u s', e = .returned (.string u) ∧ (toL u = t ∧ RdP w' rb s' ∧ toL s' = r) ∧ Chg (fun k => k = rb) (w.alloc ob) w' ∧ Glob w') := fun ob => by
    have hb : Below w.heap.size w (w.alloc ob) := (Below.refl _ w).alloc (Nat.le_refl _) _
    refine Calls.mono (rText_any (w.alloc ob) rb s t r (h.alloc ob) hs ht hsz) ?_
    rintro e w' ⟨u, s', rfl, h1, h2, h3, h4⟩
    exact ⟨u, s', rfl, ⟨h1, h2, h3⟩, h4, (hG.mono hb).chg h4 (fun k hk => by subst hk; exact hrb)⟩
  clear h hs hG
  go_enter Tryz.func184, Tryz.ntmps184
  go_wp2_with fail
  refine Calls.mono (HT.out _) ?_
  rintro e w1 ⟨u, s1, rfl, hR1, hch1, hG1⟩
  have kr1 : Blk w1 w.heap.size #[.string ⟨#[]⟩, .int .u8 0, .string ⟨#[]⟩, .int .i64 0] 81 := (Blk.new w _ _).chg hch1 (by omega)
  have hu : u.size ≤ 1048576 := by
    have : u.size = (toL u).length := by simp [toL]
    rw [this, hR1.1]; omega
  have Hrd : Hid (_) := ProgRead_any u w1 hu hG1
  have HR1 : Hid (RdP w1 rb s1 ∧ toL s1 = r ∧ Chg (fun k => k = rb) w w1) := ⟨hR1.2.1, hR1.2.2, (Chg.of_below ((Below.refl _ w).alloc (Nat.le_refl _) _) : Chg (fun k => k = rb) w _).trans hch1⟩
  rw [hR1.1, hc] at Hrd
  unfold readV at Hrd
  unfold chV at *
  clear HT hR1 hch1 hG1 hc
  go_wp2_with fail
  refine Calls.mono Hrd.out ?_
  rintro e w2 ⟨rfl, hb2⟩
  have kr2 := kr1.below hb2
  have HR2 : Hid (RdP w2 rb s1 ∧ toL s1 = r ∧ Chg (fun k => k = rb) w w2) := ⟨HR1.out.1.below hb2, HR1.out.2.1, HR1.out.2.2.below hb2⟩
  have hl2 : w.heap.size < w2.heap.size := kr2.lt
  have r0 := (kr2.cell 0).trans rfl
  have r1 := (kr2.cell 1).trans rfl
  have r2 := (kr2.cell 2).trans rfl
  have r3 := (kr2.cell 3).trans rfl
  have f0 := kr2.frozen
  have HE : Hid (∀ wx, Calls Tryz.prog 72 #[.agg #[.string ⟨c.path.toArray⟩, .int .u8 (c.act.toNat : Int), .string (keptVal c.act ⟨c.val.toArray⟩), .int .i64 c.n]] wx fun e w' => e = .returned (.bool true) ∧ Below wx.heap.size wx w') := fun wx => by
    have := IsEffect_any ⟨c.path.toArray⟩ c.act (keptVal c.act ⟨c.val.toArray⟩) c.n wx
    rw [he] at this
    exact this
  have kc := Blk.new w2 #[.string ⟨c.path.toArray⟩, .int .u8 (c.act.toNat : Int), .string (keptVal c.act ⟨c.val.toArray⟩), .int .i64 c.n] 81
  have hb3 : Below w2.heap.size w2 (w2.alloc (.cells #[.string ⟨c.path.toArray⟩, .int .u8 (c.act.toNat : Int), .string (keptVal c.act ⟨c.val.toArray⟩), .int .i64 c.n] 81)) := (Below.refl _ w2).alloc (Nat.le_refl _) _
  have HR3 : Hid (RdP w2 rb s1 ∧ toL s1 = r ∧ Chg (fun k => k = rb) w w2) := HR2.out
  clear kr1 hb2 Hrd HR1 he
  go_wp2_with fail
  generalize w2.alloc (.cells #[.string ⟨c.path.toArray⟩, .int .u8 (c.act.toNat : Int), .string (keptVal c.act ⟨c.val.toArray⟩), .int .i64 c.n] 81) = w3 at *
  refine Calls.mono (HE.out _) ?_
  rintro e w4 ⟨rfl, hb4⟩
  have kc4 := kc.below hb4
  have g0 := (kc4.cell 0).trans rfl
  have g1 := (kc4.cell 1).trans rfl
  have g2 := (kc4.cell 2).trans rfl
  have g3 := (kc4.cell 3).trans rfl
  have hb24 : Below w2.heap.size w2 w4 := hb3.trans (hb4.mono hb3.size)
  have kr4 := kr2.below hb24
  have r0 := (kr4.cell 0).trans rfl
  have r1 := (kr4.cell 1).trans rfl
  have r2 := (kr4.cell 2).trans rfl
  have r3 := (kr4.cell 3).trans rfl
  have f0 := kr4.frozen
  have HR4 : Hid (RdP w4 rb s1 ∧ toL s1 = r ∧ Chg (fun k => k = rb) w w4) := ⟨HR3.out.1.below hb24, HR3.out.2.1, HR3.out.2.2.below hb24⟩
  clear kc kc4 hb3 hb4 hb24 kr2 kr4 HE HR2 HR3
  go_wp2_with fail
  have hc : Chg (fun k => k = w.heap.size) w4 ((((w4.setCell ⟨w.heap.size, 0, none⟩ (.string ⟨c.path.toArray⟩)).setCell ⟨w.heap.size, 1, none⟩ (.int .u8 (c.act.toNat : Int))).setCell ⟨w.heap.size, 2, none⟩ (.string (keptVal c.act ⟨c.val.toArray⟩))).setCell ⟨w.heap.size, 3, none⟩ (.int .i64 c.n)) := ((((Chg.refl (fun k => k = w.heap.size) w4).setCell (p := ⟨w.heap.size, 0, none⟩) rfl _).setCell (p := ⟨w.heap.size, 1, none⟩) rfl _).setCell (p := ⟨w.heap.size, 2, none⟩) rfl _).setCell (p := ⟨w.heap.size, 3, none⟩) rfl _
  refine bodyPost_ret (v := .agg #[.string ⟨c.path.toArray⟩, .int .u8 (c.act.toNat : Int), .string (keptVal c.act ⟨c.val.toArray⟩), .int .i64 c.n]) (by simp [results, Tryz.results184, go_sem, r0, r1, r2, r3, cs_same, cs_oth, World.cell?_setCell_other]) rfl ⟨s1, rfl, ?_, HR4.out.2.1, ?_⟩
  · exact Blk.chg HR4.out.1 hc (by omega)
  · have h0 := HR4.out.2.2
    exact ⟨hc.os.trans h0.os, hc.tape.trans h0.tape, hc.output.trans h0.output, Nat.le_trans h0.size hc.size, fun k hk hm => (hc.block k (Nat.lt_of_lt_of_le hk h0.size) (by omega)).trans (h0.block k hk hm)⟩

set_option maxHeartbeats 1000000 in
theorem NewReader_any (w : World) (s : ByteArray) : Calls Tryz.prog 134 #[.string s] w fun e w' => e = .returned (.pointer (some ⟨w.heap.size, 0, none⟩)) ∧ w' = w.alloc (.cells #[.string s, .bool false] 246) := by
  go_enter Tryz.func134, Tryz.ntmps134
  go_wp2
  go_ret
  exact ⟨rfl, rfl⟩
set_option maxHeartbeats 1000000 in
theorem AtEnd_any (w : World) (rb : Nat) (s : ByteArray) (h : RdP w rb s) (hs : toL s = []) : Calls Tryz.prog 137 #[.pointer (some ⟨rb, 0, none⟩)] w fun e w' => e = .returned (.bool true) ∧ w' = w := by
  have hs' : s = ⟨#[]⟩ := toL_inj hs
  subst hs'
  have c0 := (h.cell 0).trans rfl
  have c1 := (h.cell 1).trans rfl
  clear h hs
  go_enter Tryz.func137, Tryz.ntmps137
  go_wp2
  go_ret
  exact ⟨rfl, rfl⟩
end Go.Proofs.YtoiiaankpnhppaaGreatDoor

