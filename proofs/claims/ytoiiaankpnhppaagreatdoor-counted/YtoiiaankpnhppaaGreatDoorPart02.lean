import Derived.Handy
import Derived.Deep.DeepCutAuto
import Derived.Deep.RegionWith
import Derived.Lib.QuietBelow
import Derived.Test.YtoiiaankpnhppaaGreatDoorPart01
set_option linter.unusedVariables false
set_option linter.unusedSimpArgs false
namespace Go.Proofs.YtoiiaankpnhppaaGreatDoor
open Go.RowKit

def withStep (s : Thk.Bs) (p : List Thk.Bs × Bool) (x : Thk.Bs) : List Thk.Bs × Bool :=
  ((if p.2 = false ∧ (Op.bytesLess s x || s == x) = true then p.1 ++ [s] else p.1) ++ (if x = s then [] else [x]), p.2 || (Op.bytesLess s x || s == x))
def withL (l : List Thk.Bs) (s : Thk.Bs) : List Thk.Bs := if (l.foldl (withStep s) ([], false)).2 then (l.foldl (withStep s) ([], false)).1 else (l.foldl (withStep s) ([], false)).1 ++ [s]

end Go.Proofs.YtoiiaankpnhppaaGreatDoor
namespace Go.Proofs.YtoiiaankpnhppaaGreatDoor
open Go.RowKit Go.Sort

structure Ev where
  p : ByteArray
  a : UInt8
  v : ByteArray
  n : Int
  saw : List Bool

def EvsIn (B : Nat) (w : World) (v : Value) (es : List Ev) : Prop :=
  (v = .slice none 0 0 ∧ es = []) ∨
    ∃ b off cap, v = .slice (some ⟨b, off, none⟩) es.length cap ∧ es.length ≤ cap ∧ b < B ∧ ∀ j (h : j < es.length), ∃ sv,
      w.cell? ⟨b, off + j * 5, none⟩ = some (.string es[j].p) ∧ w.cell? ⟨b, off + j * 5 + 1, none⟩ = some (.int .u8 (es[j].a.toNat : Int)) ∧ w.cell? ⟨b, off + j * 5 + 2, none⟩ = some (.string es[j].v) ∧
      w.cell? ⟨b, off + j * 5 + 3, none⟩ = some (.int .i64 es[j].n) ∧ w.cell? ⟨b, off + j * 5 + 4, none⟩ = some sv ∧ SliceIn B w sv (bools es[j].saw)

def covAt (es : List Ev) (known : List Bool) (k d : Nat) : Bool :=
  match es[d]?, es[k]? with
  | some x, some y => known.getD d false && x.saw.getD k false && covB (toL x.p) x.a (toL x.v) (toL y.p) y.a (toL y.v)
  | _, _ => false
def covTo (es : List Ev) (known : List Bool) (k : Nat) : Nat → Bool
  | 0 => false
  | d + 1 => covTo es known k d || (decide (k < d) && covAt es known k d)
def alive (es : List Ev) (known : List Bool) (k : Nat) : Bool :=
  match es[k]? with
  | some y => effB y.a && known.getD k false && !covTo es known k es.length
  | none => false
def aliveTo (es : List Ev) (known : List Bool) (n : Nat) : List Nat := (List.range n).filter (alive es known)

theorem Tryz.info3 : (Tryz.prog.info? 3).map (fun i => (i.zero, i.size, i.bytes)) = some (some (.int .i64 0), 1, 8) := by kernel_rfl

theorem EvsIn.below {B : Nat} {w w' : World} {v : Value} {es : List Ev} (h : EvsIn B w v es) (hb : Below B w w') : EvsIn B w' v es := by
  rcases h with h | ⟨b, off, cap, h1, h2, h3, h4⟩
  · exact Or.inl h
  · refine Or.inr ⟨b, off, cap, h1, h2, h3, fun j hj => ?_⟩
    obtain ⟨sv, c0, c1, c2, c3, c4, c5⟩ := h4 j hj
    exact ⟨sv, (hb.cell (p := ⟨b, _, none⟩) h3).trans c0, (hb.cell (p := ⟨b, _, none⟩) h3).trans c1, (hb.cell (p := ⟨b, _, none⟩) h3).trans c2, (hb.cell (p := ⟨b, _, none⟩) h3).trans c3, (hb.cell (p := ⟨b, _, none⟩) h3).trans c4, c5.below hb⟩

theorem own_below {w w' : World} {B : Nat} {e : TypeId} {v : Value} {n size : Nat} {xs : List Value} (h : w.ownsRow B e size v n xs) (hb : Below w.heap.size w w') : w'.ownsRow B e size v n xs :=
  h.kept (row := none) ⟨hb.os, hb.tape, hb.output, hb.size, fun k hk _ => hb.block k hk⟩ (by cases h : v.ownBlock <;> simp)
end Go.Proofs.YtoiiaankpnhppaaGreatDoor
namespace Go.Proofs.YtoiiaankpnhppaaGreatDoor
open Go.RowKit

structure TSt where
  l : List Thk.Bs
  sum : Int
  some : Bool
def tstep (k : UInt8) (path : Thk.Bs) (st : TSt) (e : Ev) : TSt :=
  if ((k.toNat : Int) == 109) && Thk.begins (toL e.p) path && !(toL e.p == path) then ⟨withL st.l ((Thk.split 47 ((toL e.p).drop (path.length + 1))).headD []), st.sum, st.some⟩
  else if toL e.p == path then ⟨withL st.l (toL e.v), st.sum + e.n, true⟩ else st
def tellB (k : UInt8) (st : TSt) : Thk.Bs :=
  if (k.toNat : Int) = 102 then (if st.some then [49] else [48]) else if (k.toNat : Int) = 99 then Thk.digits st.sum else Thk.joinTo st.l st.l.length
def tellR (es : List Ev) (al : List Nat) (path : Thk.Bs) : Thk.Bs :=
  tellB (Thk.kindOf path) (al.foldl (fun st j => match es[j]? with | some e => tstep (Thk.kindOf path) path st e | none => st) ⟨[], 0, false⟩)

def tfold (es : List Ev) (k : UInt8) (path : Thk.Bs) (al : List Nat) : TSt := al.foldl (fun st j => match es[j]? with | some e => tstep k path st e | none => st) ⟨[], 0, false⟩
structure EvOk (e : Ev) : Prop where
  p : e.p.size ≤ 20
  v : e.v.size ≤ 20
  n1 : e.n ≤ 1000000000
  n2 : -1000000000 ≤ e.n
  s : e.saw.length ≤ 1000

structure TInv (B : Nat) (w : World) (es : List Ev) (k : UInt8) (path : Thk.Bs) (al : List Nat) (i : Nat) (lv : Value) (sum : Int) (sm : Bool) (wr : World) : Prop where
  below : Below B w wr
  own : ∃ ss : List ByteArray, SliceIn wr.heap.size wr lv (strs ss) ∧ ss.map toL = (tfold es k path (al.take i)).l ∧ ss.length ≤ i ∧ ∀ s ∈ ss, s.size ≤ 1000
  hsum : sum = (tfold es k path (al.take i)).sum
  b1 : sum ≤ 1000000000 * i
  b2 : -(1000000000 * i) ≤ sum
  hsome : sm = (tfold es k path (al.take i)).some

theorem TInv.next {w wr w' : World} {es : List Ev} {k : UInt8} {path : Thk.Bs} {al : List Nat} {i : Nat} {lv : Value} {sum : Int} {sm : Bool} (h : TInv w.heap.size w es k path al i lv sum sm wr)
    (hf : tfold es k path (al.take (i + 1)) = tfold es k path (al.take i)) (hb : Below w.heap.size w w') (hb2 : Below wr.heap.size wr w') : TInv w.heap.size w es k path al (i + 1) lv sum sm w' := by
  obtain ⟨ss, h1, h2, h3, h4⟩ := h.own
  have a := h.b1
  have b := h.b2
  exact ⟨hb, ⟨ss, (h1.below hb2).mono hb2.size, by rw [hf]; exact h2, by omega, h4⟩, by rw [hf]; exact h.hsum, by omega, by omega, by rw [hf]; exact h.hsome⟩

end Go.Proofs.YtoiiaankpnhppaaGreatDoor

