/- strings.Builder at this dump: WriteByte, WriteString, String; what a builder holds. -/
import Derived.Test.YthmgkjfohkadoaaGreatDoorBase
import Derived.Test.YthmgkjfohkadoaaGreatDoorShelf
import Derived.Test.YthmgkjfohkadoaaGreatDoorCsPure
namespace Go.Proofs.YthmgkjfohkadoaaGreatDoor
open Go.RowKit Go.Shelf
set_option linter.unusedVariables false

def ren167 : Go.Shelf.Ren := ⟨fun | 167 => 26 | n => Tryz.lays105_ren.f n, Tryz.lays105_ren.t, Tryz.lays105_ren.g⟩
theorem lays167 : Go.Proofs.Lays.n167 Tryz.prog ren167 := {
  mixed := Tryz.lays105.mixed
  f167 := Tryz.func26.trans (congrArg some (by kernel_rfl))
  f240 := Tryz.func47.trans (congrArg some (by kernel_rfl))
  f276 := Tryz.lays105.f276.trans (congrArg some (by kernel_rfl))
  t0 := Tryz.lays105.t0
  a0 := Tryz.lays105.a0
  z0 := Tryz.lays105.z0
  v0 := Tryz.lays105.v0
  t4 := Tryz.lays105.t4
  a4 := Tryz.lays105.a4
  z4 := Tryz.lays105.z4
  v4 := Tryz.lays105.v4
  t5 := Tryz.lays105.t5
  a5 := Tryz.lays105.a5
  z5 := Tryz.lays105.z5
  v5 := Tryz.lays105.v5
  t9 := Tryz.lays105.t9
  a9 := Tryz.lays105.a9
  z9 := Tryz.lays105.z9
  v9 := Tryz.lays105.v9
  t20 := Tryz.lays105.t20
  a20 := Tryz.lays105.a20
  z20 := Tryz.lays105.z20
  v20 := Tryz.lays105.v20
  t37 := Tryz.lays105.t37
  a37 := Tryz.lays105.a37
  z37 := Tryz.lays105.z37
  v37 := Tryz.lays105.v37
  t70 := Tryz.lays105.t70
  a70 := Tryz.lays105.a70
  z70 := Tryz.lays105.z70
  v70 := Tryz.lays105.v70
  t72 := Tryz.lays105.t72
  a72 := Tryz.lays105.a72
  z72 := Tryz.lays105.z72
  v72 := Tryz.lays105.v72
  t75 := Tryz.lays105.t75
  a75 := Tryz.lays105.a75
  z75 := Tryz.lays105.z75
  v75 := Tryz.lays105.v75
  t164 := Tryz.lays105.t164
  a164 := Tryz.lays105.a164
  z164 := Tryz.lays105.z164
  v164 := Tryz.lays105.v164
}
set_option maxRecDepth 100000 in
theorem extra167 : Builder.Extra Tryz.prog ren167 := {
  sizeBuilder := Tryz.Builder_Extra_105.sizeBuilder
  liesBuilder := Tryz.Builder_Extra_105.liesBuilder
  t5 := Tryz.Builder_Extra_105.t5
  a5 := Tryz.Builder_Extra_105.a5
  z5 := Tryz.Builder_Extra_105.z5
  v5 := Tryz.Builder_Extra_105.v5
  infoByte := Tryz.Builder_Extra_105.infoByte
  cellsByte := Tryz.Builder_Extra_105.cellsByte
  sizeByte := Tryz.Builder_Extra_105.sizeByte
  neB5 := Tryz.Builder_Extra_105.neB5
}
/-- the builder b, made in a world of B blocks or later, holds l -/
def Bd (B b : Nat) (l : Bs) (w : World) : Prop := Lib.IsBuilderF 58 5 B b (Lib.byteCells l) w ∧ B ≤ b
theorem strCells_lS (s : ByteArray) : Lib.strCells s = Lib.byteCells (lS s) := rfl
theorem byteCells_app (a b : Bs) : Lib.byteCells a ++ Lib.byteCells b = Lib.byteCells (a ++ b) := by unfold Lib.byteCells; rw [List.map_append]
theorem byteCells_len (a : Bs) : (Lib.byteCells a).length = a.length := by unfold Lib.byteCells; rw [List.length_map]
theorem Bd.fresh (w : World) (n : Nat) (hn : w.heap.size = n) : Bd n n [] (w.alloc (.cells #[.pointer none, .slice none 0 0] 58)) := by
  subst hn
  refine ⟨.inl ⟨Nat.le_refl _, _, heap_alloc_new w _, World.ownsRowF_of (World.ownsRow_nil _ _ _ _), by simp [Value.ownBlock]⟩, Nat.le_refl _⟩
theorem Bd.lt {B b : Nat} {l : Bs} {w : World} (h : Bd B b l w) : b < w.heap.size := by
  obtain ⟨h | h, _⟩ := h <;> (obtain ⟨_, v, hb, _⟩ := h; exact (Array.getElem?_eq_some_iff.1 hb).1)
/-- nothing below the world's end turns: the builder holds on -/
theorem Bd.below {B b : Nat} {l : Bs} {w w' : World} (h : Bd B b l w) (hb : Below w.heap.size w w') : Bd B b l w' := by
  have key : ∀ p, Lib.BuilderAtF 58 5 B b p (Lib.byteCells l) w → Lib.BuilderAtF 58 5 B b p (Lib.byteCells l) w' := by
    rintro p ⟨hB, v, hk, ho, hn⟩
    have hlt : b < w.heap.size := (Array.getElem?_eq_some_iff.1 hk).1
    refine ⟨hB, v, (hb.block b hlt).trans hk, ?_, hn⟩
    exact ho.kept (row := none) ⟨hb.os, hb.tape, hb.output, hb.size, fun i hi _ => hb.block i hi⟩ (by cases v.ownBlock <;> simp)
  exact ⟨h.1.elim (fun h => .inl (key _ h)) (fun h => .inr (key _ h)), h.2⟩
set_option maxHeartbeats 1000000 in
theorem WriteString_any (B b : Nat) (l : Bs) (s : ByteArray) (w : World) (h : Bd B b l w) (hlen : l.length + s.size ≤ 140737488355328) :
    Calls Tryz.prog 97 #[.pointer (some ⟨b, 0, none⟩), .string s] w fun e w' => e = .returned (.tuple #[.int .i64 s.size, .nilIface]) ∧ Bd B b (l ++ lS s) w' ∧ Below B w w' := by
  have hB : B ≤ w.heap.size := Nat.le_trans h.2 (Nat.le_of_lt h.lt)
  refine (Any.Builder_WriteString_k (ρ := Tryz.lays105_ren) { Tryz.lays105 with } Tryz.Builder_Extra_105 B b (Lib.byteCells l) s w h.1 (by rw [byteCells_len]; exact hlen) hB).mono ?_
  rintro e w' ⟨rfl, h1, h2, -⟩
  refine ⟨rfl, ⟨.inr ?_, h.2⟩, h2⟩
  rw [← byteCells_app]
  exact h1
set_option maxHeartbeats 1000000 in
theorem WriteByte_any (B b : Nat) (l : Bs) (c : UInt8) (w : World) (h : Bd B b l w) (hlen : l.length + 1 ≤ 140737488355328) :
    Calls Tryz.prog 26 #[.pointer (some ⟨b, 0, none⟩), .int .u8 (c.toNat : Int)] w fun e w' => e = .returned .nilIface ∧ Bd B b (l ++ [c]) w' ∧ Below B w w' := by
  have hB : B ≤ w.heap.size := Nat.le_trans h.2 (Nat.le_of_lt h.lt)
  refine (Any.Builder_WriteByte_k (ρ := ren167) lays167 extra167 B b (Lib.byteCells l) (c.toNat : Int) w h.1 (by rw [byteCells_len]; exact hlen) hB).mono ?_
  rintro e w' ⟨rfl, h1, h2, -⟩
  refine ⟨rfl, ⟨.inr ?_, h.2⟩, h2⟩
  rw [← byteCells_app]
  exact h1
theorem BString_any (B b : Nat) (l : Bs) (w : World) (h : Bd B b l w) :
    Calls Tryz.prog 28 #[.pointer (some ⟨b, 0, none⟩)] w fun e w' => e = .returned (.string (mkS l)) ∧ Below B w w' := by
  have hB : B ≤ w.heap.size := Nat.le_trans h.2 (Nat.le_of_lt h.lt)
  refine (Tryz.Builder_String_any_k B b l w h.1 hB).mono ?_
  rintro e w' ⟨rfl, -, h2, -⟩
  exact ⟨rfl, h2⟩
end Go.Proofs.YthmgkjfohkadoaaGreatDoor
