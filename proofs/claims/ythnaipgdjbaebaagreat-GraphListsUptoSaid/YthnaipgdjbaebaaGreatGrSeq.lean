/- The iterator over all properties of a graph. -/
import Derived.RangeFuncNested
import Derived.RangeFuncBound
import Derived.RangeFuncCalls
import Derived.RangeFuncLeaves
import Derived.Shelf.Abstract
import Derived.Shelf.RegionOpen
import Derived.OwnWalkIn
import Derived.TacticsInMore
import Derived.LoopNIn
import Derived.LoopIn
import Derived.Test.YthnaipgdjbaebaaGreatGrRels
namespace Go.Proofs.YthnaipgdjbaebaaGreat
open Go.RowKit Go.Shelf
set_option linter.unusedVariables false
attribute [local go_sem] Oper.semAt_some

/-- a property, with the places of its lists -/
structure PelRaw where
  p : Pv
  A : Option Addr
  c : Nat
  A' : Option Addr
  c' : Nat
/-- .. that reads in the world W0, below block B -/
abbrev Pel (W0 : World) (B : Nat) := { x : PelRaw // RL ivl W0 B x.A x.p.val.ns ∧ RL svl W0 B x.A' x.p.val.ts ∧ Vok x.p.val ∧ x.p.key.size ≤ 140737488351232 }
def encP {W0 : World} {B : Nat} (x : Pel W0 B) : Array Value := #[.agg #[.string x.1.p.key, .int .i64 x.1.p.val.k, .int .i64 x.1.p.val.n, .string x.1.p.val.s, .slice x.1.A x.1.p.val.ns.length x.1.c, .slice x.1.A' x.1.p.val.ts.length x.1.c']]
/-- they stand at A -/
def PelsAt {W0 : World} {B : Nat} (W : World) (A : Option Addr) (xs : List (Pel W0 B)) : Prop :=
  ∀ k x, xs[k]? = some x → ∃ b off, A = some ⟨b, off, none⟩ ∧ b < B ∧ CellsAt W b (off + k * 6) (pcells x.1.p x.1.A x.1.c x.1.A' x.1.c')
theorem PelsAt.below {W0 : World} {B : Nat} {W W' : World} {A : Option Addr} {xs : List (Pel W0 B)} (h : PelsAt W A xs) (hb : Below B W W') : PelsAt W' A xs := fun k x hx => by
  obtain ⟨b, off, e, hlt, hc⟩ := h k x hx
  exact ⟨b, off, e, hlt, hc.below hb hlt⟩

/-- below n₀ nothing turns, and block Bg stays -/
structure KB (n₀ Bg : Nat) (W W' : World) : Prop where
  bel : Below n₀ W W'
  keep : W'.heap[Bg]? = W.heap[Bg]?
theorem KB.refl (n₀ Bg : Nat) (W : World) : KB n₀ Bg W W := ⟨Below.refl _ _, rfl⟩
theorem KB.trans {n₀ Bg : Nat} {A B C : World} (h : KB n₀ Bg A B) (k : KB n₀ Bg B C) : KB n₀ Bg A C := ⟨h.bel.trans k.bel, k.keep.trans h.keep⟩
theorem KB.alloc {n₀ Bg : Nat} {A W : World} (h : KB n₀ Bg A W) (hn : n₀ ≤ W.heap.size) (hg : Bg < W.heap.size) (o : Obj) : KB n₀ Bg A (W.alloc o) := ⟨h.bel.alloc hn o, (Below.heap_alloc W o Bg hg).trans h.keep⟩

theorem RoundIn.anyD {F : Fence} (hd : F.depth = none) {m m' : Nat} {P : Program} {l : Nat} {f : FuncId} {tmps : Array Value} {assign body : Code} {w : World} {R : Ending → World → Prop}
    (h : RoundIn F m P l f tmps assign body w R) : RoundIn F m' P l f tmps assign body w R := ⟨h.1, fun c cs _ => h.2 c cs (fun d h => by rw [hd] at h; cases h)⟩
theorem YieldAt.anyD {F : Fence} (hd : F.depth = none) {m : Nat} (m' : Nat) {P : Program} {l : Nat} {args : Array Value} {W : World} {R : Ending → World → Prop} (h : YieldAt F m P l args W R) : YieldAt F m' P l args W R := by
  obtain ⟨fn, tmps, assign, body, hy, hR⟩ := h
  exact ⟨fn, tmps, assign, body, hy, RoundIn.anyD hd hR⟩

set_option maxRecDepth 100000 in
set_option maxHeartbeats 1000000 in
theorem yieldAll_in {W0 : World} {B : Nat} (F : Fence) (hd : F.depth = none) (h82 : F.fn 82) (hro : F.round = none) (l n₀ Bg N : Nat) (J Jx : List (Pel W0 B) → World → Prop) (hJ : ∀ s W o, J s W → J s (W.alloc o))
    (hY : ∀ m pre x W, J pre W → pre.length < N → YieldAt F m Tryz.prog l (encP x) W fun e W' =>
      (e = .returned (.bool true) ∧ J (pre ++ [x]) W' ∧ KB n₀ Bg W W') ∨ (e = .returned (.bool false) ∧ Jx (pre ++ [x]) W'))
    (n : Nat) (A : Option Addr) (cap : Nat) (xs pre : List (Pel W0 B)) (W : World) (hx : PelsAt W A xs) (hB : B ≤ n₀) (hn0 : n₀ ≤ W.heap.size) (hgs : Bg < W.heap.size) (h0 : J pre W) (hN : pre.length + xs.length ≤ N) (hl : xs.length ≤ 140737488351232) :
    CallsIn F n Tryz.prog 82 #[.slice A xs.length cap, .func (.yield l) #[] #[]] W fun e W' =>
      (e = .returned (.bool true) ∧ J (pre ++ xs) W' ∧ KB n₀ Bg W W') ∨ (e = .returned (.bool false) ∧ ∃ q, q <+: xs ∧ Jx (pre ++ q) W') := by
  refine callsIn_of_wp Tryz.func82 rfl h82 ?_ hro
  simp only [Tryz.ntmps82, List.size_toArray, List.length_cons, List.length_nil, Nat.reduceAdd, Nat.reduceSub, Array.replicate_succ, Array.replicate_zero, List.push_toArray, List.append_toArray, List.nil_append, List.cons_append]
  gi_wp2
  gi_loopw [9] (fun i wr => ∃ k : Nat, k ≤ xs.length ∧ i = .int .i64 k ∧ J (pre ++ xs.take k) wr ∧ KB n₀ Bg W wr)
    (fun i _ => xs.length - (intOf i).toNat)
  case atStart => exact ⟨0, Nat.zero_le _, rfl, by simpa using h0, KB.refl _ _ _⟩
  case round =>
    obtain ⟨k, hk, rfl, hJs, hnx⟩ := hrel
    by_cases hlt : k < xs.length
    · obtain ⟨x, hxx⟩ : ∃ x, xs[k]? = some x := ⟨_, List.getElem?_eq_getElem hlt⟩
      obtain ⟨b, off, rfl, hbB, hc⟩ := (hx.below (hnx.bel.mono hB)) k x hxx
      obtain ⟨q0, q1, q2, q3, q4, q5⟩ := prop_cells hc
      have hsz := hnx.bel.size
      obtain ⟨fn, tmps, assign, body, hy, hR⟩ := hY (n - 1) _ x _ (hJ _ wr (.cells #[.string x.1.p.key, .int .i64 x.1.p.val.k, .int .i64 x.1.p.val.n, .string x.1.p.val.s, .slice x.1.A x.1.p.val.ns.length x.1.c, .slice x.1.A' x.1.p.val.ts.length x.1.c'] 45) hJs) (by rw [List.length_append, List.length_take]; omega)
      unfold encP at hy
      have htk : xs.take (k + 1) = xs.take k ++ [x] := by rw [List.take_succ_eq_append_getElem hlt]; rw [List.getElem?_eq_getElem hlt] at hxx; injection hxx with hxx; rw [hxx]
      have Htk := Lib.hid htk
      have hba := hnx.alloc (by omega) (by omega) (.cells #[.string x.1.p.key, .int .i64 x.1.p.val.k, .int .i64 x.1.p.val.n, .string x.1.p.val.s, .slice x.1.A x.1.p.val.ns.length x.1.c, .slice x.1.A' x.1.p.val.ts.length x.1.c'] 45)
      clear htk hc hxx
      gi_wp2
      refine hR.mono ?_
      rintro e W3 (⟨rfl, hJ3, hk3⟩ | ⟨rfl, hJx3⟩)
      · have hb3 := hba.trans hk3
        have hJ4 : J (pre ++ xs.take (k + 1)) W3 := by rw [Htk.out, ← List.append_assoc]; exact hJ3
        clear hJ3 hk3 hy q0 q1 q2 q3 q4 q5
        gi_wp2
        go_roundw
        case rel => exact ⟨k + 1, by omega, by go_num, hJ4, hb3⟩
        case measure => simp [intOf]; omega
      · clear hy q0 q1 q2 q3 q4 q5
        gi_wp2
        go_ret
        exact .inr ⟨rfl, xs.take (k + 1), List.take_prefix _ _, by rw [Htk.out, ← List.append_assoc]; exact hJx3⟩
    · rw [List.take_of_length_le (by omega)] at hJs
      gi_wp2
      go_ret
      exact .inl ⟨rfl, hJs, hnx⟩

end Go.Proofs.YthnaipgdjbaebaaGreat
