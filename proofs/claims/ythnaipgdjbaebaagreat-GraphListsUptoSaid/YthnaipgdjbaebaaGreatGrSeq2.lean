/- The iterator over all properties of a graph: its contract. -/
import Derived.Test.YthnaipgdjbaebaaGreatGrSeq
namespace Go.Proofs.YthnaipgdjbaebaaGreat
open Go.RowKit Go.Shelf
set_option linter.unusedVariables false
attribute [local go_sem] Oper.semAt_some

/-- a node and a relationship, with the places of their lists -/
structure NEl (W0 : World) (B : Nat) where
  id : Int
  AL : Option Addr
  nl : Nat
  cL : Nat
  AP : Option Addr
  cP : Nat
  ps : List (Pel W0 B)
structure REl (W0 : World) (B : Nat) where
  id : Int
  typ : ByteArray
  src : Int
  dst : Int
  AP : Option Addr
  cP : Nat
  ps : List (Pel W0 B)
def NElsAt {W0 : World} {B : Nat} (W : World) (A : Option Addr) (E : List (NEl W0 B)) : Prop :=
  ∀ k e, E[k]? = some e → ∃ b off, A = some ⟨b, off, none⟩ ∧ b < B ∧ CellsAt W b (off + k * 3) #[.int .i64 e.id, .slice e.AL e.nl e.cL, .slice e.AP e.ps.length e.cP] ∧ PelsAt W e.AP e.ps ∧ e.ps.length ≤ 140737488351232
def RElsAt {W0 : World} {B : Nat} (W : World) (A : Option Addr) (E : List (REl W0 B)) : Prop :=
  ∀ k e, E[k]? = some e → ∃ b off, A = some ⟨b, off, none⟩ ∧ b < B ∧ CellsAt W b (off + k * 5) #[.int .i64 e.id, .string e.typ, .int .i64 e.src, .int .i64 e.dst, .slice e.AP e.ps.length e.cP] ∧ PelsAt W e.AP e.ps ∧ e.ps.length ≤ 140737488351232
theorem NElsAt.below {W0 : World} {B : Nat} {W W' : World} {A : Option Addr} {E : List (NEl W0 B)} (h : NElsAt W A E) (hb : Below B W W') : NElsAt W' A E := fun k e he => by
  obtain ⟨b, off, e1, h1, h2, h3, h4⟩ := h k e he
  exact ⟨b, off, e1, h1, h2.below hb h1, h3.below hb, h4⟩
theorem RElsAt.below {W0 : World} {B : Nat} {W W' : World} {A : Option Addr} {E : List (REl W0 B)} (h : RElsAt W A E) (hb : Below B W W') : RElsAt W' A E := fun k e he => by
  obtain ⟨b, off, e1, h1, h2, h3, h4⟩ := h k e he
  exact ⟨b, off, e1, h1, h2.below hb h1, h3.below hb, h4⟩
/-- all properties, in the iterator's order -/
def allN {W0 : World} {B : Nat} (E : List (NEl W0 B)) : List (Pel W0 B) := E.flatMap (·.ps)
def allR {W0 : World} {B : Nat} (E : List (REl W0 B)) : List (Pel W0 B) := E.flatMap (·.ps)
theorem allN_take {W0 : World} {B : Nat} {E : List (NEl W0 B)} {k : Nat} {e : NEl W0 B} (h : E[k]? = some e) : allN (E.take (k + 1)) = allN (E.take k) ++ e.ps ∧ (allN (E.take k)).length + e.ps.length ≤ (allN E).length ∧ (∀ q, q <+: e.ps → allN (E.take k) ++ q <+: allN E) := by
  obtain ⟨hk, he⟩ := List.getElem?_eq_some_iff.1 h
  have h1 : allN (E.take (k + 1)) = allN (E.take k) ++ e.ps := by
    unfold allN
    rw [List.take_succ_eq_append_getElem hk, he, List.flatMap_append]
    simp
  have h2 : allN E = allN (E.take (k + 1)) ++ allN (E.drop (k + 1)) := by
    unfold allN
    rw [← List.flatMap_append, List.take_append_drop]
  refine ⟨h1, ?_, fun q ⟨t, ht⟩ => ⟨t ++ allN (E.drop (k + 1)), ?_⟩⟩
  · rw [h2, h1]; simp
  · rw [h2, h1, ← ht]; simp
theorem allR_take {W0 : World} {B : Nat} {E : List (REl W0 B)} {k : Nat} {e : REl W0 B} (h : E[k]? = some e) : allR (E.take (k + 1)) = allR (E.take k) ++ e.ps ∧ (allR (E.take k)).length + e.ps.length ≤ (allR E).length ∧ (∀ q, q <+: e.ps → allR (E.take k) ++ q <+: allR E) := by
  obtain ⟨hk, he⟩ := List.getElem?_eq_some_iff.1 h
  have h1 : allR (E.take (k + 1)) = allR (E.take k) ++ e.ps := by
    unfold allR
    rw [List.take_succ_eq_append_getElem hk, he, List.flatMap_append]
    simp
  have h2 : allR E = allR (E.take (k + 1)) ++ allR (E.drop (k + 1)) := by
    unfold allR
    rw [← List.flatMap_append, List.take_append_drop]
  refine ⟨h1, ?_, fun q ⟨t, ht⟩ => ⟨t ++ allR (E.drop (k + 1)), ?_⟩⟩
  · rw [h2, h1]; simp
  · rw [h2, h1, ← ht]; simp

set_option maxRecDepth 100000 in
set_option maxHeartbeats 2000000 in
theorem props_in {W0 : World} {B : Nat} (F : Fence) (hd : F.depth = none) (h81 : F.fn 81) (h82 : F.fn 82) (hro : F.round = none) (l n₀ Bg : Nat) (J Jx : List (Pel W0 B) → World → Prop) (hJ : ∀ s W o, J s W → J s (W.alloc o))
    (EN : List (NEl W0 B)) (ER : List (REl W0 B))
    (hY : ∀ m pre x W, J pre W → pre.length < (allN EN ++ allR ER).length → YieldAt F m Tryz.prog l (encP x) W fun e W' =>
      (e = .returned (.bool true) ∧ J (pre ++ [x]) W' ∧ KB n₀ Bg W W') ∨ (e = .returned (.bool false) ∧ Jx (pre ++ [x]) W'))
    (n : Nat) (A A' : Option Addr) (c c' : Nat) (W : World) (hN : NElsAt W A EN) (hR : RElsAt W A' ER) (hB : B ≤ n₀) (hgs : Bg < W.heap.size) (hn0 : n₀ ≤ W.heap.size) (h0 : J [] W)
    (hc0 : W.cell? ⟨Bg, 0, none⟩ = some (.slice A EN.length c)) (hc1 : W.cell? ⟨Bg, 1, none⟩ = some (.slice A' ER.length c')) (hl : EN.length ≤ 140737488351232) (hl' : ER.length ≤ 140737488351232) :
    CallsIn F n Tryz.prog 81 #[.func (.yield l) #[] #[], .pointer (some ⟨Bg, 0, none⟩)] W fun e W' => (∃ v, e = .returned v) ∧
      ((∃ ys, ys = allN EN ++ allR ER ∧ J ys W') ∨ (∃ pre, pre <+: allN EN ++ allR ER ∧ Jx pre W')) := by
  have hdd : ∀ k : Nat, (F.depth.isSome = true → 1 ≤ k) := fun k h => by rw [hd] at h; cases h
  have HN := Lib.hid hN
  have HR := Lib.hid hR
  have HC1 := Lib.hid hc1
  clear hN hR hc1
  refine callsIn_of_wp Tryz.func81 rfl h81 ?_ hro
  simp only [Tryz.ntmps81, List.size_toArray, List.length_cons, List.length_nil, Nat.reduceAdd, Nat.reduceSub, Array.replicate_succ, Array.replicate_zero, List.push_toArray, List.append_toArray, List.nil_append, List.cons_append]
  gi_wp2
  gi_loopw [10] (fun i wr => ∃ k : Nat, k ≤ EN.length ∧ i = .int .i64 k ∧ J (allN (EN.take k)) wr ∧ KB n₀ Bg W wr)
    (fun i _ => EN.length - (intOf i).toNat)
  case atStart => exact ⟨0, Nat.zero_le _, rfl, by simpa [allN] using h0, KB.refl _ _ _⟩
  case round =>
    obtain ⟨k, hk, rfl, hJs, hnx⟩ := hrel
    have hsz := hnx.bel.size
    by_cases hlt : k < EN.length
    · obtain ⟨e, hxx⟩ : ∃ e, EN[k]? = some e := ⟨_, List.getElem?_eq_getElem hlt⟩
      obtain ⟨b, off, rfl, hbB, hc, hps, hpl⟩ := (HN.out.below (hnx.bel.mono hB)) k e hxx
      obtain ⟨t1, t2, t3⟩ := allN_take hxx
      have q0 : wr.cell? ⟨b, off + k * 3, none⟩ = some (.int .i64 e.id) := hc 0 _ rfl
      have q1 : wr.cell? ⟨b, off + k * 3 + 1, none⟩ = some (.slice e.AL e.nl e.cL) := hc 1 _ rfl
      have q2 : wr.cell? ⟨b, off + k * 3 + 2, none⟩ = some (.slice e.AP e.ps.length e.cP) := hc 2 _ rfl
      have hba := hnx.alloc (by omega) (by omega) (.cells #[.int .i64 e.id, .slice e.AL e.nl e.cL, .slice e.AP e.ps.length e.cP] 40)
      have hbr : Below B wr (wr.alloc (.cells #[.int .i64 e.id, .slice e.AL e.nl e.cL, .slice e.AP e.ps.length e.cP] 40)) := ((Below.refl _ _).alloc (by omega) _)
      have HY := Lib.hid (yieldAll_in F hd h82 hro l n₀ Bg (allN EN ++ allR ER).length J Jx hJ hY (n - 1) e.AP e.cP e.ps (allN (EN.take k)) _ (hps.below hbr) hB (by simp; omega) (by simp; omega) (hJ _ _ (.cells #[.int .i64 e.id, .slice e.AL e.nl e.cL, .slice e.AP e.ps.length e.cP] 40) hJs) (by rw [List.length_append]; omega) hpl)
      have T1 := Lib.hid t1
      have T3 := Lib.hid t3
      clear hc hps t1 t3 hxx hbr t2
      gi_wp2_with fail
      refine HY.out.mono ?_
      rintro e2 W3 (⟨rfl, hJ3, hk3⟩ | ⟨rfl, q, hq, hJx3⟩)
      · have hb3 := hba.trans hk3
        rw [← T1.out] at hJ3
        clear hk3 q0 q1 q2
        gi_wp2
        go_roundw
        case rel => exact ⟨k + 1, by omega, by go_num, hJ3, hb3⟩
        case measure => simp [intOf]; omega
      · clear q0 q1 q2
        gi_wp2
        refine bodyPost_ret (results_none rfl _ _ _) rfl ?_
        exact ⟨⟨_, rfl⟩, .inr ⟨_, (T3.out q hq).trans (List.prefix_append _ _), hJx3⟩⟩
    · obtain rfl : k = EN.length := by omega
      rw [List.take_length] at hJs
      obtain ⟨wo, rfl⟩ : ∃ wo : World, wo = wr := ⟨_, rfl⟩
      have hc1 := (World.cell?_of_block (w := W) (a := ⟨Bg, 1, none⟩) hnx.keep).trans HC1.out
      gi_wp2
      gi_loopw [23] (fun i wr => ∃ k : Nat, k ≤ ER.length ∧ i = .int .i64 k ∧ J (allN EN ++ allR (ER.take k)) wr ∧ KB n₀ Bg W wr)
        (fun i _ => ER.length - (intOf i).toNat)
      case atStart => exact ⟨0, Nat.zero_le _, rfl, by simpa [allR] using hJs, hnx⟩
      case round =>
        obtain ⟨k, hk, rfl, hJs2, hnx2⟩ := hrel
        have hsz2 := hnx2.bel.size
        clear hJs hnx hc1 hc0
        by_cases hlt : k < ER.length
        · obtain ⟨e, hxx⟩ : ∃ e, ER[k]? = some e := ⟨_, List.getElem?_eq_getElem hlt⟩
          obtain ⟨b, off, rfl, hbB, hc, hps, hpl⟩ := (HR.out.below (hnx2.bel.mono hB)) k e hxx
          obtain ⟨t1, t2, t3⟩ := allR_take hxx
          have q0 : wr.cell? ⟨b, off + k * 5, none⟩ = some (.int .i64 e.id) := hc 0 _ rfl
          have q1 : wr.cell? ⟨b, off + k * 5 + 1, none⟩ = some (.string e.typ) := hc 1 _ rfl
          have q2 : wr.cell? ⟨b, off + k * 5 + 2, none⟩ = some (.int .i64 e.src) := hc 2 _ rfl
          have q3 : wr.cell? ⟨b, off + k * 5 + 3, none⟩ = some (.int .i64 e.dst) := hc 3 _ rfl
          have q4 : wr.cell? ⟨b, off + k * 5 + 4, none⟩ = some (.slice e.AP e.ps.length e.cP) := hc 4 _ rfl
          have hba := hnx2.alloc (by omega) (by omega) (.cells #[.int .i64 e.id, .string e.typ, .int .i64 e.src, .int .i64 e.dst, .slice e.AP e.ps.length e.cP] 47)
          have hbr : Below B wr (wr.alloc (.cells #[.int .i64 e.id, .string e.typ, .int .i64 e.src, .int .i64 e.dst, .slice e.AP e.ps.length e.cP] 47)) := ((Below.refl _ _).alloc (by omega) _)
          have HY := Lib.hid (yieldAll_in F hd h82 hro l n₀ Bg (allN EN ++ allR ER).length J Jx hJ hY (n - 1) e.AP e.cP e.ps (allN EN ++ allR (ER.take k)) _ (hps.below hbr) hB (by simp; omega) (by simp; omega) (hJ _ _ (.cells #[.int .i64 e.id, .string e.typ, .int .i64 e.src, .int .i64 e.dst, .slice e.AP e.ps.length e.cP] 47) hJs2) (by rw [List.length_append, List.length_append]; omega) hpl)
          have T1 := Lib.hid t1
          have T3 := Lib.hid t3
          clear hc hps t1 t3 hxx hbr t2
          gi_wp2_with fail
          refine HY.out.mono ?_
          rintro e2 W3 (⟨rfl, hJ3, hk3⟩ | ⟨rfl, q, hq, hJx3⟩)
          · have hb3 := hba.trans hk3
            rw [List.append_assoc, ← T1.out] at hJ3
            clear hk3 q0 q1 q2 q3 q4
            gi_wp2
            go_roundw
            case rel => exact ⟨k + 1, by omega, by go_num, hJ3, hb3⟩
            case measure => simp [intOf]; omega
          · clear q0 q1 q2 q3 q4
            gi_wp2
            refine bodyPost_ret (results_none rfl _ _ _) rfl ?_
            exact ⟨⟨_, rfl⟩, .inr ⟨_, by rw [List.append_assoc]; exact (List.prefix_append_right_inj _).2 (T3.out q hq), hJx3⟩⟩
        · obtain rfl : k = ER.length := by omega
          rw [List.take_length] at hJs2
          gi_wp2
          go_end0
          exact ⟨⟨_, rfl⟩, .inl ⟨_, rfl, hJs2⟩⟩

end Go.Proofs.YthnaipgdjbaebaaGreat
