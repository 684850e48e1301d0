/- csv: for the law that goes over Rows: what stands behind the loops. -/
import Derived.Test.YtmdljfpkbfhbdaaDoorCsOwnP
namespace Go.Proofs.YtmdljfpkbfhbdaaDoor
open Go.RowKit
set_option linter.unusedVariables false

set_option linter.unusedSimpArgs false
theorem run_equalInNilFunc {P : Program} {w : World} (n : Nat) {t : TypeId} {f : Fn} {a c : Array Value} {ps rs : Array TypeId} {v : Bool} (hu : P.underlying t = some (.func ps rs v)) : (Op.equalIn (n + 1) t (.func f a c) .nilFunc).run P w = .ok false w := by
  simp [Op.equalIn, run_underlying hu]
theorem run_eqlNilFunc {P : Program} {w : World} {t : TypeId} {f : Fn} {a c : Array Value} {ps rs : Array TypeId} {v : Bool} (hu : P.underlying t = some (.func ps rs v)) : (binOp .eql t (.func f a c) .nilFunc).run P w = .ok (.bool false) w := by
  have h : (Op.equal t (.func f a c) .nilFunc).run P w = .ok false w := run_equalInNilFunc 9999 hu
  show (Op.equal t (.func f a c) .nilFunc >>= fun b => pure (Value.bool b)).run P w = _
  rw [Sem.run_bind, h]
  rfl
theorem results_cell1 {P : Program} {fn : Func} {p : Tmp} {ty : TypeId} (h : fn.results = #[.cell p ty]) (tmps : Array Value) (w : World) {g : Nat} {u : Value} (d : TypeDesc)
    (hu : P.underlying ty = some d) (hd : (match d with | .struct _ | .array _ _ => true | _ => false) = false)
    (hp : tmps.getD p undef = .pointer (some ⟨g, 0, none⟩)) (h1 : w.cell? ⟨g, 0, none⟩ = some u) :
    (results fn tmps).run P w = .ok u w := by
  have e1 := run_loadVar_cell w ty d ⟨g, 0, none⟩ u hu hd h1
  simp only [results, h]
  simp only [Array.getD_eq_getD_getElem?] at hp
  simp [Sem.run_bind, Result.andThen, hp, asAddr, e1]

/-- the records of the loops behind -/
def recD (x : Nat × Nat × Obj) : Ass := RecA x.1 x.2.1 x.2.2
instance stableRecD {x : Nat × Nat × Obj} : Stable (recD x) := inferInstanceAs (Stable (RecA _ _ _))
def markD (x : Nat × Nat × Obj) : Deferred := { target := .collected x.2.1, args := #[] }
theorem leaves_marks {F : Fence} {n : Nat} {P : Program} {fn : Func} {tmps : Array Value} {R : Ending → World → Prop} {S : Fp} {L : List Ass} [Stable (Sep L)] {w0 : World}
    (h : ∀ W, St S L w0 W → LeavesIn F n P fn tmps R [] .returning W) : ∀ (D : List (Nat × Nat × Obj)) (W : World), St S (Sep (D.map recD) :: L) w0 W → LeavesInM F n P fn tmps R (D.map markD) .returning W := by
  intro D
  induction D with
  | nil => exact fun W hs => h W hs.drop
  | cons x D ih =>
    intro W hs
    have h1 : St S (RecA x.1 x.2.1 x.2.2 :: Sep (D.map recD) :: L) w0 W := (St.flat (l' := (x :: D).map recD) hs).map fun F h => Sep.rest (fun F h => Sep.packS h) h
    exact ⟨by simp, .inl ⟨_, _, rfl, run_takeDeferred h1.recAt.2.1, ih _ (h1.recEnd (.deferred none))⟩⟩
theorem St.consD {S : Fp} {L : List Ass} {w0 w : World} {l d : Nat} {o : Obj} {D : List (Nat × Nat × Obj)} (h : St S (RecA l d o :: Sep (D.map recD) :: L) w0 w) : St S (Sep (((l, d, o) :: D).map recD) :: L) w0 w :=
  St.pack (l' := ((l, d, o) :: D).map recD) (h.map fun F h => Sep.rest (fun F h => Sep.flatS h) h)
/-- an operation that its guard leaves out, in a round -/
theorem wpListIn_skipW {l : Nat} {n : Nat} {P : Program} {ops : Array Oper} {Q : Exit → Act → World → Prop} {rest : List Oper} {o : Oper} {a : Act} {w : World} (hw : Region.wanted o (yielded ops a.tmps) = false)
    (h : wpListIn (Fence.wide.inRound l) n P ops Q rest (a.put o.dst undef) w) : wpListIn (Fence.wide.inRound l) n P ops Q (o :: rest) a w := by
  refine wpListIn_step fun K hK => ?_
  rw [if_neg (by rw [hw]; exact Bool.false_ne_true)]
  exact ⟨fun f _ => trivial, hK _ _ h⟩
theorem wpIn_loopK {F : Fence} {n : Nat} {P : Program} {Q : Exit → Act → World → Prop} {a : Act} {w : World} {c : Code} (I : Act → World → Prop) (μ : Act → World → Nat) (h₀ : I a w)
    (round : ∀ a w, I a w → ∀ K : Act → World → Prop, Hid (∀ a' w', I a' w' → μ a' w' < μ a w → K a' w') → c.wpIn F n P (Exit.then K Q) a w) : (Code.loop c).wpIn F n P Q a w :=
  wpIn_loop I μ h₀ fun a w h => round a w h _ (Lib.hid fun _ _ h1 h2 => ⟨h1, h2⟩)
/-- what the law over Rows holds: its result's box, what it wants, and its boxes -/
def goL (w : World) (b : Nat) (s : ByteArray) (A : Option Addr) (c : Nat) (X : List Rq) (E T : Int) : List Ass :=
  [BlkA w.heap.size 4 #[.bool false], RwsA (.slice A X.length c) X, BlkA b 22 #[.slice A X.length c], BlkA (b + 1) 3 #[.int .i64 E], BlkA (b + 1 + 1) 3 #[.int .i64 T], BlkA (w.heap.size + 1) 9 #[.string s]]
instance stableGoL {w : World} {b : Nat} {s : ByteArray} {A : Option Addr} {c : Nat} {X : List Rq} {E T : Int} : Stable (Sep (goL w b s A c X E T)) := by
  unfold goL
  infer_instance
/-- the same in a round: the round's number, and the rows so far -/
def goQ (w : World) (b : Nat) (s : ByteArray) (A : Option Addr) (c : Nat) (X : List Rq) (E T : Int) (g7 g8 r k : Nat) (D : List (Nat × Nat × Obj)) : List Ass :=
  BlkA g8 3 #[.int .i64 (k : Int)] :: BlkA g7 3 #[.int .i64 (r : Int)] :: Sep (D.map recD) :: goL w b s A c X E T
instance stableGoQ {w : World} {b : Nat} {s : ByteArray} {A : Option Addr} {c : Nat} {X : List Rq} {E T : Int} {g7 g8 r k : Nat} {D : List (Nat × Nat × Obj)} : Stable (Sep (goQ w b s A c X E T g7 g8 r k D)) := by
  unfold goQ
  infer_instance
theorem goQ_at {w V : World} {b : Nat} {s : ByteArray} {A : Option Addr} {c : Nat} {X : List Rq} {E T : Int} {g7 g8 r k : Nat} {D : List (Nat × Nat × Obj)} (h : St Zf (goQ w b s A c X E T g7 g8 r k D) w V) :
    (V.cell? ⟨g8, 0, none⟩ = some (.int .i64 (k : Int)) ∧ V.frozen? ⟨g8, 0, none⟩ = false) ∧ V.cell? ⟨g7, 0, none⟩ = some (.int .i64 (r : Int)) ∧ V.cell? ⟨b, 0, none⟩ = some (.slice A X.length c) ∧ V.cell? ⟨b + 1, 0, none⟩ = some (.int .i64 E) ∧ V.cell? ⟨b + 1 + 1, 0, none⟩ = some (.int .i64 T) ∧ V.cell? ⟨w.heap.size + 1, 0, none⟩ = some (.string s) ∧ w.heap.size + 1 < V.heap.size := by
  have b8 := h.blk
  have b7 := h.drop.blk
  have b4 := h.drop.drop.drop.drop.drop.blk
  have b5 := h.drop.drop.drop.drop.drop.drop.blk
  have b6 := h.drop.drop.drop.drop.drop.drop.drop.blk
  have bt := h.drop.drop.drop.drop.drop.drop.drop.drop.blk
  exact ⟨⟨by rw [b8.cell 0]; rfl, b8.frozen 0⟩, by rw [b7.cell 0]; rfl, by rw [b4.cell 0]; rfl, by rw [b5.cell 0]; rfl, by rw [b6.cell 0]; rfl, by rw [bt.cell 0]; rfl, bt.lt⟩
theorem St.rlO {α : Type} {f : α → Value} {S : Fp} {l : List Ass} {w0 w : World} {e : TypeId} {A : Option Addr} {c : Nat} {L : List α} (h : St S (OlA f e (.slice A L.length c) L :: l) w0 w) : RL f w w.heap.size A L := by
  obtain ⟨A3, c3, e3, -, -, r1, -⟩ := h.ol.form
  simp only [Value.slice.injEq] at e3
  obtain ⟨rfl, -, rfl⟩ := e3
  exact r1
/-- the steps of the text, as the law counts them -/
theorem evc_count (l : Bs) : ((evc l).length : Int) = if (csvR l).2 = 0 then ((csvR l).1.length : Int) else ((csvR l).1.length : Int) + 1 := by
  unfold evc
  split <;> simp
theorem evc_at {l : Bs} {pre r : List Evc} {x : Evc} (h : evc l = pre ++ x :: r) :
    (pre.length < (csvR l).1.length ∧ x.2 = 0 ∧ (csvR l).1[pre.length]? = some x.1) ∨ (pre.length = (csvR l).1.length ∧ x.2 = (csvR l).2 ∧ x.1 = [] ∧ (csvR l).2 ≠ 0) := by
  have h1 : (evc l)[pre.length]? = some x := by rw [h]; simp
  unfold evc at h1
  by_cases hk : pre.length < (csvR l).1.length
  · left
    rw [List.getElem?_append_left (by simpa using hk), List.getElem?_map, List.getElem?_eq_getElem hk] at h1
    simp only [Option.map_some, Option.some.injEq] at h1
    subst h1
    exact ⟨hk, rfl, List.getElem?_eq_getElem hk⟩
  · right
    rw [List.getElem?_append_right (by simpa using hk)] at h1
    split at h1
    · simp at h1
    · rename_i h0
      have hk2 := List.getElem?_eq_some_iff.1 h1
      obtain ⟨hlt, he⟩ := hk2
      simp at hlt he
      subst he
      exact ⟨by omega, rfl, rfl, h0⟩
end Go.Proofs.YtmdljfpkbfhbdaaDoor
