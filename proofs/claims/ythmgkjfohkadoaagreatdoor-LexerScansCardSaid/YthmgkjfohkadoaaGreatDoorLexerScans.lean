/- Scan goes over the tokens of any text, and then over the error and its place, as the document's reader finds them; twice, and once ended behind the first step. The library's tables and errors, and the program's own table of marks, stand as the program's text lays them (the card ties them). -/
import Derived.Test.YthmgkjfohkadoaaGreatDoorOpen
import Derived.Test.YthmgkjfohkadoaaGreatDoorCards
import Derived.Test.YthmgkjfohkadoaaGreatDoorTie
import Derived.Deep.DeepHandedRow
import Derived.Lib.LaidTab
import Derived.Test.YthmgkjfohkadoaaGreatDoorLxRef
namespace Go.Proofs.YthmgkjfohkadoaaGreatDoor.lexerScans
open Go.ChangeShapes Go.WideShapes Go.ChangeAt Go.RowKit
open Go.ChangeMaps (open_string shut_string)
set_option linter.unusedVariables false
set_option linter.unusedSimpArgs false

theorem run_equalInNilFunc {P : Program} {w : World} (n : Nat) {t : TypeId} {f : Fn} {a c : Array Value} {ps rs : Array TypeId} {v : Bool} (hu : P.underlying t = some (.func ps rs v)) : (Op.equalIn (n + 1) t (.func f a c) .nilFunc).run P w = .ok false w := by
  simp [Op.equalIn, run_underlying hu]
theorem run_eqlNilFunc {P : Program} {w : World} {t : TypeId} {f : Fn} {a c : Array Value} {ps rs : Array TypeId} {v : Bool} (hu : P.underlying t = some (.func ps rs v)) : (binOp .eql t (.func f a c) .nilFunc).run P w = .ok (.bool false) w := by
  have h : (Op.equal t (.func f a c) .nilFunc).run P w = .ok false w := run_equalInNilFunc 9999 hu
  show (Op.equal t (.func f a c) .nilFunc >>= fun b => pure (Value.bool b)).run P w = _
  rw [Sem.run_bind, h]
  rfl
theorem results_cell1 {P : Program} {fn : Func} {p : Tmp} {ty : TypeId} (h : fn.results = #[.cell p ty]) (tmps : Array Value) (w : World) {g : Nat} {u : Value} (d : TypeDesc)
    (hu : P.underlying ty = some d) (hd : (match d with | .struct _ | .array _ _ => true | _ => false) = false)
    (hp : tmps.getD p undef = .pointer (some ⟨g, 0, none⟩)) (h1 : w.cell? ⟨g, 0, none⟩ = some u) :
    (results fn tmps).run P w = .ok u w := by
  have e1 := run_loadVar_cellL w ty d ⟨g, 0, none⟩ u hu hd h1
  simp only [results, h]
  simp only [Array.getD_eq_getD_getElem?] at hp
  simp [Sem.run_bind, Result.andThen, hp, asAddr, e1]

/-- the records of the loops behind -/
def recD (x : Nat × Nat × Obj) : Ass := RecA x.1 x.2.1 x.2.2
instance stableRecD {x : Nat × Nat × Obj} : Stable (recD x) := inferInstanceAs (Stable (RecA _ _ _))
def markD (x : Nat × Nat × Obj) : Deferred := { target := .collected x.2.1, args := #[] }
theorem Sep.packS {l l' : List Ass} {w : World} {F : Fp} (h : Sep (l' ++ l) w F) : Sep (Sep l' :: l) w F := by
  obtain ⟨G, H, h1, h2, h3, e⟩ := Sep.split h
  exact ⟨G, H, h1, h2, h3, e⟩
theorem Sep.flatS {l l' : List Ass} {w : World} {F : Fp} (h : Sep (Sep l' :: l) w F) : Sep (l' ++ l) w F := by
  obtain ⟨G, H, h1, h2, h3, e⟩ := h
  subst e
  exact h1.append h2 h3
theorem leaves_marks {F : Fence} {n : Nat} {P : Program} {fn : Func} {tmps : Array Value} {R : Ending → World → Prop} {S : Fp} {L : List Ass} [Stable (Sep L)] {w0 : World}
    (h : ∀ W, St S L w0 W → LeavesIn F n P fn tmps R [] .returning W) : ∀ (D : List (Nat × Nat × Obj)) (W : World), St S (Sep (D.map recD) :: L) w0 W → LeavesInM F n P fn tmps R (D.map markD) .returning W := by
  intro D
  induction D with
  | nil => exact fun W hs => h W hs.drop
  | cons x D ih =>
    intro W hs
    have h1 : St S (RecA x.1 x.2.1 x.2.2 :: Sep (D.map recD) :: L) w0 W := (St.flat (l' := (x :: D).map recD) hs).map fun F h => Sep.rest (fun F h => Sep.packS h) h
    exact ⟨by simp, .inl ⟨_, _, rfl, run_takeDeferred h1.recAt.2.1, ih _ (h1.recEnd (.deferred none))⟩⟩
theorem St.consD {S : Fp} {L : List Ass} {w0 w : World} {l d : Nat} {o : Obj} {D : List (Nat × Nat × Obj)} (h : St S (RecA l d o :: Sep (D.map recD) :: L) w0 w) : St S (Sep (((l, d, o) :: D).map recD) :: L) w0 w :=
  St.pack (l' := ((l, d, o) :: D).map recD) (h.map fun F h => Sep.rest (fun F h => Sep.flatS h) h)
/-- an operation that its guard leaves out, in a round -/
theorem wpListIn_skipW {l : Nat} {n : Nat} {P : Program} {ops : Array Oper} {Q : Exit → Act → World → Prop} {rest : List Oper} {o : Oper} {a : Act} {w : World} (hw : Region.wanted o (yielded ops a.tmps) = false)
    (h : wpListIn (Fence.wide.inRound l) n P ops Q rest (a.put o.dst undef) w) : wpListIn (Fence.wide.inRound l) n P ops Q (o :: rest) a w := by
  refine wpListIn_step fun K hK => ?_
  rw [if_neg (by rw [hw]; exact Bool.false_ne_true)]
  exact ⟨fun f _ => trivial, hK _ _ h⟩
theorem wpIn_loopK {F : Fence} {n : Nat} {P : Program} {Q : Exit → Act → World → Prop} {a : Act} {w : World} {c : Code} (I : Act → World → Prop) (μ : Act → World → Nat) (h₀ : I a w)
    (round : ∀ a w, I a w → ∀ K : Act → World → Prop, Hid (∀ a' w', I a' w' → μ a' w' < μ a w → K a' w') → c.wpIn F n P (Exit.then K Q) a w) : (Code.loop c).wpIn F n P Q a w :=
  wpIn_loop I μ h₀ fun a w h => round a w h _ (Lib.hid fun _ _ h1 h2 => ⟨h1, h2⟩)

/-- a region that draws its order, in a round's body, whose operations only read -/
theorem wpIn_region_quiet_round {P : Program} {Q : Exit → Act → World → Prop} {l n id : Nat} {a : Act} {w : World} {ls : List Oper} (hm : P.follows .mixedOrders = true) (hno : ¬ LetsOut Q) (hdf : ls.toArray.all (fun o => match o.op with | .defer _ => false | _ => true) = true) (hB : Region.lexB .any ls.toArray = true)
    (h : wpQuiet P ls.toArray (fun w' => ∃ n, w' = w.drewN n) (fun a' => ∀ w', (∃ n, w' = w.drewN n) → Q .normal a' w') ls a) : (Code.region id ls.toArray true).wpIn (Fence.wide.inRound l) n P Q a w := by
  simp only [Region.lexB, Bool.and_eq_true] at hB
  refine wpIn_region_any hm (wpAnyIn_of hno hdf _ _ _ _ (wpAny_of_quiet (C := fun w' => ∃ n, w' = w.drewN n) (Q := fun a' => ∀ w', (∃ n, w' = w.drewN n) → Q .normal a' w') (fun _ w' hw' h => h w' hw') _ _ _ _ ⟨1, rfl⟩ ?_))
  have := wpAnyQ_lex (C := fun w' => ∃ n, w' = w.drewN n) (md := .any) hB.1 ls 0 (Array.replicate ls.toArray.size false) a (by simp) (by simpa using hB.2) (by simpa using h)
  simpa using this
theorem tks_of {S : Fp} {l : List Ass} {w0 w : World} {A : Option Addr} {n c : Nat} {X : List Tk} (h : St S (OwA tkF 4 30 (.slice A n c) X :: l) w0 w) : TkS A X w := by
  intro k x hx
  have hk := (List.getElem?_eq_some_iff.1 hx).1
  obtain ⟨g, cap, e, h1, h2, h3, h4⟩ := h.tkAt (by omega)
  injection e with e1 e2 e3
  subst e1
  obtain ⟨q0, q1, q2, q3⟩ := h4 k x hx
  exact ⟨g, rfl, h3, q0, q1, q2, q3⟩
/-- what the law over Scan holds: its result's box, what it wants, and its boxes -/
def goL (w : World) (b : Nat) (s : ByteArray) (A : Option Addr) (c : Nat) (X : List Tk) (AT E T : Int) : List Ass :=
  [BlkA w.heap.size 4 #[.bool false], OwA tkF 4 30 (.slice A X.length c) X, BlkA b 26 #[.slice A X.length c], BlkA (b + 1) 3 #[.int .i64 AT], BlkA (b + 1 + 1) 3 #[.int .i64 E], BlkA (b + 1 + 1 + 1) 3 #[.int .i64 T], BlkA (w.heap.size + 1) 9 #[.string s]]
instance stableGoL {w : World} {b : Nat} {s : ByteArray} {A : Option Addr} {c : Nat} {X : List Tk} {AT E T : Int} : Stable (Sep (goL w b s A c X AT E T)) := by
  unfold goL
  infer_instance
/-- the same in a round: the round's number, and the tokens so far -/
def goQ (w : World) (b : Nat) (s : ByteArray) (A : Option Addr) (c : Nat) (X : List Tk) (AT E T : Int) (g7 g8 r k : Nat) (D : List (Nat × Nat × Obj)) : List Ass :=
  BlkA g8 3 #[.int .i64 (k : Int)] :: BlkA g7 3 #[.int .i64 (r : Int)] :: Sep (D.map recD) :: goL w b s A c X AT E T
instance stableGoQ {w : World} {b : Nat} {s : ByteArray} {A : Option Addr} {c : Nat} {X : List Tk} {AT E T : Int} {g7 g8 r k : Nat} {D : List (Nat × Nat × Obj)} : Stable (Sep (goQ w b s A c X AT E T g7 g8 r k D)) := by
  unfold goQ
  infer_instance
theorem goQ_at {w V : World} {b : Nat} {s : ByteArray} {A : Option Addr} {c : Nat} {X : List Tk} {AT E T : Int} {g7 g8 r k : Nat} {D : List (Nat × Nat × Obj)} (h : St Zf (goQ w b s A c X AT E T g7 g8 r k D) w V) :
    (V.cell? ⟨g8, 0, none⟩ = some (.int .i64 (k : Int)) ∧ V.frozen? ⟨g8, 0, none⟩ = false) ∧ V.cell? ⟨g7, 0, none⟩ = some (.int .i64 (r : Int)) ∧ V.cell? ⟨b, 0, none⟩ = some (.slice A X.length c) ∧ V.cell? ⟨b + 1, 0, none⟩ = some (.int .i64 AT) ∧ V.cell? ⟨b + 1 + 1, 0, none⟩ = some (.int .i64 E) ∧ V.cell? ⟨b + 1 + 1 + 1, 0, none⟩ = some (.int .i64 T) ∧ (V.cell? ⟨w.heap.size + 1, 0, none⟩ = some (.string s) ∧ w.heap.size + 1 < V.heap.size) ∧ TkS A X V := by
  have b8 := h.blk
  have b7 := h.drop.blk
  have h2 := h.drop.drop.drop.drop
  have bw := h2.drop.blk
  have ba := h2.drop.drop.blk
  have bn := h2.drop.drop.drop.blk
  have bs := h2.drop.drop.drop.drop.blk
  have bt := h2.drop.drop.drop.drop.drop.blk
  exact ⟨⟨by rw [b8.cell 0]; rfl, b8.frozen 0⟩, by rw [b7.cell 0]; rfl, by rw [bw.cell 0]; rfl, by rw [ba.cell 0]; rfl, by rw [bn.cell 0]; rfl, by rw [bs.cell 0]; rfl, ⟨by rw [bt.cell 0]; rfl, bt.lt⟩, tks_of h2⟩
/-- the steps, as the law counts them -/
theorem evT_count {r : List Tk × Option (Nat × Int)} (he : ∀ e, r.2 = some e → e.2 ≠ 0) : ((evT r).length : Int) = if rdEr r.2 = 0 then (r.1.length : Int) else (r.1.length : Int) + 1 := by
  unfold evT
  cases h : r.2 with
  | none => simp [rdEr]
  | some e => rw [if_neg (by simpa [rdEr] using he e h)]; simp
theorem evT_at {r : List Tk × Option (Nat × Int)} {pre post : List LEv} {x : LEv} (h : evT r = pre ++ x :: post) :
    (pre.length < r.1.length ∧ x.2 = 0 ∧ r.1[pre.length]? = some x.1) ∨ (pre.length = r.1.length ∧ x.2 = rdEr r.2 ∧ ∃ a : Nat, x.1 = tk0 a ∧ (a : Int) = rdAt r.2) := by
  have h1 : (evT r)[pre.length]? = some x := by rw [h]; simp
  unfold evT at h1
  by_cases hk : pre.length < r.1.length
  · left
    rw [List.getElem?_append_left (by simpa using hk), List.getElem?_map, List.getElem?_eq_getElem hk] at h1
    simp only [Option.map_some, Option.some.injEq] at h1
    subst h1
    exact ⟨hk, rfl, List.getElem?_eq_getElem hk⟩
  · right
    rw [List.getElem?_append_right (by simpa using hk)] at h1
    cases hr : r.2 with
    | none => rw [hr] at h1; simp at h1
    | some e =>
      rw [hr] at h1
      obtain ⟨hlt, he⟩ := List.getElem?_eq_some_iff.1 h1
      simp at hlt he
      subst he
      exact ⟨by omega, rfl, e.1, rfl, rfl⟩
attribute [local go_sem] Oper.semAt_some
open Go.Shelf in
set_option maxRecDepth 100000 in
set_option maxHeartbeats 2000000 in
theorem walk (w : World) (hW : LxW w) {s : ByteArray} (hx : s.size ≤ 140737488355328) :
    Calls Tryz.prog 3 #[.string s] w fun e w' => e = .returned (.bool true) ∧ Below w.heap.size w w' := by
  have HW := Lib.hid hW
  have HSP : Hid (∀ W, Below w.heap.size w W → Calls Tryz.prog 5 #[] W fun e w' => e = .returned (.bool true) ∧ Below W.heap.size W w') := Lib.hid fun W hb => speaks24_any W (HW.out.below hb (Nat.le_refl _))
  have HRD : Hid (∀ w', Calls Tryz.prog 6 #[.string s] w' fun e w2 => ∃ A c, e = .returned (.tuple #[.slice A (lxR (lS s)).1.length c, .int .i64 (rdAt (lxR (lS s)).2), .int .i64 (rdEr (lxR (lS s)).2)]) ∧ St Zf [OwA tkF 4 30 (.slice A (lxR (lS s)).1.length c) (lxR (lS s)).1] w' w2) :=
    Lib.hid fun w' => (refRead_any s w').mono fun e w2 ⟨v, h1, h2⟩ => by
      obtain ⟨A, c, rfl, -⟩ := h2.owForm
      exact ⟨A, c, h1, h2⟩
  have h0 := (St.start Zf w).newBlk 4 #[.bool false]
  have H0 := Lib.hid h0
  clear hW hx h0
  refine (callsIn_wide (n := 10)).1 ?_
  refine callsIn_of_wp_marks Tryz.func3 rfl trivial ?_ rfl
  simp only [Tryz.ntmps3, List.size_toArray, List.length_cons, List.length_nil, Nat.reduceAdd, Nat.reduceSub, Array.replicate_succ, Array.replicate_zero, List.push_toArray, List.append_toArray, List.nil_append, List.cons_append]
  gi_wp2_with fail
  refine ⟨trivial, (callsIn_wide.2 (Scan_any _ _)).mono ?_⟩
  rintro e w1 ⟨rfl, hw1⟩
  have h1 := H0.out.newBlk 9 #[.string s]
  rw [hw1] at h1
  simp only [World.size_alloc] at h1 ⊢
  have H1 := Lib.hid h1
  clear h1 hw1 H0
  gi_wp2_with fail
  rw [run_eqlNilFunc Tryz.underlying23]
  gi_wp2_with fail
  refine ⟨trivial, (callsIn_wide.2 (HSP.out _ H1.out.bel)).mono ?_⟩
  rintro e w2 ⟨rfl, hb2⟩
  have H2 := Lib.hid (H1.out.below hb2)
  clear hb2 H1
  gi_wp2_with fail
  refine ⟨trivial, (callsIn_wide.2 (HRD.out _)).mono ?_⟩
  rintro e w3 ⟨A, c, rfl, h3⟩
  have H3 := Lib.hid (H2.out.addStL h3)
  have hlen := lxR_few (lS s)
  generalize hX : (lxR (lS s)).1 = X at H3 hlen ⊢
  generalize hAT : rdAt (lxR (lS s)).2 = AT
  generalize hE : rdEr (lxR (lS s)).2 = E
  have HXR := Lib.hid hX
  have HAT := Lib.hid hAT
  have HE := Lib.hid hE
  clear h3 H2 hX hAT hE
  have H4 := Lib.hid (((H3.out.newBlk 26 #[.slice A X.length c]).newBlk 3 #[.int .i64 AT]).newBlk 3 #[.int .i64 E])
  simp only [World.size_alloc] at H4
  by_cases h0 : E = 0
  · have hEb : (E != 0) = false := by simp [h0]
    have HS : Hid ((X.length : Int) = ((evT (lxR (lS s))).length : Int)) := Lib.hid (by rw [evT_count (fun e => lxR_err), if_pos (HE.out.trans h0), HXR.out])
    have h5 := H4.out.newBlk 3 #[.int .i64 (X.length : Int)]
    simp only [World.size_alloc] at h5
    have h6 := h5.newBlk 3 #[.int .i64 0]
    simp only [World.size_alloc] at h6
    have H6 := Lib.hid h6
    clear h5 h6 h0 H4 H3
    gi_wp2_with fail
    clear hEb
    refine wpIn_loopK (fun a W => ∃ (r : Nat) (D : List (Nat × Nat × Obj)) (g7 : Nat) (t9 t28 t29 t30 t31 t32 t33 t34 t35 t36 t81 t82 t83 t84 t85 t86 t87 t88 t89 t90 t91 t92 t93 t94 t95 t96 t97 t98 : Value) (SI : Int), (r ≤ 3 ∧ D.length = r ∧ a = { tmps := #[.string s, undef, .pointer (some ⟨w.heap.size, 0, none⟩), .func (.func 7) #[] #[.pointer (some ⟨w.heap.size + 1, 0, none⟩)], .pointer (some ⟨w3.heap.size, 0, none⟩), .pointer (some ⟨w3.heap.size + 1, 0, none⟩), .pointer (some ⟨w3.heap.size + 1 + 1, 0, none⟩), .pointer (some ⟨w3.heap.size + 1 + 1 + 1, 0, none⟩), .pointer (some ⟨g7, 0, none⟩), t9, undef, undef, .string s, .func (.func 7) #[] #[.pointer (some ⟨w.heap.size + 1, 0, none⟩)], .func (.func 7) #[] #[.pointer (some ⟨w.heap.size + 1, 0, none⟩)], .bool false, .bool false, .bool true, .bool false, .bool false, .tuple #[.slice A X.length c, .int .i64 AT, .int .i64 E], .string s, .tuple #[.slice A X.length c, .int .i64 AT, .int .i64 E], .slice A X.length c, .int .i64 AT, .int .i64 E, .slice A X.length c, .int .i64 (X.length : Int), t28, t29, t30, t31, t32, t33, t34, t35, t36, undef, undef, undef, undef, undef, undef, undef, undef, undef, undef, undef, undef, undef, undef, undef, undef, undef, undef, undef, undef, undef, undef, undef, undef, undef, undef, undef, undef, undef, undef, undef, undef, undef, undef, undef, undef, undef, undef, undef, undef, undef, undef, undef, undef, t81, t82, t83, t84, t85, t86, t87, t88, t89, t90, t91, t92, t93, t94, t95, t96, t97, t98], defers := D.map markD } ∧ SI = ((evT (lxR (lS s))).length : Int)) ∧ Hid (St Zf (BlkA g7 3 #[.int .i64 r] :: Sep (D.map recD) :: goL w w3.heap.size s A c X AT E SI) w W)) (fun a W => 3 - a.defers.length) ?h0 ?round
    case h0 =>
      refine ⟨0, [], w3.heap.size + 1 + 1 + 1 + 1, _, _, _, _, _, _, _, _, _, _, _, _, _, _, _, _, _, _, _, _, _, _, _, _, _, _, _, _, _, ⟨by omega, rfl, rfl, HS.out⟩, Lib.hid ?_⟩
      exact (H6.out.bring6.bring2.bring3.bring4.bring5.bring6.bring7.bring7.nilSep).swap
    case round =>
      clear H6
      rintro a W ⟨r, D, g7, t9, t28, t29, t30, t31, t32, t33, t34, t35, t36, t81, t82, t83, t84, t85, t86, t87, t88, t89, t90, t91, t92, t93, t94, t95, t96, t97, t98, SI, ⟨hr, hD, rfl, hSI⟩, H⟩ K HK
      have hg7 := H.out.blk
      have c7 : W.cell? ⟨g7, 0, none⟩ = some (.int .i64 (r : Int)) := by rw [hg7.cell 0]; rfl
      have HSI := Lib.hid hSI
      have HD := Lib.hid hD
      clear hg7 hSI hD
      by_cases hlt : (r : Int) < 3
      · have h1 := H.out.newBlk 3 #[.int .i64 0]
        gi_wp2_with fail
        clear H c7
        generalize W.alloc (.cells #[.int .i64 0] 3) = W1 at h1 ⊢
        generalize W.heap.size = g8 at h1 ⊢
        have H1 : Hid (St Zf (goQ w w3.heap.size s A c X AT E SI g7 g8 r 0 D) w W1) := Lib.hid h1
        clear h1
        rename_i K2 hK2
        have HAFT : Hid (∀ (k : Nat) (o : Obj) (W2 : World), (r ≠ 1 → (k : Int) = SI) → (r = 1 → (k : Int) = min 1 SI) → St Zf (RecA (W1.heap.size + 1) W1.heap.size o :: goQ w w3.heap.size s A c X AT E SI g7 g8 r k D) w W2 →
            K2 { tmps := #[.string s, undef, .pointer (some ⟨w.heap.size, 0, none⟩), .func (.func 7) #[] #[.pointer (some ⟨w.heap.size + 1, 0, none⟩)], .pointer (some ⟨w3.heap.size, 0, none⟩), .pointer (some ⟨w3.heap.size + 1, 0, none⟩), .pointer (some ⟨w3.heap.size + 1 + 1, 0, none⟩), .pointer (some ⟨w3.heap.size + 1 + 1 + 1, 0, none⟩), .pointer (some ⟨g7, 0, none⟩), .pointer (some ⟨g8, 0, none⟩), undef, undef, .string s, .func (.func 7) #[] #[.pointer (some ⟨w.heap.size + 1, 0, none⟩)], .func (.func 7) #[] #[.pointer (some ⟨w.heap.size + 1, 0, none⟩)], .bool false, .bool false, .bool true, .bool false, .bool false, .tuple #[.slice A X.length c, .int .i64 AT, .int .i64 E], .string s, .tuple #[.slice A X.length c, .int .i64 AT, .int .i64 E], .slice A X.length c, .int .i64 AT, .int .i64 E, .slice A X.length c, .int .i64 (X.length : Int), t28, t29, t30, t31, .int .i64 r, .bool true, t34, t35, .func (.func 7) #[] #[.pointer (some ⟨w.heap.size + 1, 0, none⟩)], undef, undef, undef, undef, undef, undef, undef, undef, undef, undef, undef, undef, undef, undef, undef, undef, undef, undef, undef, undef, undef, undef, undef, undef, undef, undef, undef, undef, undef, undef, undef, undef, undef, undef, undef, undef, undef, undef, undef, undef, undef, undef, undef, undef, t81, t82, t83, t84, t85, t86, t87, t88, t89, t90, t91, t92, t93, t94, t95, t96, t97, t98], defers := { target := .collected W1.heap.size, args := #[] } :: D.map markD } W2) := Lib.hid (by
          intro k o W2 hk1 hk2 h
          obtain ⟨⟨c8, -⟩, c7, -, -, -, c6, -⟩ := goQ_at h.drop
          have h9 := (St.consD h.swap.drop.swap.drop).newBlk 3 #[.int .i64 ((r : Int) + 1)]
          have H9 := Lib.hid h9
          have hr9 : (r : Int) < 140737488355328 := by omega
          refine hK2 _ _ ?_
          by_cases hr1 : r = 1
          · subst hr1
            have hk : (k : Int) = min 1 SI := hk2 rfl
            have H8 := Lib.hid ((St.consD h.swap.drop.swap.drop).newBlk 3 #[.int .i64 2])
            clear h h9 hk1 hk2
            gi_wp2_with fail
            exact HK.out _ _ ⟨1 + 1, (W1.heap.size + 1, W1.heap.size, o) :: D, W2.heap.size, _, _, _, _, _, _, _, _, _, _, _, _, _, _, _, _, _, _, _, _, _, _, _, _, _, _, _, _, SI, ⟨by omega, by rw [List.length_cons, HD.out], rfl, HSI.out⟩, Lib.hid (by rw [show ((1 + 1 : Nat) : Int) = 2 from rfl]; exact H8.out)⟩ (by simp only [List.length_cons, List.length_map, HD.out]; omega)
          · have hk : (k : Int) = SI := hk1 hr1
            have hb1 : ((r : Int) != 1) = true := by simp; omega
            have hb2 : ((r : Int) == 1) = false := by simp; omega
            have hb3 : ((k : Int) != SI) = false := by simp [hk]
            clear h h9 hk1 hk2
            gi_wp2_with fail
            exact HK.out _ _ ⟨r + 1, (W1.heap.size + 1, W1.heap.size, o) :: D, W2.heap.size, _, _, _, _, _, _, _, _, _, _, _, _, _, _, _, _, _, _, _, _, _, _, _, _, _, _, _, _, SI, ⟨by omega, by rw [List.length_cons, HD.out], rfl, HSI.out⟩, Lib.hid (by rw [show ((r + 1 : Nat) : Int) = (r : Int) + 1 by omega]; exact H9.out)⟩ (by simp only [List.length_cons, List.length_map, HD.out]; omega))
        have hEA : ∀ o pre V, (∃ i : Unit, (r = 1 → pre = []) ∧ St Zf (RecA (W1.heap.size + 1) W1.heap.size o :: LentO s pre.getLast? :: goQ w w3.heap.size s A c X AT E SI g7 g8 r pre.length D) w V) → TxL (w.heap.size + 1) s V := by
          rintro o pre V ⟨i, -, h⟩
          obtain ⟨-, -, -, -, -, -, ⟨e1, e2⟩, -⟩ := goQ_at h.drop.drop
          exact ⟨e1, e2, HW.out.below h.bel (Nat.le_refl _)⟩
        refine wpIn_rangeV rfl (gf := 7) (lb := #[.pointer (some ⟨w.heap.size + 1, 0, none⟩)]) rfl (enters_of Tryz.func7 (by kernel_rfl) rfl) (encs := Lx.enc) (fun _ => rfl)
          (scan_seq (w.heap.size + 1) s)
          (fun o pre W => ∃ i : Unit, (r = 1 → pre = []) ∧ St Zf (RecA (W1.heap.size + 1) W1.heap.size o :: LentO s pre.getLast? :: goQ w w3.heap.size s A c X AT E SI g7 g8 r pre.length D) w W)
          (fun o pre x W => ∃ i : Unit, ((r = 1 → pre = []) ∧ (∃ rr, evT (lxR (lS s)) = pre.map Lx.ev ++ x.ev :: rr)) ∧ St Zf (RecA (W1.heap.size + 1) W1.heap.size o :: LenA s x :: goQ w w3.heap.size s A c X AT E SI g7 g8 r pre.length D) w W)
          (fun o pre x a W => ∃ gt : Nat, (((r = 1 → pre = []) ∧ (∃ rr, evT (lxR (lS s)) = pre.map Lx.ev ++ x.ev :: rr)) ∧ a = { tmps := #[.string s, undef, .pointer (some ⟨w.heap.size, 0, none⟩), .func (.func 7) #[] #[.pointer (some ⟨w.heap.size + 1, 0, none⟩)], .pointer (some ⟨w3.heap.size, 0, none⟩), .pointer (some ⟨w3.heap.size + 1, 0, none⟩), .pointer (some ⟨w3.heap.size + 1 + 1, 0, none⟩), .pointer (some ⟨w3.heap.size + 1 + 1 + 1, 0, none⟩), .pointer (some ⟨g7, 0, none⟩), .pointer (some ⟨g8, 0, none⟩), .pointer (some ⟨gt, 0, none⟩), .int .i64 x.e, .string s, .func (.func 7) #[] #[.pointer (some ⟨w.heap.size + 1, 0, none⟩)], .func (.func 7) #[] #[.pointer (some ⟨w.heap.size + 1, 0, none⟩)], .bool false, .bool false, .bool true, .bool false, .bool false, .tuple #[.slice A X.length c, .int .i64 AT, .int .i64 E], .string s, .tuple #[.slice A X.length c, .int .i64 AT, .int .i64 E], .slice A X.length c, .int .i64 AT, .int .i64 E, .slice A X.length c, .int .i64 (X.length : Int), t28, t29, t30, t31, .int .i64 r, .bool true, t34, t35, .func (.func 7) #[] #[.pointer (some ⟨w.heap.size + 1, 0, none⟩)], tkV x.t, .int .i64 x.e, undef, undef, undef, undef, undef, undef, undef, undef, undef, undef, undef, undef, undef, undef, undef, undef, undef, undef, undef, undef, undef, undef, undef, undef, undef, undef, undef, undef, undef, undef, undef, undef, undef, undef, undef, undef, undef, undef, undef, undef, undef, undef, t81, t82, t83, t84, t85, t86, t87, t88, t89, t90, t91, t92, t93, t94, t95, t96, t97, t98], defers := [] }) ∧ St Zf (RecA (W1.heap.size + 1) W1.heap.size o :: BlkA gt 30 (tkC x.t) :: LenA s x :: goQ w w3.heap.size s A c X AT E SI g7 g8 r pre.length D) w W)
          (fun cd o pre W => ∃ i : Unit, (cd = .exit 2 ∧ r = 1 ∧ (1 : Int) ≤ SI) ∧ St Zf (RecA (W1.heap.size + 1) W1.heap.size o :: goQ w w3.heap.size s A c X AT E SI g7 g8 r 1 D) w W)
          (fun o pre x W => ∃ i : Unit, r ≠ 1 ∧ St Zf (RecA (W1.heap.size + 1) W1.heap.size o :: LenA s x :: goQ w w3.heap.size s A c X AT E SI g7 g8 r (pre ++ [x]).length D) w W)
          (fun o xs W => ∃ i : Unit, ((r = 1 → xs = []) ∧ (xs.length : Int) = SI) ∧ St Zf (RecA (W1.heap.size + 1) W1.heap.size o :: goQ w w3.heap.size s A c X AT E SI g7 g8 r xs.length D) w W)
          ?bI ?bM ?bN ?bX ?bR ?bZ hEA ?hY ?hR ?hT ?h0 ?assign ?body ?done ?stop
        case hY =>
          rintro o pre x V V1 ⟨i, hf, h⟩ hy
          exact ⟨i, ⟨hf, hy.2.2⟩, (lent_turnL h.swap hy).swap⟩
        case bI => exact fun pre => bears_ex (ι := Unit) (g := fun _ => LentO s pre.getLast? :: goQ w w3.heap.size s A c X AT E SI g7 g8 r pre.length D)
        case bM => exact fun pre x => bears_ex (ι := Unit) (g := fun _ => LenA s x :: goQ w w3.heap.size s A c X AT E SI g7 g8 r pre.length D)
        case bN => exact fun pre x a => bears_ex (ι := Nat) (g := fun gt => BlkA gt 30 (tkC x.t) :: LenA s x :: goQ w w3.heap.size s A c X AT E SI g7 g8 r pre.length D)
        case bX => exact fun cd pre => bears_ex (ι := Unit) (g := fun _ => goQ w w3.heap.size s A c X AT E SI g7 g8 r 1 D)
        case bR => exact fun pre x => bears_ex (ι := Unit) (g := fun _ => LenA s x :: goQ w w3.heap.size s A c X AT E SI g7 g8 r (pre ++ [x]).length D)
        case bZ => exact fun xs => bears_ex (ι := Unit) (g := fun _ => goQ w w3.heap.size s A c X AT E SI g7 g8 r xs.length D)
        case hR =>
          rintro o pre x V ⟨i, hf, h⟩
          have e : (pre ++ [x]).getLast? = some x := by simp
          refine ⟨⟨i, fun h1 => absurd h1 hf, ?_⟩, lx_keeps h.swap⟩
          rw [e]
          exact h
        case hT =>
          rintro o xs V W ⟨i, h1, h⟩ ht
          refine ⟨i, ⟨h1, ?_⟩, lent_end h.swap ht⟩
          rw [HSI.out, ← ht.evs, List.length_map]
        case h0 =>
          intro o
          refine ⟨(), fun _ => rfl, ?_⟩
          exact (H1.out.nilSep).recNew o
        case assign =>
          rintro o pre x W ⟨i, hf, h⟩
          have HH := Lib.hid h
          have HF := Lib.hid hf
          clear h hf
          simp only [Lx.enc, tkV, tkC]
          gi_wp2
          exact ⟨W.heap.size, ⟨HF.out, rfl⟩, (HH.out.newBlk 30 (tkC x.t)).swap⟩
        case done =>
          rintro o xs W ⟨i, ⟨h1, h2⟩, h⟩
          refine HAFT.out xs.length o W (fun _ => h2) (fun h3 => ?_) h
          have h4 := h1 h3
          subst h4
          have h5 : (0 : Int) = SI := h2
          rw [← h5]
          rfl
        case stop =>
          rintro o cd pre W _ ⟨i, ⟨rfl, h1, h2⟩, h⟩
          exact wpIn_exit (HAFT.out 1 o W (fun h3 => absurd h1 h3) (fun _ => by omega) h)
        case body =>
          rintro o pre ⟨xt, xe, xg, xq⟩ a W ⟨gt, ⟨⟨hpr, ⟨rr, hev⟩⟩, rfl⟩, h⟩
          clear HAFT hEA H1 HK hK2
          have hat := evT_at hev
          rw [List.length_map, HXR.out, HAT.out, HE.out] at hat
          have hkN : (pre.length : Int) < SI := by rw [HSI.out, hev]; simp; omega
          have hnp : (1 : Int) ≤ SI := by omega
          have HPR := Lib.hid hpr
          have HNP := Lib.hid hnp
          clear hev hpr hnp
          dsimp only [Lx.ev] at hat h ⊢
          generalize hk0 : pre.length = k at hat hkN h
          have HK0 := Lib.hid hk0
          clear hk0
          obtain ⟨⟨c8, f8⟩, c7, c4, c5, c6, ct, -, htk⟩ := goQ_at h.drop.drop.drop
          have hbt : Blk W gt 30 (tkC xt) := h.drop.blk
          have m0 : W.cell? ⟨gt, 0, none⟩ = some (.int .i64 xt.k) := by rw [hbt.cell 0]; rfl
          have m1 : W.cell? ⟨gt, 1, none⟩ = some (.string (mkS xt.t)) := by rw [hbt.cell 1]; rfl
          have m2 : W.cell? ⟨gt, 2, none⟩ = some (.int .i64 xt.n) := by rw [hbt.cell 2]; rfl
          have m3 : W.cell? ⟨gt, 3, none⟩ = some (.int .i64 (xt.p : Int)) := by rw [hbt.cell 3]; rfl
          clear hbt
          have hk8 : ¬ SI ≤ (k : Int) := by omega
          have hk9 : (k : Int) < 140737488355328 := by omega
          have hd8 : decide (SI ≤ (k : Int)) = false := decide_eq_false hk8
          have H := Lib.hid h
          clear h
          rcases hat with ⟨hk, he, hrow⟩ | ⟨hk, he, a0, ha0, ha⟩
          · subst he
            obtain ⟨ga, rfl, hga, q0, q1, q2, q3⟩ := htk k xt hrow
            have hk2 : (k : Int) < (X.length : Int) := by omega
            have hd2 : decide ((k : Int) < (X.length : Int)) = true := decide_eq_true hk2
            have hke : ((k : Int) == (X.length : Int)) = false := by simp; omega
            clear hrow htk hk
            gi_wp2_with fail
            refine wpIn_region_quiet_round (by kernel_rfl) (by rintro ⟨_, _, hlo⟩; exact hlo) (by kernel_rfl) (by kernel_rfl) ?_
            repeat (go_big_quiet_step (fail))
            refine wpQuiet_nil ?_
            rintro _ ⟨nq, rfl⟩
            have h9 := ((H.out.drewN nq).swap.drop.bring2.setBlk 0 (.int .i64 ((k : Int) + 1))).back2
            have H9 := Lib.hid h9
            have b7 := h9.drop.drop.drop.blk
            have c7b : ((W.drewN nq).setCell ⟨g8, 0, none⟩ (.int .i64 ((k : Int) + 1))).cell? ⟨g7, 0, none⟩ = some (.int .i64 (r : Int)) := by rw [b7.cell 0]; rfl
            clear h9 b7
            by_cases hr1 : r = 1
            · have hpn := HPR.out hr1
              subst hpn hr1
              gi_wp2_with fail
              have hk1 : (k : Int) + 1 = ((1 : Nat) : Int) := by rw [← HK0.out]; rfl
              refine ⟨⟨rfl, HNP.out⟩, ?_⟩
              have h8 := H9.out.swap.drop
              rw [hk1] at h8 ⊢
              exact h8
            · have hb2 : ((r : Int) == 1) = false := by simp; omega
              gi_wp2_with fail
              have e9 : ((pre.length + 1 : Nat) : Int) = (k : Int) + 1 := by rw [HK0.out]; rfl
              have h8 := H9.out
              rw [← e9] at h8 ⊢
              refine ⟨(), hr1, ?_⟩
              rw [List.length_append]
              exact h8
          · subst he
            have hkl : ¬ (k : Int) < (X.length : Int) := by omega
            have hdl : decide (k < X.length) = false := decide_eq_false (by omega)
            have hek : (k == X.length) = true := by rw [hk]; exact beq_self_eq_true _
            have hke : ((k : Int) == (X.length : Int)) = true := by simp; omega
            have hms : mkS [] = ⟨#[]⟩ := rfl
            subst ha0
            dsimp only [tk0] at m0 m1 m2 m3
            rw [ha] at m3
            rw [hms] at m1
            clear htk hk ha hms
            gi_wp2_with fail
            refine wpIn_region_quiet_round (by kernel_rfl) (by rintro ⟨_, _, hlo⟩; exact hlo) (by kernel_rfl) (by kernel_rfl) ?_
            repeat (go_big_quiet_step (fail))
            refine wpQuiet_nil ?_
            rintro _ ⟨nq, rfl⟩
            have h9 := ((H.out.drewN nq).swap.drop.bring2.setBlk 0 (.int .i64 ((k : Int) + 1))).back2
            have H9 := Lib.hid h9
            have b7 := h9.drop.drop.drop.blk
            have c7b : ((W.drewN nq).setCell ⟨g8, 0, none⟩ (.int .i64 ((k : Int) + 1))).cell? ⟨g7, 0, none⟩ = some (.int .i64 (r : Int)) := by rw [b7.cell 0]; rfl
            clear h9 b7
            by_cases hr1 : r = 1
            · have hpn := HPR.out hr1
              subst hpn hr1
              gi_wp2_with fail
              have hk1 : (k : Int) + 1 = ((1 : Nat) : Int) := by rw [← HK0.out]; rfl
              refine ⟨⟨rfl, HNP.out⟩, ?_⟩
              have h8 := H9.out.swap.drop
              rw [hk1] at h8 ⊢
              exact h8
            · have hb2 : ((r : Int) == 1) = false := by simp; omega
              gi_wp2_with fail
              have e9 : ((pre.length + 1 : Nat) : Int) = (k : Int) + 1 := by rw [HK0.out]; rfl
              have h8 := H9.out
              rw [← e9] at h8 ⊢
              refine ⟨(), hr1, ?_⟩
              rw [List.length_append]
              exact h8
      · have hgR := H.out.drop.drop.blk
        have cR : W.cell? ⟨w.heap.size, 0, none⟩ = some (.bool false) := by rw [hgR.cell 0]; rfl
        have fR := hgR.frozen 0
        clear hgR
        gi_wp2_with fail
        have hst := (((H.out.drop).swap).setBlk 0 (.bool true)).swap
        refine leaves_marks (fun W' h' => ⟨.bool true, results_cell1 rfl _ _ _ Tryz.underlying4 rfl (by rfl) (by rw [h'.blk.cell 0]; rfl), rfl, h'.bel⟩) D _ hst
  · have hEb : (E != 0) = true := by simp [h0]
    have HS : Hid (((X.length : Int) + 1) = ((evT (lxR (lS s))).length : Int)) := Lib.hid (by rw [evT_count (fun e => lxR_err), if_neg (by rw [HE.out]; exact h0), HXR.out])
    have h5 := H4.out.newBlk 3 #[.int .i64 ((X.length : Int) + 1)]
    simp only [World.size_alloc] at h5
    have h6 := h5.newBlk 3 #[.int .i64 0]
    simp only [World.size_alloc] at h6
    have H6 := Lib.hid h6
    clear h5 h6 h0 H4 H3
    gi_wp2_with fail
    clear hEb
    refine wpIn_loopK (fun a W => ∃ (r : Nat) (D : List (Nat × Nat × Obj)) (g7 : Nat) (t9 t28 t29 t30 t31 t32 t33 t34 t35 t36 t81 t82 t83 t84 t85 t86 t87 t88 t89 t90 t91 t92 t93 t94 t95 t96 t97 t98 : Value) (SI : Int), (r ≤ 3 ∧ D.length = r ∧ a = { tmps := #[.string s, undef, .pointer (some ⟨w.heap.size, 0, none⟩), .func (.func 7) #[] #[.pointer (some ⟨w.heap.size + 1, 0, none⟩)], .pointer (some ⟨w3.heap.size, 0, none⟩), .pointer (some ⟨w3.heap.size + 1, 0, none⟩), .pointer (some ⟨w3.heap.size + 1 + 1, 0, none⟩), .pointer (some ⟨w3.heap.size + 1 + 1 + 1, 0, none⟩), .pointer (some ⟨g7, 0, none⟩), t9, undef, undef, .string s, .func (.func 7) #[] #[.pointer (some ⟨w.heap.size + 1, 0, none⟩)], .func (.func 7) #[] #[.pointer (some ⟨w.heap.size + 1, 0, none⟩)], .bool false, .bool false, .bool true, .bool false, .bool false, .tuple #[.slice A X.length c, .int .i64 AT, .int .i64 E], .string s, .tuple #[.slice A X.length c, .int .i64 AT, .int .i64 E], .slice A X.length c, .int .i64 AT, .int .i64 E, .slice A X.length c, .int .i64 (X.length : Int), t28, t29, t30, t31, t32, t33, t34, t35, t36, undef, undef, undef, undef, undef, undef, undef, undef, undef, undef, undef, undef, undef, undef, undef, undef, undef, undef, undef, undef, undef, undef, undef, undef, undef, undef, undef, undef, undef, undef, undef, undef, undef, undef, undef, undef, undef, undef, undef, undef, undef, undef, undef, undef, t81, t82, t83, t84, t85, t86, t87, t88, t89, t90, t91, t92, t93, t94, t95, t96, t97, t98], defers := D.map markD } ∧ SI = ((evT (lxR (lS s))).length : Int)) ∧ Hid (St Zf (BlkA g7 3 #[.int .i64 r] :: Sep (D.map recD) :: goL w w3.heap.size s A c X AT E SI) w W)) (fun a W => 3 - a.defers.length) ?h0 ?round
    case h0 =>
      refine ⟨0, [], w3.heap.size + 1 + 1 + 1 + 1, _, _, _, _, _, _, _, _, _, _, _, _, _, _, _, _, _, _, _, _, _, _, _, _, _, _, _, _, _, ⟨by omega, rfl, rfl, HS.out⟩, Lib.hid ?_⟩
      exact (H6.out.bring6.bring2.bring3.bring4.bring5.bring6.bring7.bring7.nilSep).swap
    case round =>
      clear H6
      rintro a W ⟨r, D, g7, t9, t28, t29, t30, t31, t32, t33, t34, t35, t36, t81, t82, t83, t84, t85, t86, t87, t88, t89, t90, t91, t92, t93, t94, t95, t96, t97, t98, SI, ⟨hr, hD, rfl, hSI⟩, H⟩ K HK
      have hg7 := H.out.blk
      have c7 : W.cell? ⟨g7, 0, none⟩ = some (.int .i64 (r : Int)) := by rw [hg7.cell 0]; rfl
      have HSI := Lib.hid hSI
      have HD := Lib.hid hD
      clear hg7 hSI hD
      by_cases hlt : (r : Int) < 3
      · have h1 := H.out.newBlk 3 #[.int .i64 0]
        gi_wp2_with fail
        clear H c7
        generalize W.alloc (.cells #[.int .i64 0] 3) = W1 at h1 ⊢
        generalize W.heap.size = g8 at h1 ⊢
        have H1 : Hid (St Zf (goQ w w3.heap.size s A c X AT E SI g7 g8 r 0 D) w W1) := Lib.hid h1
        clear h1
        rename_i K2 hK2
        have HAFT : Hid (∀ (k : Nat) (o : Obj) (W2 : World), (r ≠ 1 → (k : Int) = SI) → (r = 1 → (k : Int) = min 1 SI) → St Zf (RecA (W1.heap.size + 1) W1.heap.size o :: goQ w w3.heap.size s A c X AT E SI g7 g8 r k D) w W2 →
            K2 { tmps := #[.string s, undef, .pointer (some ⟨w.heap.size, 0, none⟩), .func (.func 7) #[] #[.pointer (some ⟨w.heap.size + 1, 0, none⟩)], .pointer (some ⟨w3.heap.size, 0, none⟩), .pointer (some ⟨w3.heap.size + 1, 0, none⟩), .pointer (some ⟨w3.heap.size + 1 + 1, 0, none⟩), .pointer (some ⟨w3.heap.size + 1 + 1 + 1, 0, none⟩), .pointer (some ⟨g7, 0, none⟩), .pointer (some ⟨g8, 0, none⟩), undef, undef, .string s, .func (.func 7) #[] #[.pointer (some ⟨w.heap.size + 1, 0, none⟩)], .func (.func 7) #[] #[.pointer (some ⟨w.heap.size + 1, 0, none⟩)], .bool false, .bool false, .bool true, .bool false, .bool false, .tuple #[.slice A X.length c, .int .i64 AT, .int .i64 E], .string s, .tuple #[.slice A X.length c, .int .i64 AT, .int .i64 E], .slice A X.length c, .int .i64 AT, .int .i64 E, .slice A X.length c, .int .i64 (X.length : Int), t28, t29, t30, t31, .int .i64 r, .bool true, t34, t35, .func (.func 7) #[] #[.pointer (some ⟨w.heap.size + 1, 0, none⟩)], undef, undef, undef, undef, undef, undef, undef, undef, undef, undef, undef, undef, undef, undef, undef, undef, undef, undef, undef, undef, undef, undef, undef, undef, undef, undef, undef, undef, undef, undef, undef, undef, undef, undef, undef, undef, undef, undef, undef, undef, undef, undef, undef, undef, t81, t82, t83, t84, t85, t86, t87, t88, t89, t90, t91, t92, t93, t94, t95, t96, t97, t98], defers := { target := .collected W1.heap.size, args := #[] } :: D.map markD } W2) := Lib.hid (by
          intro k o W2 hk1 hk2 h
          obtain ⟨⟨c8, -⟩, c7, -, -, -, c6, -⟩ := goQ_at h.drop
          have h9 := (St.consD h.swap.drop.swap.drop).newBlk 3 #[.int .i64 ((r : Int) + 1)]
          have H9 := Lib.hid h9
          have hr9 : (r : Int) < 140737488355328 := by omega
          refine hK2 _ _ ?_
          by_cases hr1 : r = 1
          · subst hr1
            have hk : (k : Int) = min 1 SI := hk2 rfl
            have H8 := Lib.hid ((St.consD h.swap.drop.swap.drop).newBlk 3 #[.int .i64 2])
            clear h h9 hk1 hk2
            gi_wp2_with fail
            exact HK.out _ _ ⟨1 + 1, (W1.heap.size + 1, W1.heap.size, o) :: D, W2.heap.size, _, _, _, _, _, _, _, _, _, _, _, _, _, _, _, _, _, _, _, _, _, _, _, _, _, _, _, _, SI, ⟨by omega, by rw [List.length_cons, HD.out], rfl, HSI.out⟩, Lib.hid (by rw [show ((1 + 1 : Nat) : Int) = 2 from rfl]; exact H8.out)⟩ (by simp only [List.length_cons, List.length_map, HD.out]; omega)
          · have hk : (k : Int) = SI := hk1 hr1
            have hb1 : ((r : Int) != 1) = true := by simp; omega
            have hb2 : ((r : Int) == 1) = false := by simp; omega
            have hb3 : ((k : Int) != SI) = false := by simp [hk]
            clear h h9 hk1 hk2
            gi_wp2_with fail
            exact HK.out _ _ ⟨r + 1, (W1.heap.size + 1, W1.heap.size, o) :: D, W2.heap.size, _, _, _, _, _, _, _, _, _, _, _, _, _, _, _, _, _, _, _, _, _, _, _, _, _, _, _, _, SI, ⟨by omega, by rw [List.length_cons, HD.out], rfl, HSI.out⟩, Lib.hid (by rw [show ((r + 1 : Nat) : Int) = (r : Int) + 1 by omega]; exact H9.out)⟩ (by simp only [List.length_cons, List.length_map, HD.out]; omega))
        have hEA : ∀ o pre V, (∃ i : Unit, (r = 1 → pre = []) ∧ St Zf (RecA (W1.heap.size + 1) W1.heap.size o :: LentO s pre.getLast? :: goQ w w3.heap.size s A c X AT E SI g7 g8 r pre.length D) w V) → TxL (w.heap.size + 1) s V := by
          rintro o pre V ⟨i, -, h⟩
          obtain ⟨-, -, -, -, -, -, ⟨e1, e2⟩, -⟩ := goQ_at h.drop.drop
          exact ⟨e1, e2, HW.out.below h.bel (Nat.le_refl _)⟩
        refine wpIn_rangeV rfl (gf := 7) (lb := #[.pointer (some ⟨w.heap.size + 1, 0, none⟩)]) rfl (enters_of Tryz.func7 (by kernel_rfl) rfl) (encs := Lx.enc) (fun _ => rfl)
          (scan_seq (w.heap.size + 1) s)
          (fun o pre W => ∃ i : Unit, (r = 1 → pre = []) ∧ St Zf (RecA (W1.heap.size + 1) W1.heap.size o :: LentO s pre.getLast? :: goQ w w3.heap.size s A c X AT E SI g7 g8 r pre.length D) w W)
          (fun o pre x W => ∃ i : Unit, ((r = 1 → pre = []) ∧ (∃ rr, evT (lxR (lS s)) = pre.map Lx.ev ++ x.ev :: rr)) ∧ St Zf (RecA (W1.heap.size + 1) W1.heap.size o :: LenA s x :: goQ w w3.heap.size s A c X AT E SI g7 g8 r pre.length D) w W)
          (fun o pre x a W => ∃ gt : Nat, (((r = 1 → pre = []) ∧ (∃ rr, evT (lxR (lS s)) = pre.map Lx.ev ++ x.ev :: rr)) ∧ a = { tmps := #[.string s, undef, .pointer (some ⟨w.heap.size, 0, none⟩), .func (.func 7) #[] #[.pointer (some ⟨w.heap.size + 1, 0, none⟩)], .pointer (some ⟨w3.heap.size, 0, none⟩), .pointer (some ⟨w3.heap.size + 1, 0, none⟩), .pointer (some ⟨w3.heap.size + 1 + 1, 0, none⟩), .pointer (some ⟨w3.heap.size + 1 + 1 + 1, 0, none⟩), .pointer (some ⟨g7, 0, none⟩), .pointer (some ⟨g8, 0, none⟩), .pointer (some ⟨gt, 0, none⟩), .int .i64 x.e, .string s, .func (.func 7) #[] #[.pointer (some ⟨w.heap.size + 1, 0, none⟩)], .func (.func 7) #[] #[.pointer (some ⟨w.heap.size + 1, 0, none⟩)], .bool false, .bool false, .bool true, .bool false, .bool false, .tuple #[.slice A X.length c, .int .i64 AT, .int .i64 E], .string s, .tuple #[.slice A X.length c, .int .i64 AT, .int .i64 E], .slice A X.length c, .int .i64 AT, .int .i64 E, .slice A X.length c, .int .i64 (X.length : Int), t28, t29, t30, t31, .int .i64 r, .bool true, t34, t35, .func (.func 7) #[] #[.pointer (some ⟨w.heap.size + 1, 0, none⟩)], tkV x.t, .int .i64 x.e, undef, undef, undef, undef, undef, undef, undef, undef, undef, undef, undef, undef, undef, undef, undef, undef, undef, undef, undef, undef, undef, undef, undef, undef, undef, undef, undef, undef, undef, undef, undef, undef, undef, undef, undef, undef, undef, undef, undef, undef, undef, undef, t81, t82, t83, t84, t85, t86, t87, t88, t89, t90, t91, t92, t93, t94, t95, t96, t97, t98], defers := [] }) ∧ St Zf (RecA (W1.heap.size + 1) W1.heap.size o :: BlkA gt 30 (tkC x.t) :: LenA s x :: goQ w w3.heap.size s A c X AT E SI g7 g8 r pre.length D) w W)
          (fun cd o pre W => ∃ i : Unit, (cd = .exit 2 ∧ r = 1 ∧ (1 : Int) ≤ SI) ∧ St Zf (RecA (W1.heap.size + 1) W1.heap.size o :: goQ w w3.heap.size s A c X AT E SI g7 g8 r 1 D) w W)
          (fun o pre x W => ∃ i : Unit, r ≠ 1 ∧ St Zf (RecA (W1.heap.size + 1) W1.heap.size o :: LenA s x :: goQ w w3.heap.size s A c X AT E SI g7 g8 r (pre ++ [x]).length D) w W)
          (fun o xs W => ∃ i : Unit, ((r = 1 → xs = []) ∧ (xs.length : Int) = SI) ∧ St Zf (RecA (W1.heap.size + 1) W1.heap.size o :: goQ w w3.heap.size s A c X AT E SI g7 g8 r xs.length D) w W)
          ?bI ?bM ?bN ?bX ?bR ?bZ hEA ?hY ?hR ?hT ?h0 ?assign ?body ?done ?stop
        case hY =>
          rintro o pre x V V1 ⟨i, hf, h⟩ hy
          exact ⟨i, ⟨hf, hy.2.2⟩, (lent_turnL h.swap hy).swap⟩
        case bI => exact fun pre => bears_ex (ι := Unit) (g := fun _ => LentO s pre.getLast? :: goQ w w3.heap.size s A c X AT E SI g7 g8 r pre.length D)
        case bM => exact fun pre x => bears_ex (ι := Unit) (g := fun _ => LenA s x :: goQ w w3.heap.size s A c X AT E SI g7 g8 r pre.length D)
        case bN => exact fun pre x a => bears_ex (ι := Nat) (g := fun gt => BlkA gt 30 (tkC x.t) :: LenA s x :: goQ w w3.heap.size s A c X AT E SI g7 g8 r pre.length D)
        case bX => exact fun cd pre => bears_ex (ι := Unit) (g := fun _ => goQ w w3.heap.size s A c X AT E SI g7 g8 r 1 D)
        case bR => exact fun pre x => bears_ex (ι := Unit) (g := fun _ => LenA s x :: goQ w w3.heap.size s A c X AT E SI g7 g8 r (pre ++ [x]).length D)
        case bZ => exact fun xs => bears_ex (ι := Unit) (g := fun _ => goQ w w3.heap.size s A c X AT E SI g7 g8 r xs.length D)
        case hR =>
          rintro o pre x V ⟨i, hf, h⟩
          have e : (pre ++ [x]).getLast? = some x := by simp
          refine ⟨⟨i, fun h1 => absurd h1 hf, ?_⟩, lx_keeps h.swap⟩
          rw [e]
          exact h
        case hT =>
          rintro o xs V W ⟨i, h1, h⟩ ht
          refine ⟨i, ⟨h1, ?_⟩, lent_end h.swap ht⟩
          rw [HSI.out, ← ht.evs, List.length_map]
        case h0 =>
          intro o
          refine ⟨(), fun _ => rfl, ?_⟩
          exact (H1.out.nilSep).recNew o
        case assign =>
          rintro o pre x W ⟨i, hf, h⟩
          have HH := Lib.hid h
          have HF := Lib.hid hf
          clear h hf
          simp only [Lx.enc, tkV, tkC]
          gi_wp2
          exact ⟨W.heap.size, ⟨HF.out, rfl⟩, (HH.out.newBlk 30 (tkC x.t)).swap⟩
        case done =>
          rintro o xs W ⟨i, ⟨h1, h2⟩, h⟩
          refine HAFT.out xs.length o W (fun _ => h2) (fun h3 => ?_) h
          have h4 := h1 h3
          subst h4
          have h5 : (0 : Int) = SI := h2
          rw [← h5]
          rfl
        case stop =>
          rintro o cd pre W _ ⟨i, ⟨rfl, h1, h2⟩, h⟩
          exact wpIn_exit (HAFT.out 1 o W (fun h3 => absurd h1 h3) (fun _ => by omega) h)
        case body =>
          rintro o pre ⟨xt, xe, xg, xq⟩ a W ⟨gt, ⟨⟨hpr, ⟨rr, hev⟩⟩, rfl⟩, h⟩
          clear HAFT hEA H1 HK hK2
          have hat := evT_at hev
          rw [List.length_map, HXR.out, HAT.out, HE.out] at hat
          have hkN : (pre.length : Int) < SI := by rw [HSI.out, hev]; simp; omega
          have hnp : (1 : Int) ≤ SI := by omega
          have HPR := Lib.hid hpr
          have HNP := Lib.hid hnp
          clear hev hpr hnp
          dsimp only [Lx.ev] at hat h ⊢
          generalize hk0 : pre.length = k at hat hkN h
          have HK0 := Lib.hid hk0
          clear hk0
          obtain ⟨⟨c8, f8⟩, c7, c4, c5, c6, ct, -, htk⟩ := goQ_at h.drop.drop.drop
          have hbt : Blk W gt 30 (tkC xt) := h.drop.blk
          have m0 : W.cell? ⟨gt, 0, none⟩ = some (.int .i64 xt.k) := by rw [hbt.cell 0]; rfl
          have m1 : W.cell? ⟨gt, 1, none⟩ = some (.string (mkS xt.t)) := by rw [hbt.cell 1]; rfl
          have m2 : W.cell? ⟨gt, 2, none⟩ = some (.int .i64 xt.n) := by rw [hbt.cell 2]; rfl
          have m3 : W.cell? ⟨gt, 3, none⟩ = some (.int .i64 (xt.p : Int)) := by rw [hbt.cell 3]; rfl
          clear hbt
          have hk8 : ¬ SI ≤ (k : Int) := by omega
          have hk9 : (k : Int) < 140737488355328 := by omega
          have hd8 : decide (SI ≤ (k : Int)) = false := decide_eq_false hk8
          have H := Lib.hid h
          clear h
          rcases hat with ⟨hk, he, hrow⟩ | ⟨hk, he, a0, ha0, ha⟩
          · subst he
            obtain ⟨ga, rfl, hga, q0, q1, q2, q3⟩ := htk k xt hrow
            have hk2 : (k : Int) < (X.length : Int) := by omega
            have hd2 : decide ((k : Int) < (X.length : Int)) = true := decide_eq_true hk2
            have hke : ((k : Int) == (X.length : Int)) = false := by simp; omega
            clear hrow htk hk
            gi_wp2_with fail
            refine wpIn_region_quiet_round (by kernel_rfl) (by rintro ⟨_, _, hlo⟩; exact hlo) (by kernel_rfl) (by kernel_rfl) ?_
            repeat (go_big_quiet_step (fail))
            refine wpQuiet_nil ?_
            rintro _ ⟨nq, rfl⟩
            have h9 := ((H.out.drewN nq).swap.drop.bring2.setBlk 0 (.int .i64 ((k : Int) + 1))).back2
            have H9 := Lib.hid h9
            have b7 := h9.drop.drop.drop.blk
            have c7b : ((W.drewN nq).setCell ⟨g8, 0, none⟩ (.int .i64 ((k : Int) + 1))).cell? ⟨g7, 0, none⟩ = some (.int .i64 (r : Int)) := by rw [b7.cell 0]; rfl
            clear h9 b7
            by_cases hr1 : r = 1
            · have hpn := HPR.out hr1
              subst hpn hr1
              gi_wp2_with fail
              have hk1 : (k : Int) + 1 = ((1 : Nat) : Int) := by rw [← HK0.out]; rfl
              refine ⟨⟨rfl, HNP.out⟩, ?_⟩
              have h8 := H9.out.swap.drop
              rw [hk1] at h8 ⊢
              exact h8
            · have hb2 : ((r : Int) == 1) = false := by simp; omega
              gi_wp2_with fail
              have e9 : ((pre.length + 1 : Nat) : Int) = (k : Int) + 1 := by rw [HK0.out]; rfl
              have h8 := H9.out
              rw [← e9] at h8 ⊢
              refine ⟨(), hr1, ?_⟩
              rw [List.length_append]
              exact h8
          · subst he
            have hkl : ¬ (k : Int) < (X.length : Int) := by omega
            have hdl : decide (k < X.length) = false := decide_eq_false (by omega)
            have hek : (k == X.length) = true := by rw [hk]; exact beq_self_eq_true _
            have hke : ((k : Int) == (X.length : Int)) = true := by simp; omega
            have hms : mkS [] = ⟨#[]⟩ := rfl
            subst ha0
            dsimp only [tk0] at m0 m1 m2 m3
            rw [ha] at m3
            rw [hms] at m1
            clear htk hk ha hms
            gi_wp2_with fail
            refine wpIn_region_quiet_round (by kernel_rfl) (by rintro ⟨_, _, hlo⟩; exact hlo) (by kernel_rfl) (by kernel_rfl) ?_
            repeat (go_big_quiet_step (fail))
            refine wpQuiet_nil ?_
            rintro _ ⟨nq, rfl⟩
            have h9 := ((H.out.drewN nq).swap.drop.bring2.setBlk 0 (.int .i64 ((k : Int) + 1))).back2
            have H9 := Lib.hid h9
            have b7 := h9.drop.drop.drop.blk
            have c7b : ((W.drewN nq).setCell ⟨g8, 0, none⟩ (.int .i64 ((k : Int) + 1))).cell? ⟨g7, 0, none⟩ = some (.int .i64 (r : Int)) := by rw [b7.cell 0]; rfl
            clear h9 b7
            by_cases hr1 : r = 1
            · have hpn := HPR.out hr1
              subst hpn hr1
              gi_wp2_with fail
              have hk1 : (k : Int) + 1 = ((1 : Nat) : Int) := by rw [← HK0.out]; rfl
              refine ⟨⟨rfl, HNP.out⟩, ?_⟩
              have h8 := H9.out.swap.drop
              rw [hk1] at h8 ⊢
              exact h8
            · have hb2 : ((r : Int) == 1) = false := by simp; omega
              gi_wp2_with fail
              have e9 : ((pre.length + 1 : Nat) : Int) = (k : Int) + 1 := by rw [HK0.out]; rfl
              have h8 := H9.out
              rw [← e9] at h8 ⊢
              refine ⟨(), hr1, ?_⟩
              rw [List.length_append]
              exact h8
      · have hgR := H.out.drop.drop.blk
        have cR : W.cell? ⟨w.heap.size, 0, none⟩ = some (.bool false) := by rw [hgR.cell 0]; rfl
        have fR := hgR.frozen 0
        clear hgR
        gi_wp2_with fail
        have hst := (((H.out.drop).swap).setBlk 0 (.bool true)).swap
        refine leaves_marks (fun W' h' => ⟨.bool true, results_cell1 rfl _ _ _ Tryz.underlying4 rfl (by rfl) (by rw [h'.blk.cell 0]; rfl), rfl, h'.bel⟩) D _ hst

/-! ### THE ROW's STEP -/
theorem own : ownKnob Tryz.prog.godebug = none := by kernel_rfl
theorem laidOut : laidOutB Tryz.prog = true := by kernel_rfl

set_option maxRecDepth 100000 in
theorem contract (H : Type) (enc : TypeId × Value → H) (W : World) (base : Nat) (args : Array Value) (ds gs : List (DataW H)) (before : List MemPlace)
    (hval0 : ∀ (j : Nat) t v, Tryz.f3.params[j]? = some t → args[j]? = some v → Value.okWide Tryz.prog W .any base t v)
    (hW : DataW.Whole enc Tryz.prog Tryz.f3.params.toList Rows.lexerScansSpec.vars false W args.toList ds gs before)
    (hsz : (DataW.weightsEach Tryz.prog (Tryz.f3.params.toList ++ (OpenSpec.ofChange Rows.lexerScansSpec).bare.plain.varTypes Tryz.prog) (ds ++ gs)).all (· ≤ reachBytes) = true) (hL : laidMetH Tryz.prog Rows.lexerScansRow.laid W) (hSh : W.ShapedOpen Tryz.prog) :
    Calls Tryz.prog 3 args W fun e W' => ∃ v, e = .returned v ∧ Rows.lexerScansSpec.post enc Tryz.prog Tryz.f3 false true false false W args v W' := by
  have hval : ∀ (j : Nat) t v, Tryz.f3.params[j]? = some t → args[j]? = some v → Value.okWide Tryz.prog W .any base t v := hval0
  have hW' := hW
  obtain ⟨p, q, hA0, hV, rfl, hfz, hnd⟩ := hW
  have hA : DataW.TrodAll enc Tryz.prog W 0 (fun _ => true) true Tryz.f3.params.toList args.toList ds p := hA0
  rw [Tryz.params3] at hA hval
  obtain ⟨v0, vs0, d0, ds0, p0, q0, hargs, rfl, rfl, h0, r0⟩ := trodAll_cons hA
  obtain ⟨rfl, rfl, rfl⟩ := trodAll_nil r0
  obtain rfl : args = #[v0] := by cases args; simp_all
  obtain ⟨rfl, rfl⟩ := trodVars_none hV
  have k0 := h0
  have lt0 : ∀ x ∈ p0, x.block < W.heap.size := by obtain ⟨m, hm⟩ := k0; exact DataW.trod_lt m _ _ _ hm
  have w0 := reach_at hsz (j := 0) rfl rfl
  clear hA0 hval0 hsz
  obtain ⟨s0, rfl, hx0⟩ := open_lexany (hval 0 _ v0 rfl rfl) w0 h0 lt0
  refine (walk W (lxw_of hL hSh) hx0).mono fun e W' ⟨he, bel⟩ => ?_
  subst he
  exact ⟨_, rfl, _, _, _, [], _, [], hW', trodAll_mk1 (shut_bool Tryz.underlying4 _), (trodAll_cons_mk (Below.trod laidOut (by kernel_rfl) (of_decide_eq_true (by kernel_rfl)) k0 bel lt0) trodAll_mk0), rfl, bel.frame _, fun h => by cases h⟩

theorem laid_met (os : Os) : laidMet Tryz.prog Rows.lexerScansRow.laid ((laidWorld os).forCall (fun _ _ => 0) ⟨#[], #[.string ByteArray.empty], []⟩).memory :=
  laid_met0 os
theorem reads (os : Os) {H : Type} (enc : TypeId × Value → H) : ∃ places, DataW.whole enc Tryz.prog ((laidWorld os).forCall (fun _ _ => 0) ⟨#[], #[.string ByteArray.empty], []⟩).memory Tryz.f3.params.toList Rows.lexerScansSpec.vars false (#[.string ByteArray.empty] : Array Value).toList 8 = some ([.lit (.string [])], [], places) :=
  ⟨[], by kernel_rfl⟩

set_option maxRecDepth 100000 in
theorem lifted (os : Os) (started : os.Started) (H : Type) (enc : TypeId × Value → H) (F : Stop.Interp) :
    ReturnsInHanded {} Tryz.checked os 3 .any ((OpenSpec.ofChange Rows.lexerScansSpec).preRow enc Tryz.prog Tryz.f3 Rows.lexerScansRow.domain false Rows.lexerScansRow.laid) (((OpenSpec.ofChange Rows.lexerScansSpec).at F).post enc Tryz.prog Tryz.f3 false true false false) := by
  obtain ⟨places, hx⟩ := reads os enc
  refine returnsInHanded_of_row (C := Tryz.checked) (s := (OpenSpec.ofChange Rows.lexerScansSpec)) own started (by kernel_rfl) Tryz.func3
    (witness_row_at (enc := enc) (C := Tryz.checked) false (laidWorld os) #[.string ByteArray.empty] rfl (by kernel_rfl) (by kernel_rfl) (by kernel_rfl)
      (OpenSpec.preRow_of_cond 8 hx (by kernel_rfl) (fun k hk => by cases hk) (by kernel_rfl) (laid_met os))) ?_
  intro W base args ds gs before hval hW _ hcond hsz hL hSh _
  exact contract H enc W base args ds gs before hval hW hsz hL hSh

theorem said : Rows.LexerScansSaid :=
  OpenClaim.holds_of_cond 3 Tryz.f3 rfl rfl rfl rfl rfl rfl rfl ⟨rfl, rfl, rfl, rfl, rfl⟩ rfl rfl rfl rfl rfl (by kernel_rfl) Tryz.func3 (by kernel_rfl)
    (of_decide_eq_true (by kernel_rfl)) (by unfold Func.isWrapper; rw [if_neg (of_decide_eq_false (by kernel_rfl))]; exact ⟨rfl, rfl⟩)
    (fun os started H enc _ F => by rw [OpenClaim.pre_eq_preRow]; exact lifted os started H enc F)

theorem noStandIn : ∀ t ∈ ([9] : List TypeId), Tryz.prog.wantsStandIn t = false := by
  intro t ht
  simp only [List.mem_cons, List.not_mem_nil, or_false] at ht
  rcases ht with rfl
  · exact (show Tryz.prog.wantsStandIn 9 = false by kernel_rfl)
theorem plain (f : FuncId) (fn : Func) (hf : Tryz.pinned.checked.prog.funcNamed "satchel/satchellaw24.LexerScans" = some f) (hfn : Tryz.pinned.checked.prog.funcs[f]? = some fn) :
    true = Tryz.pinned.checked.prog.looks [] ∧ ∀ (j : Nat) t, fn.params[j]? = some t → Tryz.pinned.checked.prog.wantsStandIn t = false := by
  obtain rfl : f = 3 := Option.some.inj ((show Tryz.prog.funcNamed "satchel/satchellaw24.LexerScans" = some 3 by kernel_rfl).symm.trans hf) |>.symm
  obtain rfl : fn = Tryz.f3 := (Option.some.inj (Tryz.func3.symm.trans hfn)).symm
  refine ⟨by kernel_rfl, fun j t ht => ?_⟩
  rw [Tryz.params3] at ht
  exact noStandIn t (by simpa using Array.mem_of_getElem? ht)

/-- THE CARD -/
theorem proved : Rows.LexerScansCardSaid :=
  Claim7.holds_tied_plain_at .later [] _ _ _ _ said (fun _ h => by cases h) (by kernel_rfl) (fun _ h => by cases h) lexerScans_row_tie rfl ⟨rfl, rfl⟩ (by kernel_rfl) rfl plain (by kernel_rfl)
end Go.Proofs.YthmgkjfohkadoaaGreatDoor.lexerScans
