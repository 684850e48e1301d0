/- A range over a function whose yielded things bear facts of memory: the loop's record is one more object among the objects, and the sequence tells the body what it has laid. No program is named here. -/
import Derived.Test.YthmgkjfohkadoaaGreatDoorSep
import Derived.RangeFuncNested
import Derived.RangeFuncCalls
import Derived.RangeFuncLeaves
import Derived.OwnWalkIn
import Derived.OrdersIn
import Derived.Deep.RegionHeld3
namespace Go.Proofs.YthmgkjfohkadoaaGreatDoor
open Go.RowKit
set_option linter.unusedVariables false

/-- the loop's record, and the block of its deferred calls, as one object -/
def RecA (l d : Nat) (o : Obj) : Ass := fun w F => w.heap[l]? = some o ∧ w.heap[d]? = some (.deferred (some [])) ∧ l ≠ d ∧ F = fun k => k = l ∨ k = d
instance stableRec {l d : Nat} {o : Obj} : Stable (RecA l d o) where
  lt := by
    rintro w F ⟨h1, h2, _, rfl⟩ k (rfl | rfl)
    · exact (Array.getElem?_eq_some_iff.1 h1).1
    · exact (Array.getElem?_eq_some_iff.1 h2).1
  keep := by
    rintro w w' F ⟨h1, h2, h3, rfl⟩ _ hk
    exact ⟨(hk l (.inl rfl)).trans h1, (hk d (.inr rfl)).trans h2, h3, rfl⟩
theorem Only.put {S : Nat → Prop} (w : World) (l : Nat) (o : Obj) (hl : S l) : Only S w (w.putObj l o) :=
  ⟨rfl, rfl, rfl, by simp, fun i _ hn => World.putObj_heap_other fun e => hn (e ▸ hl)⟩
section
variable {S : Fp} {L : List Ass} {w0 w w' : World} {l d : Nat} {o o' : Obj}
theorem St.recAt (h : St S (RecA l d o :: L) w0 w) : w.heap[l]? = some o ∧ w.heap[d]? = some (.deferred (some [])) ∧ l ≠ d := by
  obtain ⟨F, h1, h2, h3, _⟩ := h.head
  exact ⟨h1, h2, h3⟩
theorem St.recTurn [Stable (Sep L)] (h : St S (RecA l d o :: L) w0 w) (o' : Obj) : St S (RecA l d o' :: L) w0 (w.putObj l o') := by
  obtain ⟨F, ⟨h1, h2, h3, rfl⟩, ht⟩ := h.turn
  exact ht _ _ ⟨_, ⟨World.putObj_heap_same (Array.getElem?_eq_some_iff.1 h1).1, (World.putObj_heap_other (Ne.symm h3)).trans h2, h3, rfl⟩, Only.put w l o' (.inl rfl), fun k hk => .inl hk⟩
theorem St.recNew [Stable (Sep L)] (h : St S L w0 w) (o : Obj) : St S (RecA (w.heap.size + 1) w.heap.size o :: L) w0 ((w.alloc (.deferred (some []))).alloc o) := by
  refine h.add (((Below.refl _ w).alloc (Nat.le_refl _) _).alloc (by simp) _) ⟨?_, ?_, by omega, rfl⟩ ?_
  · have := World.alloc_heap_new (w.alloc (.deferred (some []))) o
    rwa [World.size_alloc] at this
  · exact (Below.heap_alloc _ _ _ (by simp)).trans (World.alloc_heap_new w _)
  · rintro k (rfl | rfl) <;> omega
/-- behind the loop, when the block of the deferred calls is shut -/
theorem St.recEnd [Stable (Sep L)] (h : St S (RecA l d o :: L) w0 w) (x : Obj) : St S L w0 (w.putObj d x) := by
  obtain ⟨F, ⟨h1, h2, h3, rfl⟩, ht⟩ := h.turn
  exact (ht (Sep []) _ ⟨fun _ => False, rfl, Only.put w d x (.inr rfl), fun _ hk => hk.elim⟩).map fun F hF => by
    obtain ⟨G, H, hG, hH, _, rfl⟩ := hF
    have e : (fun k => G k ∨ H k) = H := by
      funext k
      have hg : G = fun _ => False := hG
      exact propext ⟨fun q => q.elim (fun q => by rw [hg] at q; exact q.elim) id, .inr⟩
    rw [e]
    exact hH
end

/-- What a sequence does whose rounds find in A what it wants: from the world that a round has left it goes by Y to one in which it hands x on; of its own it wants back K. -/
def SeqW {α : Type} (P : Program) (g : Nat) (lb : Array Value) (encs : α → Array Value) (A : World → Prop) (Y : List α → α → World → World → Prop) (K : α → World → Prop) (T : List α → World → Prop) (Tp : List α → Prop) : Prop :=
  ∀ (l : Nat) (J Jx : List α → World → Prop) (W : World), (∀ pre V, J pre V → A V) →
    (∀ pre x V V1, J pre V → Y pre x V V1 → YieldAt Fence.wide 8 P l (encs x) V1 fun e V' => (e = .returned (.bool true) ∧ J (pre ++ [x]) V' ∧ K x V') ∨ (e = .returned (.bool false) ∧ Jx (pre ++ [x]) V')) →
    J [] W →
    CallsIn Fence.wide 9 P g (#[.func (.yield l) #[] #[]] ++ lb) W fun e W' => (∃ v, e = .returned v) ∧ ((∃ xs V, T xs V ∧ J xs V ∧ Below V.heap.size V W') ∨ (∃ pre V, Tp pre ∧ Jx pre V ∧ Below V.heap.size V W'))

/-- how a round's body may be left -/
def leftBy {α : Type} (R : World → Prop) (Ix : Code → List α → World → Prop) (xs : List α) : Exit → Act → World → Prop
  | .normal, _, W => R W
  | .ret, _, W => Ix .ret xs W
  | .exit id, _, W => Ix (.exit id) xs W
  | .goto t, _, W => Ix (.goto t) xs W
  | .panic _, _, _ => False
  | .outgrown, _, _ => False

/-- a state that holds the loop's record o, whatever that is -/
structure Bears (l d : Nat) (X : Obj → World → Prop) : Prop where
  at_ : ∀ {o W}, X o W → W.heap[l]? = some o ∧ W.heap[d]? = some (.deferred (some []))
  turn : ∀ {o W} (o' : Obj), X o W → X o' (W.putObj l o')
  below : ∀ {o W W'}, X o W → Below W.heap.size W W' → X o W'

/-- objects behind the record, of which a fact may speak -/
theorem bears_ex {S : Fp} {w0 : World} {l d : Nat} {ι : Type} {g : ι → List Ass} [∀ i, Stable (Sep (g i))] {φ : ι → Prop} : Bears l d fun o W => ∃ i, φ i ∧ St S (RecA l d o :: g i) w0 W where
  at_ := by
    rintro o W ⟨i, _, h⟩
    exact ⟨h.recAt.1, h.recAt.2.1⟩
  turn := by
    rintro o W o' ⟨i, hf, h⟩
    exact ⟨i, hf, h.recTurn o'⟩
  below := by
    rintro o W W' ⟨i, hf, h⟩ hb
    exact ⟨i, hf, h.below hb⟩

theorem wpIn_rangeW {P : Program} {α : Type} {g : Operand} {ps : Array Tmp} {assign body : Code} {Q : Exit → Act → World → Prop} {a : Act} {w : World} {m : Nat} (hm : m = 10)
    {gf : Nat} {lb : Array Value} (hg : a.eval g = .func (.func gf) #[] lb) (eg : ∀ args w, (callFunc gf args).run P w = .ok (.enter gf args) w)
    {encs : α → Array Value} (hps : ∀ x, (encs x).size = ps.size) {A : World → Prop} {Y : List α → α → World → World → Prop} {K : α → World → Prop} {T : List α → World → Prop} {Tp : List α → Prop} (hseq : SeqW P gf lb encs A Y K T Tp)
    (I : Obj → List α → World → Prop) (M : Obj → List α → α → World → Prop) (N : Obj → List α → α → Act → World → Prop) (Ix : Code → Obj → List α → World → Prop) (R : Obj → List α → α → World → Prop) (Z : Obj → List α → World → Prop)
    (hI : ∀ pre, Bears (w.heap.size + 1) w.heap.size fun o => I o pre) (hM : ∀ pre x, Bears (w.heap.size + 1) w.heap.size fun o => M o pre x) (hN : ∀ pre x a, Bears (w.heap.size + 1) w.heap.size fun o => N o pre x a) (hIx : ∀ c pre, Bears (w.heap.size + 1) w.heap.size fun o => Ix c o pre) (hRb : ∀ pre x, Bears (w.heap.size + 1) w.heap.size fun o => R o pre x) (hZ : ∀ pre, Bears (w.heap.size + 1) w.heap.size fun o => Z o pre)
    (hA : ∀ o pre V, I o pre V → A V) (hY : ∀ o pre x V V1, I o pre V → Y pre x V V1 → M o pre x V1) (hR : ∀ o pre x V, R o pre x V → I o (pre ++ [x]) V ∧ K x V) (hT : ∀ o xs V, I o xs V → T xs V → Z o xs V)
    (h0 : ∀ o, I o [] ((w.alloc (.deferred (some []))).alloc o))
    (hassign : ∀ (o : Obj) (pre : List α) (x : α) (W : World), M o pre x W →
      assign.wpIn (Fence.wide.inRound (w.heap.size + 1)) 8 P (Exit.then (fun a₁ W₁ => N o pre x a₁ W₁) (fun _ _ _ => False)) { tmps := (ps.zip (encs x)).foldl (fun t (p, v) => t.setIfInBounds p v) a.tmps, defers := [] } W)
    (hbody : ∀ (o : Obj) (pre : List α) (x : α) (a₁ : Act) (W : World), N o pre x a₁ W → body.wpIn (Fence.wide.inRound (w.heap.size + 1)) 8 P (leftBy (R o pre x) (fun c => Ix c o) (pre ++ [x])) a₁ W)
    (hdone : ∀ (o : Obj) (xs : List α) (W : World), Z o xs W → Q .normal { a with defers := { target := .collected w.heap.size, args := #[] } :: a.defers } W)
    (hstop : ∀ (o : Obj) (c : Code) (pre : List α) (W : World), Tp pre → Ix c o pre W → c.wpIn Fence.wide m P Q { a with defers := { target := .collected w.heap.size, args := #[] } :: a.defers } W) :
    (Code.rangeFunc g ps assign body).wpIn Fence.wide m P Q a w := by
  subst hm
  refine wpIn_rangeFunc fun fn hfn => ?_
  have hro : Fence.wide.round = none := rfl
  rw [hro]
  obtain ⟨rec, hrec⟩ : ∃ rec : LoopState → Option Code → Loop, rec = fun st pe => { state := st, pending := pe, fn, tmps := a.tmps, params := ps, assign, body, defers := w.heap.size } := ⟨_, rfl⟩
  have hst : ∀ st pe, (rec st pe).state = st ∧ (rec st pe).pending = pe := fun st pe => by rw [hrec]; exact ⟨rfl, rfl⟩
  obtain ⟨W1, hW1⟩ : ∃ W1, (w.alloc (.deferred (some []))).alloc (.loop (rec .ready none)) = W1 := ⟨_, rfl⟩
  refine ⟨w.heap.size + 1, [{ target := .collected w.heap.size, args := #[] }], W1, { target := .fn (.func gf) lb, args := #[.func (.yield (w.heap.size + 1)) #[] #[]] }, W1, gf,
    #[.func (.yield (w.heap.size + 1)) #[] #[]] ++ lb, W1, ?_, ?_, fun _ _ => trivial, ?_, fun _ => by omega, ?_⟩
  · rw [← hW1, hrec]
    exact run_enterLoop_outer _ _ _ _ _
  · simp only [resolve, hg]
    simp [go_sem]
  · simp [invoke, go_sem, eg]
  refine (hseq (w.heap.size + 1) (I (.loop (rec .ready none))) (fun pre V => ∃ c, Ix c (.loop (rec .done (some c))) pre V) W1 (fun pre V h => hA _ pre V h) ?_ (hW1 ▸ h0 _)).mono ?_
  · -- a round
    intro pre x V V1 hJ hy
    have hm1 := hY _ pre x V V1 hJ hy
    obtain ⟨hl, _⟩ := (hM pre x).at_ hm1
    have hyield := run_yield (P := P) (args := encs x) hl (by rw [hrec]; exact hps x)
    rw [hrec] at hyield
    refine ⟨fn, _, assign, body, hyield, roundIn_of_wpIn hfn (wpIn_mono (hassign _ pre x V1 hm1) ?_)⟩
    rintro e a₁ W₁ he
    cases e with
    | normal => 
      have hn : N (.loop (rec .ready none)) pre x a₁ W₁ := he
      refine ⟨_, run_beginRound ((hN pre x a₁).at_ hn).1 (hst _ _).1, ?_⟩
      have hn2 := (hN pre x a₁).turn (.loop { rec .ready none with state := .busy }) hn
      refine wpIn_mono (hbody _ pre x a₁ _ hn2) ?_
      rintro e a3 W3 hp
      have fin : ∀ (jump : Option Code), W3.heap[w.heap.size + 1]? = some (.loop { rec .ready none with state := .busy }) →
          (Instr.endRound (w.heap.size + 1) jump).run P W3 = .ok (.bool jump.isNone) (W3.putObj (w.heap.size + 1) (.loop (rec (if jump.isNone then .ready else .done) jump))) := fun jump hl3 => by
        have h := run_endRound (P := P) jump hl3
        rw [hrec] at h ⊢
        exact h
      cases e with
      | normal => exact ⟨_, _, fin none ((hRb _ _).at_ hp).1, .inl ⟨rfl, hR _ _ _ _ ((hRb _ _).turn _ hp)⟩⟩
      | ret => exact ⟨_, _, fin (some .ret) ((hIx _ _).at_ hp).1, .inr ⟨rfl, .ret, (hIx _ _).turn _ hp⟩⟩
      | exit id => exact ⟨_, _, fin (some (.exit id)) ((hIx _ _).at_ hp).1, .inr ⟨rfl, .exit id, (hIx _ _).turn _ hp⟩⟩
      | goto t => exact ⟨_, _, fin (some (.goto t)) ((hIx _ _).at_ hp).1, .inr ⟨rfl, .goto t, (hIx _ _).turn _ hp⟩⟩
      | panic ch => exact hp.elim
      | outgrown => exact hp.elim
    | ret => exact he.elim
    | exit id => exact he.elim
    | goto t => exact he.elim
    | panic ch => exact he.elim
    | outgrown => exact he.elim
  · -- behind the sequence
    rintro e W2 ⟨⟨v, rfl⟩, (⟨xs, V, hT', hi, hb⟩ | ⟨pre, V, hT', ⟨c, hi⟩, hb⟩)⟩
    · have hi2 := (hZ _).below (hT _ _ _ hi hT') hb
      have h := run_endLoop (P := P) ((hZ _).at_ hi2).1 (by rw [(hst _ _).1]; simp)
      rw [(hst _ _).2] at h
      exact ⟨none, _, h, hdone _ xs _ ((hZ _).turn _ hi2)⟩
    · have hi2 := (hIx _ _).below hi hb
      have h := run_endLoop (P := P) ((hIx _ _).at_ hi2).1 (by rw [(hst _ _).1]; simp)
      rw [(hst _ _).2] at h
      exact ⟨some c, _, h, hstop _ c pre _ hT' ((hIx _ _).turn _ hi2)⟩

/-! ### a region that draws its order, in a round's body -/
section
variable {P : Program} {ops : Array Oper} {Q : Exit → Act → World → Prop} {l n : Nat}
theorem uponIn_of {o : Oper} {a : Act} {K K' : Act → World → Prop} (hK : ∀ a w, K a w → K' a w) : ∀ {r : Result Next}, o.upon P a K Q r → o.uponIn (Fence.wide.inRound l) n P a K' Q r := by
  intro r h
  unfold Oper.upon at h
  unfold Oper.uponIn
  split at h
  · exact hK _ _ h
  · exact hK _ _ h
  · exact hK _ _ h
  · refine ⟨fun h => (by cases h), CallsIn.inRound l ((callsIn_wide.2 h).mono ?_)⟩
    rintro (v | c | _) w'' hq
    · exact hK _ _ hq
    · exact hq
    · exact hq
  · refine ⟨fun h => (by cases h), fun c cs _ => ?_⟩
    obtain ⟨v, w', r, s⟩ := h c cs
    exact ⟨v, w', hK _ _ r, stepsIn_wide.2 s⟩
  · exact h
  · exact h.elim
theorem wpOpIn_of {K K' : Act → World → Prop} (hno : ¬ LetsOut Q) (hdf : ops.all (fun o => match o.op with | .defer _ => false | _ => true) = true) (hK : ∀ a w, K a w → K' a w) {i : Nat} {a : Act} {w : World} (h : wpOp P ops Q i K a w) : wpOpIn (Fence.wide.inRound l) n P ops Q i K' a w := by
  unfold wpOp at h
  unfold wpOpIn
  cases ho : ops[i]? with
  | none =>
    rw [ho] at h
    exact hK _ _ h
  | some o =>
    rw [ho] at h
    have hd : ∀ c, o.op ≠ .defer c := by
      intro c hc
      obtain ⟨hi, e⟩ := Array.getElem?_eq_some_iff.1 ho
      have := (Array.all_eq_true.1 hdf) i hi
      rw [e, hc] at this
      cases this
    simp only at h ⊢
    split at h
    · rename_i hw
      rw [if_pos hw]
      rcases h with h | ⟨_, h⟩
      · refine ⟨fun f _ => trivial, ?_⟩
        rw [show (Fence.wide.inRound l).round = some l from rfl, Oper.semAt_some l _ _ hd]
        exact uponIn_of hK h
      · exact absurd h hno
    · rename_i hw
      rw [if_neg hw]
      exact ⟨fun f _ => trivial, hK _ _ h⟩
theorem wpAnyIn_of (hno : ¬ LetsOut Q) (hdf : ops.all (fun o => match o.op with | .defer _ => false | _ => true) = true) {md : Region.Mode} : ∀ (fuel : Nat) (listed : Array Bool) (a : Act) (w : World), wpAny P md ops Q fuel listed a w → wpAnyIn (Fence.wide.inRound l) n P md ops Q fuel listed a w
  | 0, _, _, _, h => h
  | fuel + 1, listed, a, w, h => ⟨h.1, fun i hi => wpOpIn_of hno hdf (fun a w h => wpAnyIn_of hno hdf fuel _ a w h) (h.2 i hi)⟩
/-- a region that draws its order, in a round's body: with a condition of the world, as outside -/
theorem wpIn_region_held_round {S : World → Prop} {id : Nat} {a : Act} {w : World} (hm : P.follows .mixedOrders = true) (hno : ¬ LetsOut Q) (hdf : ops.all (fun o => match o.op with | .defer _ => false | _ => true) = true) (hS : S w.drew)
    (h : S w.drew → wpAnyH P .any ops Q S ops.size (Array.replicate ops.size false) a w.drew) : (Code.region id ops true).wpIn (Fence.wide.inRound l) n P Q a w :=
  wpIn_region_any hm (wpAnyIn_of hno hdf _ _ _ _ (wpAny_of_held _ _ _ _ (h hS)))
end

end Go.Proofs.YthmgkjfohkadoaaGreatDoor
