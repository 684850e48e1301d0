/- A range over a function whose sequence turns what it was lent behind the last round, too. No program is named here. -/
import Derived.Test.YthmgkjfohkadoaaGreatDoorRangeQ
namespace Go.Proofs.YthmgkjfohkadoaaGreatDoor
open Go.RowKit
set_option linter.unusedVariables false

/-- as SeqW; at its end the sequence may have turned what it was lent: T speaks of the last round's world and the end. What a sequence does whose rounds find in A what it wants: from the world that a round has left it goes by Y to one in which it hands x on; of its own it wants back K. -/
def SeqV {α : Type} (P : Program) (g : Nat) (lb : Array Value) (encs : α → Array Value) (A : World → Prop) (Y : List α → α → World → World → Prop) (K : α → World → Prop) (T : List α → World → World → Prop) (Tp : List α → Prop) : Prop :=
  ∀ (l : Nat) (J Jx : List α → World → Prop) (W : World), (∀ pre V, J pre V → A V) →
    (∀ pre x V V1, J pre V → Y pre x V V1 → YieldAt Fence.wide 8 P l (encs x) V1 fun e V' => (e = .returned (.bool true) ∧ J (pre ++ [x]) V' ∧ K x V') ∨ (e = .returned (.bool false) ∧ Jx (pre ++ [x]) V')) →
    J [] W →
    CallsIn Fence.wide 9 P g (#[.func (.yield l) #[] #[]] ++ lb) W fun e W' => (∃ v, e = .returned v) ∧ ((∃ xs V, J xs V ∧ T xs V W') ∨ (∃ pre V, Tp pre ∧ Jx pre V ∧ Below V.heap.size V W'))

theorem wpIn_rangeV {P : Program} {α : Type} {g : Operand} {ps : Array Tmp} {assign body : Code} {Q : Exit → Act → World → Prop} {a : Act} {w : World} {m : Nat} (hm : m = 10)
    {gf : Nat} {lb : Array Value} (hg : a.eval g = .func (.func gf) #[] lb) (eg : ∀ args w, (callFunc gf args).run P w = .ok (.enter gf args) w)
    {encs : α → Array Value} (hps : ∀ x, (encs x).size = ps.size) {A : World → Prop} {Y : List α → α → World → World → Prop} {K : α → World → Prop} {T : List α → World → World → Prop} {Tp : List α → Prop} (hseq : SeqV P gf lb encs A Y K T Tp)
    (I : Obj → List α → World → Prop) (M : Obj → List α → α → World → Prop) (N : Obj → List α → α → Act → World → Prop) (Ix : Code → Obj → List α → World → Prop) (R : Obj → List α → α → World → Prop) (Z : Obj → List α → World → Prop)
    (hI : ∀ pre, Bears (w.heap.size + 1) w.heap.size fun o => I o pre) (hM : ∀ pre x, Bears (w.heap.size + 1) w.heap.size fun o => M o pre x) (hN : ∀ pre x a, Bears (w.heap.size + 1) w.heap.size fun o => N o pre x a) (hIx : ∀ c pre, Bears (w.heap.size + 1) w.heap.size fun o => Ix c o pre) (hRb : ∀ pre x, Bears (w.heap.size + 1) w.heap.size fun o => R o pre x) (hZ : ∀ pre, Bears (w.heap.size + 1) w.heap.size fun o => Z o pre)
    (hA : ∀ o pre V, I o pre V → A V) (hY : ∀ o pre x V V1, I o pre V → Y pre x V V1 → M o pre x V1) (hR : ∀ o pre x V, R o pre x V → I o (pre ++ [x]) V ∧ K x V) (hT : ∀ o xs V W, I o xs V → T xs V W → Z o xs W)
    (h0 : ∀ o, I o [] ((w.alloc (.deferred (some []))).alloc o))
    (hassign : ∀ (o : Obj) (pre : List α) (x : α) (W : World), M o pre x W →
      assign.wpIn (Fence.wide.inRound (w.heap.size + 1)) 8 P (Exit.then (fun a₁ W₁ => N o pre x a₁ W₁) (fun _ _ _ => False)) { tmps := (ps.zip (encs x)).foldl (fun t (p, v) => t.setIfInBounds p v) a.tmps, defers := [] } W)
    (hbody : ∀ (o : Obj) (pre : List α) (x : α) (a₁ : Act) (W : World), N o pre x a₁ W → body.wpIn (Fence.wide.inRound (w.heap.size + 1)) 8 P (leftBy (R o pre x) (fun c => Ix c o) (pre ++ [x])) a₁ W)
    (hdone : ∀ (o : Obj) (xs : List α) (W : World), Z o xs W → Q .normal { a with defers := { target := .collected w.heap.size, args := #[] } :: a.defers } W)
    (hstop : ∀ (o : Obj) (c : Code) (pre : List α) (W : World), Tp pre → Ix c o pre W → c.wpIn Fence.wide m P Q { a with defers := { target := .collected w.heap.size, args := #[] } :: a.defers } W) :
    (Code.rangeFunc g ps assign body).wpIn Fence.wide m P Q a w := by
  subst hm
  refine wpIn_rangeFunc fun fn hfn => ?_
  have hro : Fence.wide.round = none := rfl
  rw [hro]
  obtain ⟨rec, hrec⟩ : ∃ rec : LoopState → Option Code → Loop, rec = fun st pe => { state := st, pending := pe, fn, tmps := a.tmps, params := ps, assign, body, defers := w.heap.size } := ⟨_, rfl⟩
  have hst : ∀ st pe, (rec st pe).state = st ∧ (rec st pe).pending = pe := fun st pe => by rw [hrec]; exact ⟨rfl, rfl⟩
  obtain ⟨W1, hW1⟩ : ∃ W1, (w.alloc (.deferred (some []))).alloc (.loop (rec .ready none)) = W1 := ⟨_, rfl⟩
  refine ⟨w.heap.size + 1, [{ target := .collected w.heap.size, args := #[] }], W1, { target := .fn (.func gf) lb, args := #[.func (.yield (w.heap.size + 1)) #[] #[]] }, W1, gf,
    #[.func (.yield (w.heap.size + 1)) #[] #[]] ++ lb, W1, ?_, ?_, fun _ _ => trivial, ?_, fun _ => by omega, ?_⟩
  · rw [← hW1, hrec]
    exact run_enterLoop_outer _ _ _ _ _
  · simp only [resolve, hg]
    simp [go_sem]
  · simp [invoke, go_sem, eg]
  refine (hseq (w.heap.size + 1) (I (.loop (rec .ready none))) (fun pre V => ∃ c, Ix c (.loop (rec .done (some c))) pre V) W1 (fun pre V h => hA _ pre V h) ?_ (hW1 ▸ h0 _)).mono ?_
  · -- a round
    intro pre x V V1 hJ hy
    have hm1 := hY _ pre x V V1 hJ hy
    obtain ⟨hl, _⟩ := (hM pre x).at_ hm1
    have hyield := run_yield (P := P) (args := encs x) hl (by rw [hrec]; exact hps x)
    rw [hrec] at hyield
    refine ⟨fn, _, assign, body, hyield, roundIn_of_wpIn hfn (wpIn_mono (hassign _ pre x V1 hm1) ?_)⟩
    rintro e a₁ W₁ he
    cases e with
    | normal => 
      have hn : N (.loop (rec .ready none)) pre x a₁ W₁ := he
      refine ⟨_, run_beginRound ((hN pre x a₁).at_ hn).1 (hst _ _).1, ?_⟩
      have hn2 := (hN pre x a₁).turn (.loop { rec .ready none with state := .busy }) hn
      refine wpIn_mono (hbody _ pre x a₁ _ hn2) ?_
      rintro e a3 W3 hp
      have fin : ∀ (jump : Option Code), W3.heap[w.heap.size + 1]? = some (.loop { rec .ready none with state := .busy }) →
          (Instr.endRound (w.heap.size + 1) jump).run P W3 = .ok (.bool jump.isNone) (W3.putObj (w.heap.size + 1) (.loop (rec (if jump.isNone then .ready else .done) jump))) := fun jump hl3 => by
        have h := run_endRound (P := P) jump hl3
        rw [hrec] at h ⊢
        exact h
      cases e with
      | normal => exact ⟨_, _, fin none ((hRb _ _).at_ hp).1, .inl ⟨rfl, hR _ _ _ _ ((hRb _ _).turn _ hp)⟩⟩
      | ret => exact ⟨_, _, fin (some .ret) ((hIx _ _).at_ hp).1, .inr ⟨rfl, .ret, (hIx _ _).turn _ hp⟩⟩
      | exit id => exact ⟨_, _, fin (some (.exit id)) ((hIx _ _).at_ hp).1, .inr ⟨rfl, .exit id, (hIx _ _).turn _ hp⟩⟩
      | goto t => exact ⟨_, _, fin (some (.goto t)) ((hIx _ _).at_ hp).1, .inr ⟨rfl, .goto t, (hIx _ _).turn _ hp⟩⟩
      | panic ch => exact hp.elim
      | outgrown => exact hp.elim
    | ret => exact he.elim
    | exit id => exact he.elim
    | goto t => exact he.elim
    | panic ch => exact he.elim
    | outgrown => exact he.elim
  · -- behind the sequence
    rintro e W2 ⟨⟨v, rfl⟩, (⟨xs, V, hi, hT'⟩ | ⟨pre, V, hT', ⟨c, hi⟩, hb⟩)⟩
    · have hi2 := hT _ _ _ _ hi hT'
      have h := run_endLoop (P := P) ((hZ _).at_ hi2).1 (by rw [(hst _ _).1]; simp)
      rw [(hst _ _).2] at h
      exact ⟨none, _, h, hdone _ xs _ ((hZ _).turn _ hi2)⟩
    · have hi2 := (hIx _ _).below hi hb
      have h := run_endLoop (P := P) ((hIx _ _).at_ hi2).1 (by rw [(hst _ _).1]; simp)
      rw [(hst _ _).2] at h
      exact ⟨some c, _, h, hstop _ c pre _ hT' ((hIx _ _).turn _ hi2)⟩

end Go.Proofs.YthmgkjfohkadoaaGreatDoor
