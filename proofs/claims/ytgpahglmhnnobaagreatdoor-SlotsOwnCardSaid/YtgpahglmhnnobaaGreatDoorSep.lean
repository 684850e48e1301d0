/- Objects in memory, each with the blocks that are its own: what one call does to one object leaves the others. No program is named here. -/
import Derived.Test.YtgpahglmhnnobaaGreatDoorList
namespace Go.Proofs.YtgpahglmhnnobaaGreatDoor
open Go.RowKit
set_option linter.unusedVariables false

abbrev Fp := Nat → Prop
abbrev Ass := World → Fp → Prop

/-- an object speaks of its own blocks alone, and they are there -/
class Stable (P : Ass) : Prop where
  lt : ∀ {w : World} {F : Fp}, P w F → ∀ k, F k → k < w.heap.size
  keep : ∀ {w w' : World} {F : Fp}, P w F → w.heap.size ≤ w'.heap.size → (∀ k, F k → w'.heap[k]? = w.heap[k]?) → P w' F

/-- objects apart from each other -/
def Sep : List Ass → Ass
  | [], _, F => F = fun _ => False
  | P :: l, w, F => ∃ G H, P w G ∧ Sep l w H ∧ (∀ k, G k → ¬ H k) ∧ F = fun k => G k ∨ H k

instance stableNil : Stable (Sep []) where
  lt := by
    rintro w F rfl k h
    cases h
  keep := fun h _ _ => h
instance stableCons {P : Ass} {l : List Ass} [Stable P] [Stable (Sep l)] : Stable (Sep (P :: l)) where
  lt := by
    rintro w F ⟨G, H, h1, h2, _, rfl⟩ k (h | h)
    · exact Stable.lt h1 k h
    · exact Stable.lt (P := Sep l) h2 k h
  keep := by
    rintro w w' F ⟨G, H, h1, h2, h3, rfl⟩ hs hk
    exact ⟨G, H, Stable.keep h1 hs fun k h => hk k (.inl h), Stable.keep (P := Sep l) h2 hs fun k h => hk k (.inr h), h3, rfl⟩

/-- an object with the blocks F becomes Q: of what was there only F may have turned -/
def Turns (F : Fp) (w : World) (Q : Ass) (w' : World) : Prop := ∃ F' : Fp, Q w' F' ∧ Only F w w' ∧ ∀ k, F' k → F k ∨ w.heap.size ≤ k

/-- The objects l stand in w: what was there in w0 has not turned but for blocks of S; each object's blocks are of S or made since. -/
def St (S : Fp) (l : List Ass) (w0 w : World) : Prop := Turns S w0 (Sep l) w
/-- no block at all -/
def Zf : Fp := fun _ => False

theorem St.start (S : Fp) (w : World) : St S [] w w := ⟨fun _ => False, rfl, Only.refl _ _, fun _ h => h.elim⟩
section
variable {S : Fp} {l : List Ass} {w0 w w' : World} {P Q R U : Ass}
theorem St.size (h : St S l w0 w) : w0.heap.size ≤ w.heap.size := by
  obtain ⟨_, _, h, _⟩ := h
  exact h.size
theorem St.only (h : St S l w0 w) : Only S w0 w := by
  obtain ⟨_, _, h, _⟩ := h
  exact h
theorem St.bel (h : St Zf l w0 w) : Below w0.heap.size w0 w := h.only.below (Nat.le_refl _) fun _ _ h => h.elim
/-- what came in reads on -/
theorem St.rb (h : St Zf l w0 w) {B : Nat} {A : Option Addr} {bs : List Nat} (hr : RB w0 B A bs) (hB : B ≤ w0.heap.size) : RB w B A bs := hr.below' h.bel hB
theorem St.rl (h : St Zf l w0 w) {α : Type} {f : α → Value} {B : Nat} {A : Option Addr} {L : List α} (hr : RL f w0 B A L) (hB : B ≤ w0.heap.size) : RL f w B A L := hr.below' h.bel hB
theorem St.old (h : St Zf l w0 w) {p : Addr} (hp : p.block < w0.heap.size) : w.cell? p = w0.cell? p := h.bel.cell hp

/-- the first object turns -/
theorem St.turn [Stable (Sep l)] (h : St S (P :: l) w0 w) : ∃ F : Fp, P w F ∧ ∀ (Q : Ass) (w' : World), Turns F w Q w' → St S (Q :: l) w0 w' := by
  obtain ⟨_, ⟨G, H, h1, h2, h3, rfl⟩, h4, hb⟩ := h
  refine ⟨G, h1, fun Q w' ⟨F', q1, q2, q3⟩ => ?_⟩
  have hlt : ∀ k, H k → k < w.heap.size := Stable.lt h2
  have hs := h4.size
  refine ⟨_, ⟨F', H, q1, Stable.keep h2 q2.size fun k hk => q2.block k (hlt k hk) (fun hg => h3 k hg hk), fun k hk hh => ?_, rfl⟩, ?_, ?_⟩
  · rcases q3 k hk with hg | hg
    · exact h3 k hg hh
    · have := hlt k hh; omega
  · refine h4.trans q2 fun i hi hg => ?_
    rcases hb i (.inl hg) with h | h
    · exact h
    · omega
  · rintro k (hk | hk)
    · rcases q3 k hk with hg | hg
      · exact hb k (.inl hg)
      · exact .inr (by omega)
    · exact hb k (.inr hk)

/-- something new: made above what was there -/
theorem St.add [Stable (Sep l)] (h : St S l w0 w) {F : Fp} (hb : Below w.heap.size w w') (hq : Q w' F) (hF : ∀ k, F k → w.heap.size ≤ k) : St S (Q :: l) w0 w' := by
  obtain ⟨H, h1, h4, h2⟩ := h
  have hsz := h4.size
  have hlt : ∀ k, H k → k < w.heap.size := Stable.lt h1
  refine ⟨_, ⟨F, H, hq, Stable.keep h1 hb.size fun k hk => hb.block k (hlt k hk), fun k hk hh => ?_, rfl⟩, h4.trans (Only.of_below hb (fun _ => False)) fun _ _ h => h.elim, ?_⟩
  · have := hF k hk; have := hlt k hh; omega
  · rintro k (hk | hk)
    · have := hF k hk; exact .inr (by omega)
    · exact h2 k hk
/-- nothing of them turns -/
theorem St.below [Stable (Sep l)] (h : St S l w0 w) (hb : Below w.heap.size w w') : St S l w0 w' := by
  obtain ⟨H, h1, h4, h2⟩ := h
  exact ⟨H, Stable.keep h1 hb.size fun k hk => hb.block k (Stable.lt h1 k hk), h4.trans (Only.of_below hb (fun _ => False)) fun _ _ h => h.elim, h2⟩
theorem St.alloc [Stable (Sep l)] (h : St S l w0 w) (o : Obj) : St S l w0 (w.alloc o) := h.below ((Below.refl _ _).alloc (Nat.le_refl _) _)
theorem St.drewN [Stable (Sep l)] (h : St S l w0 w) (n : Nat) : St S l w0 (w.drewN n) := h.below (below_of_drewN _ _)
theorem St.drew [Stable (Sep l)] (h : St S l w0 w) : St S l w0 w.drew := h.below ((Below.refl _ _).drew)
/-- the first is forgotten -/
theorem St.drop (h : St S (P :: l) w0 w) : St S l w0 w := by
  obtain ⟨_, ⟨G, H, h1, h2, h3, rfl⟩, h4, hb⟩ := h
  exact ⟨H, h2, h4, fun k hk => hb k (.inr hk)⟩
theorem Sep.swap {w : World} {F : Fp} (h : Sep (P :: Q :: l) w F) : Sep (Q :: P :: l) w F := by
  obtain ⟨G, _, h1, ⟨H, I, h2, h3, h4, rfl⟩, h5, rfl⟩ := h
  refine ⟨H, _, h2, ⟨G, I, h1, h3, fun k hg hi => h5 k hg (.inr hi), rfl⟩, ?_, ?_⟩
  · rintro k hh (hg | hi)
    · exact h5 k hg (.inl hh)
    · exact h4 k hh hi
  · funext k
    exact propext ⟨fun h => h.elim (fun g => .inr (.inl g)) (fun h => h.elim .inl fun i => .inr (.inr i)), fun h => h.elim (fun g => .inr (.inl g)) (fun h => h.elim .inl fun i => .inr (.inr i))⟩
theorem St.map {l' : List Ass} (k : ∀ F, Sep l w F → Sep l' w F) (h : St S l w0 w) : St S l' w0 w := by
  obtain ⟨F, h1, h2⟩ := h
  exact ⟨F, k F h1, h2⟩
theorem St.swap (h : St S (P :: Q :: l) w0 w) : St S (Q :: P :: l) w0 w := h.map fun _ h => h.swap
theorem Sep.rest {l' : List Ass} {w : World} {F : Fp} (k : ∀ F, Sep l w F → Sep l' w F) (h : Sep (P :: l) w F) : Sep (P :: l') w F := by
  obtain ⟨G, H, h1, h2, h3, h4⟩ := h
  exact ⟨G, H, h1, k H h2, h3, h4⟩
/-- the third comes to the front -/
theorem St.bring2 (h : St S (P :: Q :: R :: l) w0 w) : St S (R :: P :: Q :: l) w0 w := h.map fun _ h => (Sep.rest (fun _ h => h.swap) h).swap
/-- the fourth comes to the front -/
theorem St.bring3 (h : St S (P :: Q :: R :: U :: l) w0 w) : St S (U :: P :: Q :: R :: l) w0 w := h.map fun _ h => (Sep.rest (fun _ h => (Sep.rest (fun _ h => h.swap) h).swap) h).swap
/-- the fifth comes to the front -/
theorem St.bring4 {V : Ass} (h : St S (P :: Q :: R :: U :: V :: l) w0 w) : St S (V :: P :: Q :: R :: U :: l) w0 w := h.map fun _ h => (Sep.rest (fun _ h => (Sep.rest (fun _ h => (Sep.rest (fun _ h => h.swap) h).swap) h).swap) h).swap
theorem Sep.bring2 {w : World} {F : Fp} (h : Sep (P :: Q :: R :: l) w F) : Sep (R :: P :: Q :: l) w F := (Sep.rest (fun _ h => h.swap) h).swap
theorem Sep.bring3 {w : World} {F : Fp} (h : Sep (P :: Q :: R :: U :: l) w F) : Sep (U :: P :: Q :: R :: l) w F := (Sep.rest (fun _ h => h.bring2) h).swap
theorem Sep.bring4 {V4 : Ass} {w : World} {F : Fp} (h : Sep (P :: Q :: R :: U :: V4 :: l) w F) : Sep (V4 :: P :: Q :: R :: U :: l) w F := (Sep.rest (fun _ h => h.bring3) h).swap
theorem Sep.bring5 {V4 V5 : Ass} {w : World} {F : Fp} (h : Sep (P :: Q :: R :: U :: V4 :: V5 :: l) w F) : Sep (V5 :: P :: Q :: R :: U :: V4 :: l) w F := (Sep.rest (fun _ h => h.bring4) h).swap
theorem St.bring5 {V4 V5 : Ass} (h : St S (P :: Q :: R :: U :: V4 :: V5 :: l) w0 w) : St S (V5 :: P :: Q :: R :: U :: V4 :: l) w0 w := h.map fun _ h => h.bring5
theorem Sep.bring6 {V4 V5 V6 : Ass} {w : World} {F : Fp} (h : Sep (P :: Q :: R :: U :: V4 :: V5 :: V6 :: l) w F) : Sep (V6 :: P :: Q :: R :: U :: V4 :: V5 :: l) w F := (Sep.rest (fun _ h => h.bring5) h).swap
theorem St.bring6 {V4 V5 V6 : Ass} (h : St S (P :: Q :: R :: U :: V4 :: V5 :: V6 :: l) w0 w) : St S (V6 :: P :: Q :: R :: U :: V4 :: V5 :: l) w0 w := h.map fun _ h => h.bring6
theorem Sep.bring7 {V4 V5 V6 V7 : Ass} {w : World} {F : Fp} (h : Sep (P :: Q :: R :: U :: V4 :: V5 :: V6 :: V7 :: l) w F) : Sep (V7 :: P :: Q :: R :: U :: V4 :: V5 :: V6 :: l) w F := (Sep.rest (fun _ h => h.bring6) h).swap
theorem St.bring7 {V4 V5 V6 V7 : Ass} (h : St S (P :: Q :: R :: U :: V4 :: V5 :: V6 :: V7 :: l) w0 w) : St S (V7 :: P :: Q :: R :: U :: V4 :: V5 :: V6 :: l) w0 w := h.map fun _ h => h.bring7
theorem Sep.bring8 {V4 V5 V6 V7 V8 : Ass} {w : World} {F : Fp} (h : Sep (P :: Q :: R :: U :: V4 :: V5 :: V6 :: V7 :: V8 :: l) w F) : Sep (V8 :: P :: Q :: R :: U :: V4 :: V5 :: V6 :: V7 :: l) w F := (Sep.rest (fun _ h => h.bring7) h).swap
theorem St.bring8 {V4 V5 V6 V7 V8 : Ass} (h : St S (P :: Q :: R :: U :: V4 :: V5 :: V6 :: V7 :: V8 :: l) w0 w) : St S (V8 :: P :: Q :: R :: U :: V4 :: V5 :: V6 :: V7 :: l) w0 w := h.map fun _ h => h.bring8
theorem Sep.bring9 {V4 V5 V6 V7 V8 V9 : Ass} {w : World} {F : Fp} (h : Sep (P :: Q :: R :: U :: V4 :: V5 :: V6 :: V7 :: V8 :: V9 :: l) w F) : Sep (V9 :: P :: Q :: R :: U :: V4 :: V5 :: V6 :: V7 :: V8 :: l) w F := (Sep.rest (fun _ h => h.bring8) h).swap
theorem St.bring9 {V4 V5 V6 V7 V8 V9 : Ass} (h : St S (P :: Q :: R :: U :: V4 :: V5 :: V6 :: V7 :: V8 :: V9 :: l) w0 w) : St S (V9 :: P :: Q :: R :: U :: V4 :: V5 :: V6 :: V7 :: V8 :: l) w0 w := h.map fun _ h => h.bring9
theorem Sep.bring10 {V4 V5 V6 V7 V8 V9 V10 : Ass} {w : World} {F : Fp} (h : Sep (P :: Q :: R :: U :: V4 :: V5 :: V6 :: V7 :: V8 :: V9 :: V10 :: l) w F) : Sep (V10 :: P :: Q :: R :: U :: V4 :: V5 :: V6 :: V7 :: V8 :: V9 :: l) w F := (Sep.rest (fun _ h => h.bring9) h).swap
theorem St.bring10 {V4 V5 V6 V7 V8 V9 V10 : Ass} (h : St S (P :: Q :: R :: U :: V4 :: V5 :: V6 :: V7 :: V8 :: V9 :: V10 :: l) w0 w) : St S (V10 :: P :: Q :: R :: U :: V4 :: V5 :: V6 :: V7 :: V8 :: V9 :: l) w0 w := h.map fun _ h => h.bring10
theorem Sep.bring11 {V4 V5 V6 V7 V8 V9 V10 V11 : Ass} {w : World} {F : Fp} (h : Sep (P :: Q :: R :: U :: V4 :: V5 :: V6 :: V7 :: V8 :: V9 :: V10 :: V11 :: l) w F) : Sep (V11 :: P :: Q :: R :: U :: V4 :: V5 :: V6 :: V7 :: V8 :: V9 :: V10 :: l) w F := (Sep.rest (fun _ h => h.bring10) h).swap
theorem St.bring11 {V4 V5 V6 V7 V8 V9 V10 V11 : Ass} (h : St S (P :: Q :: R :: U :: V4 :: V5 :: V6 :: V7 :: V8 :: V9 :: V10 :: V11 :: l) w0 w) : St S (V11 :: P :: Q :: R :: U :: V4 :: V5 :: V6 :: V7 :: V8 :: V9 :: V10 :: l) w0 w := h.map fun _ h => h.bring11
theorem Sep.bring12 {V4 V5 V6 V7 V8 V9 V10 V11 V12 : Ass} {w : World} {F : Fp} (h : Sep (P :: Q :: R :: U :: V4 :: V5 :: V6 :: V7 :: V8 :: V9 :: V10 :: V11 :: V12 :: l) w F) : Sep (V12 :: P :: Q :: R :: U :: V4 :: V5 :: V6 :: V7 :: V8 :: V9 :: V10 :: V11 :: l) w F := (Sep.rest (fun _ h => h.bring11) h).swap
theorem St.bring12 {V4 V5 V6 V7 V8 V9 V10 V11 V12 : Ass} (h : St S (P :: Q :: R :: U :: V4 :: V5 :: V6 :: V7 :: V8 :: V9 :: V10 :: V11 :: V12 :: l) w0 w) : St S (V12 :: P :: Q :: R :: U :: V4 :: V5 :: V6 :: V7 :: V8 :: V9 :: V10 :: V11 :: l) w0 w := h.map fun _ h => h.bring12
/-- the first comes to the third place -/
theorem St.back2 (h : St S (P :: Q :: R :: l) w0 w) : St S (Q :: R :: P :: l) w0 w := h.map fun _ h => Sep.rest (fun _ h => h.swap) h.swap
/-- what is known of the first -/
theorem St.head (h : St S (P :: l) w0 w) : ∃ F : Fp, P w F := by
  obtain ⟨_, ⟨G, H, h1, _⟩, _⟩ := h
  exact ⟨G, h1⟩
theorem St.mapHead (h : St S (P :: l) w0 w) (k : ∀ F, P w F → Q w F) : St S (Q :: l) w0 w := h.map (l := P :: l) fun F h => by
  obtain ⟨G, H, h1, h2, h3, h4⟩ := h
  exact ⟨G, H, k G h1, h2, h3, h4⟩
/-- an object that stands for some a -/
def Ex {α : Type} (P : α → Ass) : Ass := fun w F => ∃ a, P a w F
theorem St.ex {α : Type} {P : α → Ass} (h : St S (Ex P :: l) w0 w) : ∃ a, St S (P a :: l) w0 w := by
  obtain ⟨_, ⟨G, H, ⟨a, h1⟩, h2⟩, h3⟩ := h
  exact ⟨a, _, ⟨G, H, h1, h2⟩, h3⟩
theorem Sep.append {l' : List Ass} : ∀ {l : List Ass} {w : World} {G H : Fp}, Sep l w G → Sep l' w H → (∀ k, G k → ¬ H k) → Sep (l ++ l') w fun k => G k ∨ H k
  | [], w, G, H, h1, h2, _ => by
    subst h1
    simpa using h2
  | P :: l, w, G, H, ⟨A, B, h1, h2, h3, e⟩, h4, h5 => by
    subst e
    refine ⟨A, _, h1, Sep.append h2 h4 fun k hb hh => h5 k (.inr hb) hh, ?_, ?_⟩
    · rintro k ha (hb | hh)
      · exact h3 k ha hb
      · exact h5 k (.inl ha) hh
    · funext k
      exact propext or_assoc
theorem Sep.split {l' : List Ass} : ∀ {l : List Ass} {w : World} {F : Fp}, Sep (l ++ l') w F → ∃ G H, Sep l w G ∧ Sep l' w H ∧ (∀ k, G k → ¬ H k) ∧ F = fun k => G k ∨ H k
  | [], w, F, h => ⟨fun _ => False, F, rfl, h, fun _ h => h.elim, by funext k; simp⟩
  | P :: l, w, F, ⟨A, B, h1, h2, h3, e⟩ => by
    obtain ⟨G, H, k1, k2, k3, rfl⟩ := Sep.split (l := l) h2
    refine ⟨_, H, ⟨A, G, h1, k1, fun k ha hg => h3 k ha (.inl hg), rfl⟩, k2, ?_, ?_⟩
    · rintro k (ha | hg) hh
      · exact h3 k ha (.inr hh)
      · exact k3 k hg hh
    · subst e
      funext k
      exact propext or_assoc.symm
/-- objects in one are objects -/
theorem St.flat {l' : List Ass} (h : St S (Sep l' :: l) w0 w) : St S (l' ++ l) w0 w := h.map (l := Sep l' :: l) fun F h => by
  obtain ⟨G, H, h1, h2, h3, e⟩ := h
  subst e
  exact h1.append h2 h3
theorem St.pack {l' : List Ass} (h : St S (l' ++ l) w0 w) : St S (Sep l' :: l) w0 w := h.map (l := l' ++ l) fun F h => by
  obtain ⟨G, H, h1, h2, h3, e⟩ := Sep.split h
  exact ⟨G, H, h1, h2, h3, e⟩
end
/-- an object, and a fact -/
def Wh (φ : Prop) (P : Ass) : Ass := fun w F => φ ∧ P w F
theorem St.wh {S : Fp} {l : List Ass} {w0 w : World} {φ : Prop} {P : Ass} (h : St S (Wh φ P :: l) w0 w) : φ ∧ St S (P :: l) w0 w := by
  obtain ⟨_, ⟨G, H, ⟨hf, h1⟩, h2⟩, h3⟩ := h
  exact ⟨hf, _, ⟨G, H, h1, h2⟩, h3⟩
instance stableWh {φ : Prop} {P : Ass} [Stable P] : Stable (Wh φ P) where
  lt := by
    rintro w F ⟨_, h1⟩
    exact Stable.lt h1
  keep := by
    rintro w w' F ⟨hf, h1⟩ hs hk
    exact ⟨hf, Stable.keep h1 hs hk⟩
instance stableMap {α : Type} {f : α → Ass} [h : ∀ a, Stable (f a)] {L : List α} : Stable (Sep (L.map f)) := by
  induction L with
  | nil => exact stableNil
  | cons x r ih => exact stableCons
theorem Sep.mem {P : Ass} : ∀ {l : List Ass} {w : World} {F : Fp}, Sep l w F → P ∈ l → ∃ G, P w G
  | [], _, _, _, h => by cases h
  | Q :: l, w, F, ⟨G, H, h1, h2, _⟩, h => by
    rcases List.mem_cons.1 h with rfl | h
    · exact ⟨G, h1⟩
    · exact Sep.mem h2 h
instance stableEx {α : Type} {P : α → Ass} [h : ∀ a, Stable (P a)] : Stable (Ex P) where
  lt := by
    rintro w F ⟨a, h1⟩
    exact Stable.lt h1
  keep := by
    rintro w w' F ⟨a, h1⟩ hs hk
    exact ⟨a, Stable.keep h1 hs hk⟩

/-! ### Objects of one block or one row -/
theorem OL.reads {α : Type} {f : α → Value} {w : World} {base : Nat} {e : TypeId} {A : Option Addr} {n c : Nat} {L : List α} (h : OL f w base e (.slice A n c) L) : n = L.length ∧ RL f w w.heap.size A L ∧ n ≤ c ∧ c ≤ maxLen := by
  obtain ⟨A', c', hv, h1, h2, hr, _⟩ := h.form
  injection hv with e1 e2 e3
  subst e1 e2 e3
  exact ⟨rfl, hr, h1, h2⟩
/-- what begins a row of bytes is one -/
theorem OB.begin {w : World} {base : Nat} {e : TypeId} {A : Option Addr} {n c : Nat} {xs ys : List Nat} (h : OB w base e (.slice A n c) (xs ++ ys)) : OB w base e (.slice A xs.length c) xs := by
  rcases A with _ | ⟨g, o, s⟩
  · rcases h.2.2 with ⟨h0, h1⟩ | ⟨g', cap, cur, hv, _⟩
    · have hx : xs = [] := List.length_eq_zero_iff.1 (by rw [List.length_append] at h1; omega)
      subst hx
      simp only [Value.slice.injEq] at h0
      obtain ⟨-, -, rfl⟩ := h0
      exact OB.nil w base e
    · simp at hv
  · obtain ⟨hb, ho⟩ := h
    have ho2 := ho
    rcases ho2.2 with ⟨h0, _⟩ | ⟨g', cap, cur, hv, _⟩
    · simp at h0
    · simp only [Value.slice.injEq, Option.some.injEq, Addr.mk.injEq] at hv
      obtain ⟨⟨rfl, rfl, rfl⟩, -, -⟩ := hv
      exact OB.prefix ⟨hb, ho⟩
/-- a block known whole -/
def BlkA (g : Nat) (t : TypeId) (cs : Array Value) : Ass := fun w F => Blk w g t cs ∧ F = fun k => k = g
instance stableBlk {g : Nat} {t : TypeId} {cs : Array Value} : Stable (BlkA g t cs) where
  lt := by
    rintro w F ⟨h, rfl⟩ k rfl
    exact h.lt
  keep := by
    rintro w w' F ⟨h, rfl⟩ _ hk
    exact ⟨h.keep (hk g rfl), rfl⟩
/-- the blocks of a row -/
def rfp (v : Value) : Fp := fun k => v.ownBlock = some k
/-- a row of bytes -/
def ObA (e : TypeId) (v : Value) (bs : List Nat) : Ass := fun w F => OB w 0 e v bs ∧ F = rfp v
instance stableOb {e : TypeId} {v : Value} {bs : List Nat} : Stable (ObA e v bs) where
  lt := by
    rintro w F ⟨h, rfl⟩ k hk
    exact (h.2.lt k hk).2
  keep := by
    rintro w w' F ⟨h, rfl⟩ _ hk
    exact ⟨h.keep hk, rfl⟩
/-- a row of one-cell values -/
def OlA {α : Type} (f : α → Value) (e : TypeId) (v : Value) (L : List α) : Ass := fun w F => OL f w 0 e v L ∧ F = rfp v
instance stableOl {α : Type} {f : α → Value} {e : TypeId} {v : Value} {L : List α} : Stable (OlA f e v L) where
  lt := by
    rintro w F ⟨h, rfl⟩ k hk
    exact (h.2.lt k hk).2
  keep := by
    rintro w w' F ⟨h, rfl⟩ _ hk
    exact ⟨h.keep hk, rfl⟩
section
variable {S : Fp} {l : List Ass} {w0 w w' : World}
theorem St.newBlk [Stable (Sep l)] (h : St S l w0 w) (t : TypeId) (cs : Array Value) : St S (BlkA w.heap.size t cs :: l) w0 (w.alloc (.cells cs t)) :=
  h.add (F := fun k => k = w.heap.size) ((Below.refl _ _).alloc (Nat.le_refl _) _) ⟨Blk.new _ _ _, rfl⟩ fun k hk => by omega
/-- a new row of bytes, out of a contract -/
theorem St.newOb [Stable (Sep l)] (h : St S l w0 w) {e : TypeId} {v : Value} {bs : List Nat} (ho : OB w' w.heap.size e v bs) (hb : Below w.heap.size w w') : St S (ObA e v bs :: l) w0 w' :=
  h.add (F := rfp v) hb ⟨ho.mono (Nat.zero_le _), rfl⟩ fun k hk => (ho.2.lt k hk).1
theorem St.newOl [Stable (Sep l)] (h : St S l w0 w) {α : Type} {f : α → Value} {e : TypeId} {v : Value} {L : List α} (ho : OL f w' w.heap.size e v L) (hb : Below w.heap.size w w') : St S (OlA f e v L :: l) w0 w' :=
  h.add (F := rfp v) hb ⟨ho.mono (Nat.zero_le _), rfl⟩ fun k hk => (ho.2.lt k hk).1
/-- behind an append onto a row -/
theorem St.grewOb [Stable (Sep l)] {e e' : TypeId} {v v' : Value} {bs bs' : List Nat} (h : St S (ObA e v bs :: l) w0 w) (ho : OB w' 0 e' v' bs') (hg : w.grownBy w' v.ownBlock) {n : Nat} (ha : v'.ownBlock = v.ownBlock ∨ v'.ownBlock = some n) (hn : w.heap.size ≤ n) : St S (ObA e' v' bs' :: l) w0 w' := by
  obtain ⟨F, ⟨_, rfl⟩, k⟩ := h.turn
  refine k _ _ ⟨_, ⟨ho, rfl⟩, Only.of_grown hg, fun i hi => ?_⟩
  rcases ha with e | e
  · exact .inl (e.symm.trans hi)
  · have : some n = some i := e.symm.trans hi
    injection this with this
    exact .inr (by omega)
theorem St.grewOl [Stable (Sep l)] {α : Type} {f : α → Value} {e e' : TypeId} {v v' : Value} {L L' : List α} (h : St S (OlA f e v L :: l) w0 w) (ho : OL f w' 0 e' v' L') (hg : w.grownBy w' v.ownBlock) {n : Nat} (ha : v'.ownBlock = v.ownBlock ∨ v'.ownBlock = some n) (hn : w.heap.size ≤ n) : St S (OlA f e' v' L' :: l) w0 w' := by
  obtain ⟨F, ⟨_, rfl⟩, k⟩ := h.turn
  refine k _ _ ⟨_, ⟨ho, rfl⟩, Only.of_grown hg, fun i hi => ?_⟩
  rcases ha with e | e
  · exact .inl (e.symm.trans hi)
  · have : some n = some i := e.symm.trans hi
    injection this with this
    exact .inr (by omega)
theorem St.nilSep (h : St S l w0 w) : St S (Sep [] :: l) w0 w := h.pack (l' := [])
/-- one more of a list of objects -/
theorem St.snocSep {l' : List Ass} {P : Ass} (h : St S (P :: Sep l' :: l) w0 w) : St S (Sep (l' ++ [P]) :: l) w0 w := by
  have h1 : St S (l' ++ (P :: l)) w0 w := h.swap.flat
  exact St.pack (l' := l' ++ [P]) (by simpa using h1)
/-- nil owns nothing -/
theorem St.nilOl (h : St S l w0 w) {α : Type} (f : α → Value) (e : TypeId) : St S (OlA f e (.slice none 0 0) [] :: l) w0 w := by
  obtain ⟨F, h1, h2, h3⟩ := h
  refine ⟨F, ⟨fun _ => False, F, ⟨OL.nil f w 0 e, by funext k; simp [rfp, Value.ownBlock]⟩, h1, fun _ h => h.elim, by funext k; simp⟩, h2, h3⟩
theorem St.nilOb (h : St S l w0 w) (e : TypeId) : St S (ObA e (.slice none 0 0) [] :: l) w0 w := by
  obtain ⟨F, h1, h2, h3⟩ := h
  refine ⟨F, ⟨fun _ => False, F, ⟨OB.nil w 0 e, by funext k; simp [rfp, Value.ownBlock]⟩, h1, fun _ h => h.elim, by funext k; simp⟩, h2, h3⟩
/-- a list of no places, laid anew -/
theorem St.newNil [Stable (Sep l)] (h : St S l w0 w) {α : Type} (f : α → Value) (e : TypeId) {n : Nat} (hn : w.heap.size = n) : St S (OlA f e (.slice (some ⟨n, 0, none⟩) 0 0) [] :: l) w0 (w.alloc (.cells #[] e)) := by
  subst hn
  exact h.newOl ⟨fun x hx => (by cases hx), World.ownsRow_lit w #[] 0 (Nat.le_refl _) (Nat.zero_le _) rfl⟩ ((Below.refl _ _).alloc (Nat.le_refl _) _)
theorem St.newNilB [Stable (Sep l)] (h : St S l w0 w) (e : TypeId) {n : Nat} (hn : w.heap.size = n) : St S (ObA e (.slice (some ⟨n, 0, none⟩) 0 0) [] :: l) w0 (w.alloc (.cells #[] e)) := by
  subst hn
  exact h.newOb ⟨IsBytes.nil, World.ownsRow_lit w #[] 0 (Nat.le_refl _) (Nat.zero_le _) rfl⟩ ((Below.refl _ _).alloc (Nat.le_refl _) _)
theorem St.ob {e : TypeId} {v : Value} {bs : List Nat} (h : St S (ObA e v bs :: l) w0 w) : OB w 0 e v bs := by
  obtain ⟨F, h, _⟩ := h.head
  exact h
theorem St.ol {α : Type} {f : α → Value} {e : TypeId} {v : Value} {L : List α} (h : St S (OlA f e v L :: l) w0 w) : OL f w 0 e v L := by
  obtain ⟨F, h, _⟩ := h.head
  exact h
theorem St.blk {g : Nat} {t : TypeId} {cs : Array Value} (h : St S (BlkA g t cs :: l) w0 w) : Blk w g t cs := by
  obtain ⟨F, h, _⟩ := h.head
  exact h
/-- a store into the first block -/
theorem St.setBlk [Stable (Sep l)] {g : Nat} {t : TypeId} {cs : Array Value} (h : St S (BlkA g t cs :: l) w0 w) (i : Nat) (u : Value) : St S (BlkA g t (cs.setIfInBounds i u) :: l) w0 (w.setCell ⟨g, i, none⟩ u) := by
  obtain ⟨F, ⟨hb, rfl⟩, k⟩ := h.turn
  exact k _ _ ⟨_, ⟨hb.set_ i u, rfl⟩, Only.setCell (S := fun k => k = g) (Only.refl _ w) (p := ⟨g, i, none⟩) (.inl rfl) u, fun i hi => .inl hi⟩
end

end Go.Proofs.YtgpahglmhnnobaaGreatDoor
