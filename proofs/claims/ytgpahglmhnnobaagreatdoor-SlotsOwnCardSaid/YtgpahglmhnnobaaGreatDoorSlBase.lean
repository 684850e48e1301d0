/- slots: keys with their values in memory, read; as objects that are new; no function of the program is named here. -/
import Derived.Test.YtgpahglmhnnobaaGreatDoorValCopy
import Derived.Test.YtgpahglmhnnobaaGreatDoorValEnc
import Derived.Test.YtgpahglmhnnobaaGreatDoorApList
import Derived.Test.YtgpahglmhnnobaaGreatDoorSep
import Derived.Deep.AppendLies
import Derived.Deep.QuietTactic
import Derived.BigQuiet
namespace Go.Proofs.YtgpahglmhnnobaaGreatDoor
open Go.RowKit
set_option linter.unusedVariables false

/-- a key and its value -/
structure Kv where
  k : Int
  v : Vv
abbrev i64ok (n : Int) : Prop := -9223372036854775808 ≤ n ∧ n ≤ 9223372036854775807
/-- A list of structs at A: element k stands as 'at_' says, size cells apart. -/
def Rows {α : Type} (size : Nat) (at_ : World → Nat → Nat → Nat → α → Prop) (w : World) (B : Nat) (A : Option Addr) (L : List α) : Prop :=
  ∀ k x, L[k]? = some x → ∃ b off, A = some ⟨b, off, none⟩ ∧ b < B ∧ at_ w B b (off + k * size) x
theorem Rows.nil {α : Type} (size : Nat) (at_ : World → Nat → Nat → Nat → α → Prop) (w : World) (B : Nat) (A : Option Addr) : Rows size at_ w B A [] := fun k x h => by simp at h
theorem Rows.keep {α : Type} {size : Nat} {at_ : World → Nat → Nat → Nat → α → Prop} {w w' : World} {B B' : Nat} {A : Option Addr} {L : List α} (h : Rows size at_ w B A L) (hB : B ≤ B')
    (k : ∀ b off x, b < B → at_ w B b off x → at_ w' B' b off x) : Rows size at_ w' B' A L := fun i x hx => by
  obtain ⟨b, off, e, hb, ha⟩ := h i x hx
  exact ⟨b, off, e, by omega, k b _ x hb ha⟩
/-- a key's and its value's cells -/
def kcells (p : Kv) (A : Option Addr) (c : Nat) (A' : Option Addr) (c' : Nat) : Array Value := #[.int .i64 p.k, .int .i64 p.v.k, .int .i64 p.v.n, .string p.v.s, .slice A p.v.ns.length c, .slice A' p.v.ts.length c']
/-- cells stand from off on -/
def CellsAt (w : World) (b off : Nat) (cs : Array Value) : Prop := ∀ i u, cs[i]? = some u → w.cell? ⟨b, off + i, none⟩ = some u
theorem CellsAt.below {w w' : World} {B b off : Nat} {cs : Array Value} (h : CellsAt w b off cs) (hb : Below B w w') (hB : b < B) : CellsAt w' b off cs := fun i u hu => (hb.cell (p := ⟨b, off + i, none⟩) hB).trans (h i u hu)
def KvAt (w : World) (B b off : Nat) (p : Kv) : Prop := ∃ A c A' c', CellsAt w b off (kcells p A c A' c') ∧ RL ivl w B A p.v.ns ∧ RL svl w B A' p.v.ts ∧ Vok p.v ∧ i64ok p.k
theorem KvAt.below {w w' : World} {B b off : Nat} {p : Kv} (h : KvAt w B b off p) (hb : Below B w w') (hB : b < B) : KvAt w' B b off p := by
  obtain ⟨A, c, A', c', h1, h2, h3, h4⟩ := h
  exact ⟨A, c, A', c', h1.below hb hB, h2.below hb, h3.below hb, h4⟩
theorem KvAt.more {w : World} {B B' b off : Nat} {p : Kv} (h : KvAt w B b off p) (hB : B ≤ B') : KvAt w B' b off p := by
  obtain ⟨A, c, A', c', h1, h2, h3, h4⟩ := h
  exact ⟨A, c, A', c', h1, h2.more hB, h3.more hB, h4⟩
abbrev KvsR := Rows 6 KvAt
theorem KvsR.below {w w' : World} {B : Nat} {A : Option Addr} {L : List Kv} (h : KvsR w B A L) (hb : Below B w w') : KvsR w' B A L := h.keep (Nat.le_refl _) fun b off x hlt h => h.below hb hlt
theorem KvsR.more {w : World} {B B' : Nat} {A : Option Addr} {L : List Kv} (h : KvsR w B A L) (hB : B ≤ B') : KvsR w B' A L := h.keep hB fun b off x hlt h => h.more hB
theorem kv_cells {w : World} {b off : Nat} {p : Kv} {A : Option Addr} {c : Nat} {A' : Option Addr} {c' : Nat} (h : CellsAt w b off (kcells p A c A' c')) :
    w.cell? ⟨b, off, none⟩ = some (.int .i64 p.k) ∧ w.cell? ⟨b, off + 1, none⟩ = some (.int .i64 p.v.k) ∧ w.cell? ⟨b, off + 2, none⟩ = some (.int .i64 p.v.n) ∧ w.cell? ⟨b, off + 3, none⟩ = some (.string p.v.s) ∧
      w.cell? ⟨b, off + 4, none⟩ = some (.slice A p.v.ns.length c) ∧ w.cell? ⟨b, off + 5, none⟩ = some (.slice A' p.v.ts.length c') :=
  ⟨h 0 _ rfl, h 1 _ rfl, h 2 _ rfl, h 3 _ rfl, h 4 _ rfl, h 5 _ rfl⟩
/-- a row of structs -/
def RwA (e : TypeId) (size : Nat) (v : Value) (n : Nat) (cs : List Value) : Ass := fun w F => w.ownsRow 0 e size v n cs ∧ F = rfp v
instance stableRw {e : TypeId} {size : Nat} {v : Value} {n : Nat} {cs : List Value} : Stable (RwA e size v n cs) where
  lt := by
    rintro w F ⟨h, rfl⟩ k hk
    exact (h.lt k hk).2
  keep := by
    rintro w w' F ⟨h, rfl⟩ _ hk
    exact ⟨ownsRow_keep h hk, rfl⟩
section
variable {S : Fp} {l : List Ass} {w0 w w' : World} {e : TypeId} {size : Nat}
theorem St.rw_ {v : Value} {n : Nat} {cs : List Value} (h : St S (RwA e size v n cs :: l) w0 w) : w.ownsRow 0 e size v n cs := by
  obtain ⟨F, h, _⟩ := h.head
  exact h
theorem St.newNilRw [Stable (Sep l)] (h : St S l w0 w) {N : Nat} (hn : w.heap.size = N) (hs : 0 < size) : St S (RwA e size (.slice (some ⟨N, 0, none⟩) 0 0) 0 [] :: l) w0 (w.alloc (.cells #[] e)) := by
  subst hn
  exact h.add (F := rfp (.slice (some ⟨w.heap.size, 0, none⟩) 0 0)) ((Below.refl _ _).alloc (Nat.le_refl _) _) ⟨World.ownsRow_lit (size := size) w #[] 0 (Nat.zero_le _) (Nat.zero_le _) (by simp), rfl⟩ fun k hk => by
    simp only [rfp, Value.ownBlock, Option.some.injEq] at hk
    omega
theorem St.nilRw (h : St S l w0 w) (e : TypeId) (size : Nat) : St S (RwA e size (.slice none 0 0) 0 [] :: l) w0 w := by
  obtain ⟨F, h1, h2, h3⟩ := h
  refine ⟨F, ⟨fun _ => False, F, ⟨World.ownsRow_nil w 0 e size, by funext k; simp [rfp, Value.ownBlock]⟩, h1, fun _ h => h.elim, by funext k; simp⟩, h2, h3⟩
theorem St.grewRw [Stable (Sep l)] {v v' : Value} {n n' : Nat} {cs cs' : List Value} (h : St S (RwA e size v n cs :: l) w0 w) (ho : w'.ownsRow 0 e size v' n' cs') (hg : w.grownBy w' v.ownBlock) {N : Nat} (ha : v'.ownBlock = v.ownBlock ∨ v'.ownBlock = some N) (hn : w.heap.size ≤ N) : St S (RwA e size v' n' cs' :: l) w0 w' := by
  obtain ⟨F, ⟨_, rfl⟩, k⟩ := h.turn
  refine k _ _ ⟨_, ⟨ho, rfl⟩, Only.of_grown hg, fun i hi => ?_⟩
  rcases ha with e | e
  · exact .inl (e.symm.trans hi)
  · have : some N = some i := e.symm.trans hi
    injection this with this
    exact .inr (by omega)
/-- the one object that a call leaves -/
theorem St.fin {P : Ass} (h : St Zf [P] w w') : ∃ F, P w' F ∧ (∀ k, F k → w.heap.size ≤ k) ∧ Below w.heap.size w w' := by
  have hb := h.bel
  obtain ⟨_, ⟨G, H, h1, h2, h3, rfl⟩, h4, h5⟩ := h
  exact ⟨G, h1, fun k hk => (h5 k (.inl hk)).elim (fun h => h.elim) id, hb⟩
end

theorem Sep.two {P Q : Ass} {w : World} {F G : Fp} (h1 : P w F) (h2 : Q w G) (h3 : ∀ k, F k → ¬ G k) : Sep [P, Q] w fun k => F k ∨ G k :=
  ⟨F, G, h1, ⟨G, fun _ => False, h2, rfl, fun _ _ h => h.elim, by funext k; simp⟩, h3, rfl⟩
/-- two rows of unlike types lie apart -/
theorem rows_apart {w : World} {b b' : Nat} {e e' : TypeId} {s s' n n' : Nat} {v v' : Value} {cs cs' : List Value} (h : w.ownsRow b e s v n cs) (h' : w.ownsRow b' e' s' v' n' cs') (hne : e ≠ e') : ∀ k, rfp v k → ¬ rfp v' k := fun k h1 h2 => by
  rcases h.2 with ⟨rfl, _⟩ | ⟨g, cap, cur, rfl, _, hg, _⟩
  · cases h1
  rcases h'.2 with ⟨rfl, _⟩ | ⟨g', cap', cur', rfl, _, hg', _⟩
  · cases h2
  simp only [rfp, Value.ownBlock, Option.some.injEq] at h1 h2
  subst h1
  subst h2
  rw [hg] at hg'
  injection hg' with hg'
  injection hg' with _ h _
  exact hne h

/-- the places of two lists -/
structure Pl where
  A : Option Addr
  c : Nat
  A' : Option Addr
  c' : Nat
/-- a property's lists -/
def ppA (p : Kv) (x : Pl) : Ass := Sep [OlA ivl 2 (.slice x.A p.v.ns.length x.c) p.v.ns, OlA svl 9 (.slice x.A' p.v.ts.length x.c') p.v.ts]
instance stablePp {p : Kv} {x : Pl} : Stable (ppA p x) := inferInstanceAs (Stable (Sep _))
def pcs (q : Kv × Pl) : List Value := (kcells q.1 q.2.A q.2.c q.2.A' q.2.c').toList
theorem pcs_len (q : Kv × Pl) : (pcs q).length = 6 := rfl
theorem pcs_one (q : Kv × Pl) : ∀ u ∈ pcs q, u.oneCell' = true := by
  intro u hu
  simp only [pcs, kcells, List.mem_cons, List.not_mem_nil, or_false] at hu
  rcases hu with rfl | rfl | rfl | rfl | rfl | rfl <;> rfl
def KvOk (p : Kv) : Prop := Vok p.v ∧ i64ok p.k
def ppsA (q : Kv × Pl) : Ass := ppA q.1 q.2
instance stablePps {q : Kv × Pl} : Stable (ppsA q) := inferInstanceAs (Stable (ppA _ _))
/-- new properties -/
def KvsA (v : Value) (L : List Kv) : Ass := Ex fun X : List (Kv × Pl) => Wh (X.map (·.1) = L ∧ ∀ p ∈ L, KvOk p) (Sep [RwA 44 6 v L.length (X.flatMap pcs), Sep (X.map ppsA)])
instance stablePs {v : Value} {L : List Kv} : Stable (KvsA v L) := inferInstanceAs (Stable (Ex _))

theorem flatMap_at {α β : Type} {f : α → List β} {s : Nat} (hf : ∀ x, (f x).length = s) : ∀ (X : List α) (k : Nat) (x : α) (j : Nat), X[k]? = some x → j < s → (X.flatMap f)[k * s + j]? = (f x)[j]?
  | [], k, x, j, h, _ => by simp at h
  | y :: X, 0, x, j, h, hj => by
    simp only [List.getElem?_cons_zero, Option.some.injEq] at h
    subst h
    rw [List.flatMap_cons, Nat.zero_mul, Nat.zero_add, List.getElem?_append_left (by rw [hf]; exact hj)]
  | y :: X, k + 1, x, j, h, hj => by
    have e : (k + 1) * s + j = s + (k * s + j) := by rw [Nat.add_mul]; omega
    rw [List.flatMap_cons, e, List.getElem?_append_right (by rw [hf]; omega), hf, Nat.add_sub_cancel_left]
    exact flatMap_at hf X k x j (by simpa using h) hj
theorem flatMap_len' {α β : Type} {f : α → List β} {s : Nat} (hf : ∀ x, (f x).length = s) (X : List α) : (X.flatMap f).length = X.length * s := by
  induction X with
  | nil => simp
  | cons x X ih => rw [List.flatMap_cons, List.length_append, hf, ih, List.length_cons, Nat.add_mul]; omega

theorem OlA.rl {α : Type} {f : α → Value} {e : TypeId} {A : Option Addr} {c : Nat} {L : List α} {w : World} {F : Fp} (h : OlA f e (.slice A L.length c) L w F) : RL f w w.heap.size A L := own_form h.1
/-- a row's cells, element by element -/
theorem RwA.at_ {e : TypeId} {size : Nat} {v : Value} {n : Nat} {α : Type} {f : α → List Value} {X : List α} {w : World} {F : Fp} (h : RwA e size v n (X.flatMap f) w F) (hf : ∀ x, (f x).length = size) (hs : 0 < size) (hn : X.length = n) :
    ∃ A c, v = .slice A n c ∧ ∀ k x, X[k]? = some x → ∃ b, A = some ⟨b, 0, none⟩ ∧ b < w.heap.size ∧ ∀ j u, (f x)[j]? = some u → w.cell? ⟨b, k * size + j, none⟩ = some u := by
  obtain ⟨h, -⟩ := h
  rcases h.2 with ⟨hv, h0⟩ | ⟨g, cap, cur, hv, _, hg, h1, h2, h3, h4⟩
  · refine ⟨none, 0, by rw [hv, h0], fun k x hx => ?_⟩
    have := (List.getElem?_eq_some_iff.1 hx).1
    omega
  · refine ⟨_, cap, hv, fun k x hx => ⟨g, rfl, ?_, fun j u hu => ?_⟩⟩
    · rcases Nat.lt_or_ge g w.heap.size with h | h
      · exact h
      · rw [Array.getElem?_eq_none h] at hg; cases hg
    · have hj : j < size := by have := (List.getElem?_eq_some_iff.1 hu).1; rwa [hf] at this
      have hk := (List.getElem?_eq_some_iff.1 hx).1
      rw [cell_of_row w g _ cur e (0, 0) hg]
      have h5 := flatMap_at hf X k x j hx hj
      rw [hu, ← h4, List.getElem?_take_of_lt (by
        have : (k + 1) * size ≤ n * size := Nat.mul_le_mul_right _ (by omega)
        rw [Nat.add_mul] at this
        omega), Array.getElem?_toList] at h5
      exact h5
theorem KvsA.reads {v : Value} {L : List Kv} {w : World} {F : Fp} (h : KvsA v L w F) : ∃ A c, v = .slice A L.length c ∧ KvsR w w.heap.size A L := by
  obtain ⟨X, ⟨hX, hok⟩, G, H, h1, ⟨H1, H2, h2, _, _, _⟩, _, _⟩ := h
  have hl : X.length = L.length := by rw [← hX, List.length_map]
  obtain ⟨A, c, hv, hc⟩ := RwA.at_ h1 pcs_len (by omega) hl
  refine ⟨A, c, hv, fun k p hp => ?_⟩
  rw [← hX, List.getElem?_map, Option.map_eq_some_iff] at hp
  obtain ⟨q, hq, rfl⟩ := hp
  obtain ⟨b, hA, hb, hcs⟩ := hc k q hq
  obtain ⟨G2, hp2⟩ := Sep.mem h2 (List.mem_map.2 ⟨q, List.mem_of_getElem? hq, rfl⟩)
  obtain ⟨G3, G4, k1, ⟨G5, G6, k2, _, _, _⟩, _, _⟩ := hp2
  have ok := hok q.1 (by rw [← hX]; exact List.mem_map.2 ⟨q, List.mem_of_getElem? hq, rfl⟩)
  refine ⟨b, 0, hA, hb, q.2.A, q.2.c, q.2.A', q.2.c', fun j u hu => ?_, OlA.rl k1, OlA.rl k2, ok.1, ok.2⟩
  rw [Nat.zero_add]
  exact hcs j u (by simpa [pcs] using hu)

theorem KvsA.rd {A : Option Addr} {n c : Nat} {L : List Kv} {w : World} {F : Fp} (h : KvsA (.slice A n c) L w F) : KvsR w w.heap.size A L := by
  obtain ⟨A1, c1, e, hr⟩ := h.reads
  injection e with e1 e2 e3
  subst e1
  exact hr
end Go.Proofs.YtgpahglmhnnobaaGreatDoor
