/- Graphs in new memory, as objects: rows of structs, each with the lists that are its own. -/
import Derived.Test.YthnaipgdjbaebaaGreatGrBase
import Derived.Test.YthnaipgdjbaebaaGreatValCopy
import Derived.Deep.AppendLies
namespace Go.Proofs.YthnaipgdjbaebaaGreat
open Go.RowKit
set_option linter.unusedVariables false

/-- a row of structs -/
def RwA (e : TypeId) (size : Nat) (v : Value) (n : Nat) (cs : List Value) : Ass := fun w F => w.ownsRow 0 e size v n cs ∧ F = rfp v
instance stableRw {e : TypeId} {size : Nat} {v : Value} {n : Nat} {cs : List Value} : Stable (RwA e size v n cs) where
  lt := by
    rintro w F ⟨h, rfl⟩ k hk
    exact (h.lt k hk).2
  keep := by
    rintro w w' F ⟨h, rfl⟩ _ hk
    exact ⟨ownsRow_keep h hk, rfl⟩
section
variable {S : Fp} {l : List Ass} {w0 w w' : World} {e : TypeId} {size : Nat}
theorem St.rw_ {v : Value} {n : Nat} {cs : List Value} (h : St S (RwA e size v n cs :: l) w0 w) : w.ownsRow 0 e size v n cs := by
  obtain ⟨F, h, _⟩ := h.head
  exact h
theorem St.newNilRw [Stable (Sep l)] (h : St S l w0 w) {N : Nat} (hn : w.heap.size = N) (hs : 0 < size) : St S (RwA e size (.slice (some ⟨N, 0, none⟩) 0 0) 0 [] :: l) w0 (w.alloc (.cells #[] e)) := by
  subst hn
  exact h.add (F := rfp (.slice (some ⟨w.heap.size, 0, none⟩) 0 0)) ((Below.refl _ _).alloc (Nat.le_refl _) _) ⟨World.ownsRow_lit (size := size) w #[] 0 (Nat.zero_le _) (Nat.zero_le _) (by simp), rfl⟩ fun k hk => by
    simp only [rfp, Value.ownBlock, Option.some.injEq] at hk
    omega
theorem St.nilRw (h : St S l w0 w) (e : TypeId) (size : Nat) : St S (RwA e size (.slice none 0 0) 0 [] :: l) w0 w := by
  obtain ⟨F, h1, h2, h3⟩ := h
  refine ⟨F, ⟨fun _ => False, F, ⟨World.ownsRow_nil w 0 e size, by funext k; simp [rfp, Value.ownBlock]⟩, h1, fun _ h => h.elim, by funext k; simp⟩, h2, h3⟩
theorem St.grewRw [Stable (Sep l)] {v v' : Value} {n n' : Nat} {cs cs' : List Value} (h : St S (RwA e size v n cs :: l) w0 w) (ho : w'.ownsRow 0 e size v' n' cs') (hg : w.grownBy w' v.ownBlock) {N : Nat} (ha : v'.ownBlock = v.ownBlock ∨ v'.ownBlock = some N) (hn : w.heap.size ≤ N) : St S (RwA e size v' n' cs' :: l) w0 w' := by
  obtain ⟨F, ⟨_, rfl⟩, k⟩ := h.turn
  refine k _ _ ⟨_, ⟨ho, rfl⟩, Only.of_grown hg, fun i hi => ?_⟩
  rcases ha with e | e
  · exact .inl (e.symm.trans hi)
  · have : some N = some i := e.symm.trans hi
    injection this with this
    exact .inr (by omega)
/-- the one object that a call leaves -/
theorem St.fin {P : Ass} (h : St Zf [P] w w') : ∃ F, P w' F ∧ (∀ k, F k → w.heap.size ≤ k) ∧ Below w.heap.size w w' := by
  have hb := h.bel
  obtain ⟨_, ⟨G, H, h1, h2, h3, rfl⟩, h4, h5⟩ := h
  exact ⟨G, h1, fun k hk => (h5 k (.inl hk)).elim (fun h => h.elim) id, hb⟩
end

theorem Sep.two {P Q : Ass} {w : World} {F G : Fp} (h1 : P w F) (h2 : Q w G) (h3 : ∀ k, F k → ¬ G k) : Sep [P, Q] w fun k => F k ∨ G k :=
  ⟨F, G, h1, ⟨G, fun _ => False, h2, rfl, fun _ _ h => h.elim, by funext k; simp⟩, h3, rfl⟩
/-- two rows of unlike types lie apart -/
theorem rows_apart {w : World} {b b' : Nat} {e e' : TypeId} {s s' n n' : Nat} {v v' : Value} {cs cs' : List Value} (h : w.ownsRow b e s v n cs) (h' : w.ownsRow b' e' s' v' n' cs') (hne : e ≠ e') : ∀ k, rfp v k → ¬ rfp v' k := fun k h1 h2 => by
  rcases h.2 with ⟨rfl, _⟩ | ⟨g, cap, cur, rfl, _, hg, _⟩
  · cases h1
  rcases h'.2 with ⟨rfl, _⟩ | ⟨g', cap', cur', rfl, _, hg', _⟩
  · cases h2
  simp only [rfp, Value.ownBlock, Option.some.injEq] at h1 h2
  subst h1
  subst h2
  rw [hg] at hg'
  injection hg' with hg'
  injection hg' with _ h _
  exact hne h

/-- the places of two lists -/
structure Pl where
  A : Option Addr
  c : Nat
  A' : Option Addr
  c' : Nat
/-- a property's lists -/
def ppA (p : Pv) (x : Pl) : Ass := Sep [OlA ivl 2 (.slice x.A p.val.ns.length x.c) p.val.ns, OlA svl 9 (.slice x.A' p.val.ts.length x.c') p.val.ts]
instance stablePp {p : Pv} {x : Pl} : Stable (ppA p x) := inferInstanceAs (Stable (Sep _))
def pcs (q : Pv × Pl) : List Value := (pcells q.1 q.2.A q.2.c q.2.A' q.2.c').toList
theorem pcs_len (q : Pv × Pl) : (pcs q).length = 6 := rfl
theorem pcs_one (q : Pv × Pl) : ∀ u ∈ pcs q, u.oneCell' = true := by
  intro u hu
  simp only [pcs, pcells, List.mem_cons, List.not_mem_nil, or_false] at hu
  rcases hu with rfl | rfl | rfl | rfl | rfl | rfl <;> rfl
def PropOk (p : Pv) : Prop := Vok p.val ∧ p.key.size ≤ 140737488351232
def ppsA (q : Pv × Pl) : Ass := ppA q.1 q.2
instance stablePps {q : Pv × Pl} : Stable (ppsA q) := inferInstanceAs (Stable (ppA _ _))
/-- new properties -/
def PsA (v : Value) (L : List Pv) : Ass := Ex fun X : List (Pv × Pl) => Wh (X.map (·.1) = L ∧ ∀ p ∈ L, PropOk p) (Sep [RwA 45 6 v L.length (X.flatMap pcs), Sep (X.map ppsA)])
instance stablePs {v : Value} {L : List Pv} : Stable (PsA v L) := inferInstanceAs (Stable (Ex _))

theorem flatMap_at {α β : Type} {f : α → List β} {s : Nat} (hf : ∀ x, (f x).length = s) : ∀ (X : List α) (k : Nat) (x : α) (j : Nat), X[k]? = some x → j < s → (X.flatMap f)[k * s + j]? = (f x)[j]?
  | [], k, x, j, h, _ => by simp at h
  | y :: X, 0, x, j, h, hj => by
    simp only [List.getElem?_cons_zero, Option.some.injEq] at h
    subst h
    rw [List.flatMap_cons, Nat.zero_mul, Nat.zero_add, List.getElem?_append_left (by rw [hf]; exact hj)]
  | y :: X, k + 1, x, j, h, hj => by
    have e : (k + 1) * s + j = s + (k * s + j) := by rw [Nat.add_mul]; omega
    rw [List.flatMap_cons, e, List.getElem?_append_right (by rw [hf]; omega), hf, Nat.add_sub_cancel_left]
    exact flatMap_at hf X k x j (by simpa using h) hj
theorem flatMap_len' {α β : Type} {f : α → List β} {s : Nat} (hf : ∀ x, (f x).length = s) (X : List α) : (X.flatMap f).length = X.length * s := by
  induction X with
  | nil => simp
  | cons x X ih => rw [List.flatMap_cons, List.length_append, hf, ih, List.length_cons, Nat.add_mul]; omega

theorem OlA.rl {α : Type} {f : α → Value} {e : TypeId} {A : Option Addr} {c : Nat} {L : List α} {w : World} {F : Fp} (h : OlA f e (.slice A L.length c) L w F) : RL f w w.heap.size A L := own_form h.1
/-- a row's cells, element by element -/
theorem RwA.at_ {e : TypeId} {size : Nat} {v : Value} {n : Nat} {α : Type} {f : α → List Value} {X : List α} {w : World} {F : Fp} (h : RwA e size v n (X.flatMap f) w F) (hf : ∀ x, (f x).length = size) (hs : 0 < size) (hn : X.length = n) :
    ∃ A c, v = .slice A n c ∧ ∀ k x, X[k]? = some x → ∃ b, A = some ⟨b, 0, none⟩ ∧ b < w.heap.size ∧ ∀ j u, (f x)[j]? = some u → w.cell? ⟨b, k * size + j, none⟩ = some u := by
  obtain ⟨h, -⟩ := h
  rcases h.2 with ⟨hv, h0⟩ | ⟨g, cap, cur, hv, _, hg, h1, h2, h3, h4⟩
  · refine ⟨none, 0, by rw [hv, h0], fun k x hx => ?_⟩
    have := (List.getElem?_eq_some_iff.1 hx).1
    omega
  · refine ⟨_, cap, hv, fun k x hx => ⟨g, rfl, ?_, fun j u hu => ?_⟩⟩
    · rcases Nat.lt_or_ge g w.heap.size with h | h
      · exact h
      · rw [Array.getElem?_eq_none h] at hg; cases hg
    · have hj : j < size := by have := (List.getElem?_eq_some_iff.1 hu).1; rwa [hf] at this
      have hk := (List.getElem?_eq_some_iff.1 hx).1
      rw [cell_of_row w g _ cur e (0, 0) hg]
      have h5 := flatMap_at hf X k x j hx hj
      rw [hu, ← h4, List.getElem?_take_of_lt (by
        have : (k + 1) * size ≤ n * size := Nat.mul_le_mul_right _ (by omega)
        rw [Nat.add_mul] at this
        omega), Array.getElem?_toList] at h5
      exact h5
theorem PsA.reads {v : Value} {L : List Pv} {w : World} {F : Fp} (h : PsA v L w F) : ∃ A c, v = .slice A L.length c ∧ PropsR w w.heap.size A L := by
  obtain ⟨X, ⟨hX, hok⟩, G, H, h1, ⟨H1, H2, h2, _, _, _⟩, _, _⟩ := h
  have hl : X.length = L.length := by rw [← hX, List.length_map]
  obtain ⟨A, c, hv, hc⟩ := RwA.at_ h1 pcs_len (by omega) hl
  refine ⟨A, c, hv, fun k p hp => ?_⟩
  rw [← hX, List.getElem?_map, Option.map_eq_some_iff] at hp
  obtain ⟨q, hq, rfl⟩ := hp
  obtain ⟨b, hA, hb, hcs⟩ := hc k q hq
  obtain ⟨G2, hp2⟩ := Sep.mem h2 (List.mem_map.2 ⟨q, List.mem_of_getElem? hq, rfl⟩)
  obtain ⟨G3, G4, k1, ⟨G5, G6, k2, _, _, _⟩, _, _⟩ := hp2
  have ok := hok q.1 (by rw [← hX]; exact List.mem_map.2 ⟨q, List.mem_of_getElem? hq, rfl⟩)
  refine ⟨b, 0, hA, hb, q.2.A, q.2.c, q.2.A', q.2.c', fun j u hu => ?_, OlA.rl k1, OlA.rl k2, ok.1, ok.2⟩
  rw [Nat.zero_add]
  exact hcs j u (by simpa [pcs] using hu)

/-- a node's lists -/
def ndA (q : Nv × Pl) : Ass := Sep [OlA svl 9 (.slice q.2.A q.1.labels.length q.2.c) q.1.labels, PsA (.slice q.2.A' q.1.props.length q.2.c') q.1.props]
instance stableNd {q : Nv × Pl} : Stable (ndA q) := inferInstanceAs (Stable (Sep _))
def ncs (q : Nv × Pl) : List Value := (ncells q.1 q.2.A q.2.c q.2.A' q.2.c').toList
theorem ncs_len (q : Nv × Pl) : (ncs q).length = 3 := rfl
theorem ncs_one (q : Nv × Pl) : ∀ u ∈ ncs q, u.oneCell' = true := by
  intro u hu
  simp only [ncs, ncells, List.mem_cons, List.not_mem_nil, or_false] at hu
  rcases hu with rfl | rfl | rfl <;> rfl
def NodeOk (n : Nv) : Prop := i64ok n.id ∧ n.labels.length ≤ 140737488351232 ∧ n.props.length ≤ 140737488351232 ∧ ∀ s ∈ n.labels, s.size ≤ 140737488351232
/-- new nodes -/
def NsA (v : Value) (L : List Nv) : Ass := Ex fun X : List (Nv × Pl) => Wh (X.map (·.1) = L ∧ ∀ p ∈ L, NodeOk p) (Sep [RwA 40 3 v L.length (X.flatMap ncs), Sep (X.map ndA)])
instance stableNs {v : Value} {L : List Nv} : Stable (NsA v L) := inferInstanceAs (Stable (Ex _))
/-- a relationship's list -/
def rlA (q : Rv × Pl) : Ass := PsA (.slice q.2.A q.1.props.length q.2.c) q.1.props
instance stableRl {q : Rv × Pl} : Stable (rlA q) := inferInstanceAs (Stable (PsA _ _))
def rcs (q : Rv × Pl) : List Value := (rcells q.1 q.2.A q.2.c).toList
theorem rcs_len (q : Rv × Pl) : (rcs q).length = 5 := rfl
theorem rcs_one (q : Rv × Pl) : ∀ u ∈ rcs q, u.oneCell' = true := by
  intro u hu
  simp only [rcs, rcells, List.mem_cons, List.not_mem_nil, or_false] at hu
  rcases hu with rfl | rfl | rfl | rfl | rfl <;> rfl
def RelOk (r : Rv) : Prop := i64ok r.id ∧ i64ok r.src ∧ i64ok r.dst ∧ r.typ.size ≤ 140737488351232 ∧ r.props.length ≤ 140737488351232
/-- new relationships -/
def RsA (v : Value) (L : List Rv) : Ass := Ex fun X : List (Rv × Pl) => Wh (X.map (·.1) = L ∧ ∀ p ∈ L, RelOk p) (Sep [RwA 47 5 v L.length (X.flatMap rcs), Sep (X.map rlA)])
instance stableRs {v : Value} {L : List Rv} : Stable (RsA v L) := inferInstanceAs (Stable (Ex _))

theorem PsA.rd {A : Option Addr} {n c : Nat} {L : List Pv} {w : World} {F : Fp} (h : PsA (.slice A n c) L w F) : PropsR w w.heap.size A L := by
  obtain ⟨A1, c1, e, hr⟩ := h.reads
  injection e with e1 e2 e3
  subst e1
  exact hr
theorem NsA.reads {v : Value} {L : List Nv} {w : World} {F : Fp} (h : NsA v L w F) : ∃ A c, v = .slice A L.length c ∧ NodesR w w.heap.size A L := by
  obtain ⟨X, ⟨hX, hok⟩, G, H, h1, ⟨H1, H2, h2, _, _, _⟩, _, _⟩ := h
  have hl : X.length = L.length := by rw [← hX, List.length_map]
  obtain ⟨A, c, hv, hc⟩ := RwA.at_ h1 ncs_len (by omega) hl
  refine ⟨A, c, hv, fun k p hp => ?_⟩
  rw [← hX, List.getElem?_map, Option.map_eq_some_iff] at hp
  obtain ⟨q, hq, rfl⟩ := hp
  obtain ⟨b, hA, hb, hcs⟩ := hc k q hq
  obtain ⟨G2, hp2⟩ := Sep.mem h2 (List.mem_map.2 ⟨q, List.mem_of_getElem? hq, rfl⟩)
  obtain ⟨G3, G4, k1, ⟨G5, G6, k2, _, _, _⟩, _, _⟩ := hp2
  obtain ⟨o1, o2, o3, o4⟩ := hok q.1 (by rw [← hX]; exact List.mem_map.2 ⟨q, List.mem_of_getElem? hq, rfl⟩)
  refine ⟨b, 0, hA, hb, q.2.A, q.2.c, q.2.A', q.2.c', fun j u hu => ?_, OlA.rl k1, PsA.rd k2, o1, o2, o3, o4⟩
  rw [Nat.zero_add]
  exact hcs j u (by simpa [ncs] using hu)
theorem RsA.reads {v : Value} {L : List Rv} {w : World} {F : Fp} (h : RsA v L w F) : ∃ A c, v = .slice A L.length c ∧ RelsR w w.heap.size A L := by
  obtain ⟨X, ⟨hX, hok⟩, G, H, h1, ⟨H1, H2, h2, _, _, _⟩, _, _⟩ := h
  have hl : X.length = L.length := by rw [← hX, List.length_map]
  obtain ⟨A, c, hv, hc⟩ := RwA.at_ h1 rcs_len (by omega) hl
  refine ⟨A, c, hv, fun k p hp => ?_⟩
  rw [← hX, List.getElem?_map, Option.map_eq_some_iff] at hp
  obtain ⟨q, hq, rfl⟩ := hp
  obtain ⟨b, hA, hb, hcs⟩ := hc k q hq
  obtain ⟨G2, hp2⟩ := Sep.mem h2 (List.mem_map.2 ⟨q, List.mem_of_getElem? hq, rfl⟩)
  obtain ⟨o1, o2, o3, o4, o5⟩ := hok q.1 (by rw [← hX]; exact List.mem_map.2 ⟨q, List.mem_of_getElem? hq, rfl⟩)
  refine ⟨b, 0, hA, hb, q.2.A, q.2.c, fun j u hu => ?_, PsA.rd hp2, o1, o2, o3, o4, o5⟩
  rw [Nat.zero_add]
  exact hcs j u (by simpa [rcs] using hu)
/-- a new graph -/
def GA (g : Gv) (A : Option Addr) (c : Nat) (A' : Option Addr) (c' : Nat) : Ass := Sep [NsA (.slice A g.nodes.length c) g.nodes, RsA (.slice A' g.rels.length c') g.rels]
instance stableGA {g : Gv} {A : Option Addr} {c : Nat} {A' : Option Addr} {c' : Nat} : Stable (GA g A c A' c') := inferInstanceAs (Stable (Sep _))
theorem GA.reads {g : Gv} {A : Option Addr} {c : Nat} {A' : Option Addr} {c' : Nat} {w : World} {F : Fp} (h : GA g A c A' c' w F) (h1 : g.nodes.length ≤ 140737488351232) (h2 : g.rels.length ≤ 140737488351232) : GR w w.heap.size g A A' := by
  obtain ⟨G, H, k1, ⟨H1, H2, k2, _, _, _⟩, _, _⟩ := h
  obtain ⟨A1, c1, e1, r1⟩ := k1.reads
  obtain ⟨A2, c2, e2, r2⟩ := k2.reads
  injection e1 with e1 _ _
  injection e2 with e2 _ _
  subst e1
  subst e2
  exact ⟨r1, r2, h1, h2⟩

/-- append(s, x) of one struct that lies in a new block, at a step of a region that draws its order -/
theorem step_append_new {P : Program} (w : World) {ops : Array Oper} {o : Oper} {a : Act} {K : Act → World → Prop} {Q : Exit → Act → World → Prop} {E : Prop} (hgd : o.guard = none) (s x : Operand) (t : TypeId)
    (ho : o.op = .call { callee := .builtin .append, args := #[s, x], argTypes := #[t, t] })
    (e : TypeId) (i : TypeInfo) (z : Value) (size bytes : Nat) (ht : P.underlying t = some (.slice e)) (hi : P.info? e = some i) (hz : i.zero = some z) (hsize : i.size = size) (hby : i.bytes = bytes) (hzs : z.cells.size = size) (hsz : 0 < size) (hb0 : 0 < bytes)
    (v : Value) (n : Nat) (xs : List Value) (hs : a.eval s = v) (hown : w.ownsRow 0 e size v n xs) (cs : Array Value) (hcs : cs.toList.length = size) (h1 : ∀ u ∈ cs.toList, u.oneCell' = true)
    (hx : a.eval x = .slice (some ⟨w.heap.size, 0, none⟩) 1 1) (hbytes : (n + 1) * bytes ≤ 140737488355328)
    (h : ∀ g cap w', w'.ownsRow 0 e size (.slice (some ⟨g, 0, none⟩) (n + 1) cap) (n + 1) (xs ++ cs.toList) → (w.alloc (.cells cs e)).grownBy w' v.ownBlock → (v.ownBlock = some g ∨ g = w.heap.size + 1) → g < w'.heap.size → K (a.put o.dst (.slice (some ⟨g, 0, none⟩) (n + 1) cap)) w') :
    if Region.wanted o (yielded ops a.tmps) = true then Oper.wp P o a (w.alloc (.cells cs e)) K Q else E := by
  have h64 : n + 1 ≤ (n + 1) * bytes := Nat.le_mul_of_pos_right _ hb0
  exact step_append_lies (w.alloc (.cells cs e)) hgd s x t ho 0 e i z size bytes ht hi hz hsize hby hzs hsz v n xs hs (hown.alloc _) ⟨w.heap.size, 0, none⟩ 1 1 cs.toList hx (by rw [hcs, Nat.one_mul]) (World.news_of_block (heap_alloc_new w _)) h1 (by omega) (by simp only [maxLen]; omega) hbytes (Nat.zero_le _) (w.heap.size + 1) (by simp) h

end Go.Proofs.YthnaipgdjbaebaaGreat
