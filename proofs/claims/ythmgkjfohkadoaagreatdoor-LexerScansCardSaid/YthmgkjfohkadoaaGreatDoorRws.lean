/- Slices of structs: read, owned, appended, stored into. No program is named here. -/
import Derived.Test.YthmgkjfohkadoaaGreatDoorApList
import Derived.Deep.MidRow
import Derived.Deep.Quiet
namespace Go.Proofs.YthmgkjfohkadoaaGreatDoor
open Go.RowKit
set_option linter.unusedVariables false

/-- a struct as s cells -/
structure RowF {α : Type} (f : α → List Value) (s : Nat) : Prop where
  len : ∀ x, (f x).length = s
  one : ∀ x, ∀ u ∈ f x, u.oneCell' = true
  pos : 0 < s

theorem flat_at {α β : Type} {f : α → List β} {s : Nat} (hf : ∀ x, (f x).length = s) : ∀ (X : List α) (k : Nat) (x : α) (j : Nat), X[k]? = some x → j < s → (X.flatMap f)[k * s + j]? = (f x)[j]?
  | [], k, x, j, h, _ => by simp at h
  | y :: r, 0, x, j, h, hj => by
    simp only [List.getElem?_cons_zero, Option.some.injEq] at h
    subst h
    rw [List.flatMap_cons, Nat.zero_mul, Nat.zero_add, List.getElem?_append_left (by rw [hf]; exact hj)]
  | y :: r, k + 1, x, j, h, hj => by
    simp only [List.getElem?_cons_succ] at h
    have := flat_at hf r k x j h hj
    rw [List.flatMap_cons, List.getElem?_append_right (by rw [hf, Nat.add_mul]; omega), hf, ← this]
    congr 1
    rw [Nat.add_mul]
    omega
theorem flat_len {α β : Type} {f : α → List β} {s : Nat} (hf : ∀ x, (f x).length = s) (X : List α) : (X.flatMap f).length = X.length * s := by
  induction X with
  | nil => simp
  | cons x r ih => rw [List.flatMap_cons, List.length_append, ih, hf, List.length_cons, Nat.add_mul]; omega

/-- element k -/
def nthD {α : Type} [Inhabited α] (L : List α) (k : Nat) : α := L.getD k default
theorem nthD_get {α : Type} [Inhabited α] {L : List α} {k : Nat} (h : k < L.length) : L[k]? = some (nthD L k) := by
  simp [nthD, List.getD_eq_getElem?_getD, List.getElem?_eq_getElem h]
theorem nthD_lt {α : Type} [Inhabited α] {L : List α} {k : Nat} (h : k < L.length) : nthD L k = L[k] := by
  simp [nthD, List.getD_eq_getElem?_getD, List.getElem?_eq_getElem h]
theorem takeD_succ {α : Type} [Inhabited α] {L : List α} {k : Nat} (h : k < L.length) : L.take (k + 1) = L.take k ++ [nthD L k] := by rw [List.take_succ_eq_append_getElem h, nthD_lt h]
theorem dropD {α : Type} [Inhabited α] {L : List α} {k : Nat} (h : k < L.length) : L.drop k = nthD L k :: L.drop (k + 1) := by rw [List.drop_eq_getElem_cons h, nthD_lt h]

/-- The slice value '.slice A L.length cap' reads as the list L of structs, and lies below block B. -/
def RR {α : Type} (f : α → List Value) (s : Nat) (w : World) (B : Nat) (A : Option Addr) (L : List α) : Prop := Reads w B s A L.length (L.flatMap f)
section
variable {α : Type} {f : α → List Value} {s : Nat} {w w' : World} {B B' : Nat} {A : Option Addr} {L : List α}
theorem RR.empty (f : α → List Value) (s : Nat) (w : World) (B : Nat) (A : Option Addr) : RR f s w B A [] := ⟨by simp, fun h => absurd h (by simp)⟩
theorem RR.keep (h : RR f s w B A L) (hk : ∀ p : Addr, p.block < B → w'.cell? p = w.cell? p) : RR f s w' B A L := Reads.keep h hk
theorem RR.more (h : RR f s w B A L) (hB : B ≤ B') : RR f s w B' A L := Reads.more h hB
theorem RR.below (h : RR f s w B A L) (hb : Below B w w') : RR f s w' B A L := Reads.below h hb
theorem RR.below' (h : RR f s w B A L) (hb : Below B' w w') (hB : B ≤ B') : RR f s w' B A L := h.below (hb.mono hB)
theorem RR.alloc (h : RR f s w B A L) (hB : B ≤ w.heap.size) (o : Obj) : RR f s (w.alloc o) B A L := Reads.alloc h hB o
/-- the place of all of them -/
theorem RR.all (hf : RowF f s) (h : RR f s w B A L) (hk : 0 < L.length) : ∃ b off, A = some ⟨b, off, none⟩ ∧ b < B ∧ ∀ k x, L[k]? = some x → w.rangeAt b (off + k * s) (f x) := by
  obtain ⟨⟨b, off, spot⟩, rfl, hb, hc⟩ := h.2 hk
  have h0 : ∃ x, L[0]? = some x := ⟨_, List.getElem?_eq_getElem hk⟩
  obtain ⟨x0, h0⟩ := h0
  have hp := hf.pos
  have g0 := flat_at hf.len L 0 x0 0 h0 hp
  have hv0 : (f x0)[0]? = some ((f x0)[0]'(by rw [hf.len]; exact hp)) := List.getElem?_eq_getElem _
  rw [hv0] at g0
  have c0 := hc _ _ g0
  have hs : spot = none := by simpa [Addr.add] using World.cell?_spot c0
  subst hs
  refine ⟨b, off, rfl, hb, fun k x hx j v hv => ?_⟩
  have hj : j < s := by have := (List.getElem?_eq_some_iff.1 hv).1; rw [hf.len] at this; exact this
  have := hc (k * s + j) v (by rw [flat_at hf.len L k x j hx hj]; exact hv)
  rw [add_none] at this
  rw [Nat.add_assoc]
  exact this
end

/-- a slice of structs that the call owns -/
def OwA {α : Type} (f : α → List Value) (s : Nat) (e : TypeId) (v : Value) (L : List α) : Ass := fun w F => w.ownsRow 0 e s v L.length (L.flatMap f) ∧ F = rfp v
instance stableOw {α : Type} {f : α → List Value} {s : Nat} {e : TypeId} {v : Value} {L : List α} : Stable (OwA f s e v L) where
  lt := by
    rintro w F ⟨h, rfl⟩ k hk
    exact (h.lt k hk).2
  keep := by
    rintro w w' F ⟨h, rfl⟩ _ hk
    exact ⟨ownsRow_keep h hk, rfl⟩
section
variable {α : Type} {f : α → List Value} {s : Nat} {S : Fp} {l : List Ass} {w0 w w' : World} {e : TypeId}
theorem St.ow {v : Value} {L : List α} (h : St S (OwA f s e v L :: l) w0 w) : w.ownsRow 0 e s v L.length (L.flatMap f) := by
  obtain ⟨F, h, _⟩ := h.head
  exact h
theorem St.rr (h : St Zf l w0 w) {B : Nat} {A : Option Addr} {L : List α} (hr : RR f s w0 B A L) (hB : B ≤ w0.heap.size) : RR f s w B A L := hr.below' h.bel hB
theorem own_formR {v : Value} {L : List α} (h : w.ownsRow 0 e s v L.length (L.flatMap f)) : ∃ A cap, v = .slice A L.length cap ∧ L.length ≤ cap ∧ cap ≤ maxLen ∧ RR f s w w.heap.size A L := by
  have h2 := h
  rcases h2.2 with ⟨rfl, h0⟩ | ⟨g, cap, cur, rfl, _, _, hc, hm, _⟩
  · have hL : L = [] := List.length_eq_zero_iff.1 h0
    subst hL
    exact ⟨none, 0, rfl, Nat.le_refl _, Nat.zero_le _, RR.empty _ _ _ _ _⟩
  · exact ⟨_, cap, rfl, hc, hm, Reads.of_own h⟩
theorem St.owForm {v : Value} {L : List α} (h : St S (OwA f s e v L :: l) w0 w) : ∃ A cap, v = .slice A L.length cap ∧ L.length ≤ cap ∧ cap ≤ maxLen ∧ RR f s w w.heap.size A L := own_formR h.ow
theorem St.owReads {A : Option Addr} {n c : Nat} {L : List α} (h : St S (OwA f s e (.slice A n c) L :: l) w0 w) : n = L.length ∧ RR f s w w.heap.size A L ∧ n ≤ c ∧ c ≤ maxLen := by
  obtain ⟨A', c', hv, h1, h2, h3⟩ := h.owForm
  injection hv with e1 e2 e3
  subst e1 e2 e3
  exact ⟨rfl, h3, h1, h2⟩
theorem St.newNilOw [Stable (Sep l)] (h : St S l w0 w) (f : α → List Value) (s : Nat) (e : TypeId) {N : Nat} (hn : w.heap.size = N) : St S (OwA f s e (.slice (some ⟨N, 0, none⟩) 0 0) [] :: l) w0 (w.alloc (.cells #[] e)) := by
  subst hn
  exact h.add (F := rfp (.slice (some ⟨w.heap.size, 0, none⟩) 0 0)) ((Below.refl _ _).alloc (Nat.le_refl _) _) ⟨World.ownsRow_lit (size := s) w #[] 0 (Nat.zero_le _) (Nat.zero_le _) (by simp), rfl⟩ fun k hk => by
    simp only [rfp, Value.ownBlock, Option.some.injEq] at hk
    omega
theorem St.nilOw (h : St S l w0 w) (f : α → List Value) (s : Nat) (e : TypeId) : St S (OwA f s e (.slice none 0 0) [] :: l) w0 w := by
  obtain ⟨F, h1, h2, h3⟩ := h
  refine ⟨F, ⟨fun _ => False, F, ⟨World.ownsRow_nil w 0 e s, by funext k; simp [rfp, Value.ownBlock]⟩, h1, fun _ h => h.elim, by funext k; simp⟩, h2, h3⟩
theorem St.newOw [Stable (Sep l)] (h : St S l w0 w) {v : Value} {L : List α} (ho : w'.ownsRow w.heap.size e s v L.length (L.flatMap f)) (hb : Below w.heap.size w w') : St S (OwA f s e v L :: l) w0 w' :=
  h.add (F := rfp v) hb ⟨ownsRow_mono ho (Nat.zero_le _), rfl⟩ fun k hk => (ho.lt k hk).1
theorem St.grewOw [Stable (Sep l)] {v v' : Value} {L L' : List α} (h : St S (OwA f s e v L :: l) w0 w) (ho : w'.ownsRow 0 e s v' L'.length (L'.flatMap f)) (hg : w.grownBy w' v.ownBlock) {N : Nat} (ha : v'.ownBlock = v.ownBlock ∨ v'.ownBlock = some N) (hn : w.heap.size ≤ N) : St S (OwA f s e v' L' :: l) w0 w' := by
  obtain ⟨F, ⟨_, rfl⟩, k⟩ := h.turn
  refine k _ _ ⟨_, ⟨ho, rfl⟩, Only.of_grown hg, fun i hi => ?_⟩
  rcases ha with e | e
  · exact .inl (e.symm.trans hi)
  · have : some N = some i := e.symm.trans hi
    injection this with this
    exact .inr (by omega)
end

section
variable {P : Program} (w : World) {α : Type} {f : α → List Value} {s : Nat}
theorem run_append_rows (hf : RowF f s) (t ty : TypeId) (base : Nat) (e : TypeId) (i : TypeInfo) (z : Value) (bytes : Nat) (ht : P.underlying t = some (.slice e)) (hi : P.info? e = some i) (hz : i.zero = some z) (hsize : i.size = s) (hby : i.bytes = bytes) (hzs : z.cells.size = s)
    (v : Value) (L : List α) (hown : w.ownsRow base e s v L.length (L.flatMap f)) (A : Option Addr) (cp B : Nat) (news : List α) (hr : RR f s w B A news)
    (hbytes : (L.length + news.length) * bytes ≤ 140737488355328) (hb0 : 0 < bytes) (hbase : base ≤ w.heap.size) :
    ∃ v' w', (Builtin.append_ #[t, t] ty #[v, .slice A news.length cp]).run P w = .ok v' w' ∧ w'.ownsRow base e s v' (L ++ news).length ((L ++ news).flatMap f) ∧ w.grownBy w' v.ownBlock ∧ (v'.ownBlock = v.ownBlock ∨ v'.ownBlock = some w.heap.size) := by
  have h64 : L.length + news.length ≤ (L.length + news.length) * bytes := Nat.le_mul_of_pos_right _ hb0
  rcases A with _ | ad
  · have hm : news.length = 0 := by
      rcases Nat.eq_zero_or_pos news.length with h0 | h0
      · exact h0
      · obtain ⟨_, h, _⟩ := hr.2 h0
        cases h
    have hn : news = [] := List.length_eq_zero_iff.1 hm
    subst hn
    refine ⟨v, w, ?_, by simpa using hown, World.grownBy.refl w _, .inl rfl⟩
    rcases hown.2 with ⟨rfl, _⟩ | ⟨g, cap, cur, rfl, _, _, hnc, _⟩
    · simp [Builtin.append_, run_underlying ht, sizeOf, typeInfo, hi, Builtin.lenOf, Builtin.firstCells]
    · simp [Builtin.append_, run_underlying ht, sizeOf, typeInfo, hi, Builtin.lenOf, Builtin.firstCells, hnc, storeCells]
  · have hcells : ∀ j u, (news.flatMap f)[j]? = some u → w.cell? (ad.add j) = some u := by
      intro j u hu
      have hlt := (List.getElem?_eq_some_iff.1 hu).1
      rw [flat_len hf.len] at hlt
      have hn0 : 0 < news.length := Nat.pos_of_ne_zero fun h => by rw [h] at hlt; omega
      obtain ⟨ad', h, _, hc⟩ := hr.2 hn0
      injection h with h
      subst h
      exact hc j u hu
    obtain ⟨v', w', hrun, h2, h3, _, h5⟩ := run_append_own_at (P := P) w base t ty e i z s bytes ht hi hz hsize hby hzs hf.pos v L.length (L.flatMap f) hown ad news.length cp (news.flatMap f) (flat_len hf.len _) hcells (fun u hu => by
      obtain ⟨x, hx, hu⟩ := List.mem_flatMap.1 hu
      exact hf.one x u hu) (by simp only [maxLen]; omega) hbytes hbase
    exact ⟨v', w', hrun, by rw [List.length_append, List.flatMap_append]; exact h2, h3, h5⟩

theorem wpList_append_rows {ops : Array Oper} {rest : List Oper} {o : Oper} {a : Act} {Q : Exit → Act → World → Prop} (hf : RowF f s) (hgd : o.guard = none) (x y : Operand) (t : TypeId)
    (ho : o.op = .call { callee := .builtin .append, args := #[x, y], argTypes := #[t, t] })
    (base : Nat) (e : TypeId) (i : TypeInfo) (z : Value) (bytes : Nat) (ht : P.underlying t = some (.slice e)) (hi : P.info? e = some i) (hz : i.zero = some z) (hsize : i.size = s) (hby : i.bytes = bytes) (hzs : z.cells.size = s)
    (v : Value) (L : List α) (hs : a.eval x = v) (hown : w.ownsRow base e s v L.length (L.flatMap f))
    (A : Option Addr) (cp B : Nat) (news : List α) (m : Nat) (hm : news.length = m) (hx : a.eval y = .slice A m cp) (hr : RR f s w B A news)
    (hbytes : (L.length + m) * bytes ≤ 140737488355328) (hb0 : 0 < bytes) (hbase : base ≤ w.heap.size)
    (h : ∀ v' w', w'.ownsRow base e s v' (L ++ news).length ((L ++ news).flatMap f) → w.grownBy w' v.ownBlock → (v'.ownBlock = v.ownBlock ∨ v'.ownBlock = some w.heap.size) → wpList P ops Q rest (a.put o.dst v') w') :
    wpList P ops Q (o :: rest) a w := by
  subst hm
  refine wpList_plain hgd fun K hK => ?_
  obtain ⟨v', w', hrun, h2, h3, h4⟩ := run_append_rows (P := P) w hf t o.type base e i z bytes ht hi hz hsize hby hzs v L hown A cp B news hr hbytes hb0 hbase
  unfold Oper.wp execOp
  simp only [ho, resolve, invoke, builtin, Sem.run_bind, Sem.run_pure, Result.andThen_ok, List.map_toArray, List.map_cons, List.map_nil, hs, hx, hrun]
  exact hK _ _ (h v' w' h2 h3 h4)
end

/-! ### stores into one's own row -/
section
variable {α : Type} {f : α → List Value} {s : Nat}
theorem flat_get (hf : RowF f s) (L : List α) (i : Nat) : (L.flatMap f)[i]? = (L[i / s]?).bind fun x => (f x)[i % s]? := by
  have hp := hf.pos
  have hm := Nat.mod_lt i hp
  have hd := Nat.div_add_mod i s
  cases h : L[i / s]? with
  | none =>
    have : L.length ≤ i / s := List.getElem?_eq_none_iff.1 h
    simp only [Option.bind_none]
    rw [List.getElem?_eq_none_iff, flat_len hf.len]
    exact Nat.le_trans (Nat.mul_le_mul_right s this) (Nat.div_mul_le_self i s)
  | some x =>
    have := flat_at hf.len L (i / s) x (i % s) h hm
    rw [Nat.mul_comm, hd] at this
    exact this
def setL (xs : List Value) : Nat → List Value → List Value
  | _, [] => xs
  | o, v :: r => setL (xs.set o v) (o + 1) r
theorem setL_get : ∀ (vs : List Value) (xs : List Value) (o i : Nat), (setL xs o vs)[i]? = if o ≤ i ∧ i < o + vs.length ∧ i < xs.length then vs[i - o]? else xs[i]?
  | [], xs, o, i => by
    rw [if_neg (by simp; omega)]
    rfl
  | v :: r, xs, o, i => by
    show (setL (xs.set o v) (o + 1) r)[i]? = _
    rw [setL_get r, List.length_set, List.getElem?_set, List.length_cons]
    by_cases h1 : o = i
    · subst h1
      by_cases h2 : o < xs.length
      · have h3 : o ≤ o ∧ o < o + (r.length + 1) ∧ o < xs.length := ⟨by omega, by omega, h2⟩
        rw [if_neg (by omega)]
        simp [h2]
      · rw [if_neg (by omega)]
        simp [h2]
    · by_cases h2 : o + 1 ≤ i ∧ i < o + 1 + r.length ∧ i < xs.length
      · rw [if_pos h2, if_pos (by omega), show i - o = (i - (o + 1)) + 1 from by omega, List.getElem?_cons_succ]
      · rw [if_neg h2, if_neg h1, if_neg (by omega)]
theorem flat_setL (hf : RowF f s) (L : List α) (k : Nat) (y : α) (hk : k < L.length) : (L.set k y).flatMap f = setL (L.flatMap f) (k * s) (f y) := by
  have hp := hf.pos
  apply List.ext_getElem?
  intro i
  have hm := Nat.mod_lt i hp
  have hd := Nat.div_add_mod i s
  rw [setL_get, flat_get hf, flat_get hf, List.getElem?_set, flat_len hf.len, hf.len]
  by_cases h : k = i / s
  · have e : k * s = s * (i / s) := by rw [h, Nat.mul_comm]
    have hlt : i < L.length * s := by
      have : i < (i / s + 1) * s := by rw [Nat.add_mul, Nat.mul_comm]; omega
      exact Nat.lt_of_lt_of_le this (Nat.mul_le_mul_right s (by omega))
    rw [if_pos h, if_pos hk, if_pos ⟨by omega, by omega, hlt⟩]
    simp only [Option.bind_some]
    congr 1
    omega
  · have hne : ¬ (k * s ≤ i ∧ i < k * s + s ∧ i < L.length * s) := by
      rintro ⟨h1, h2, _⟩
      apply h
      exact (Nat.div_eq_of_lt_le (by rw [Nat.mul_comm] at h1; rw [Nat.mul_comm]; exact h1) (by rw [Nat.add_mul]; omega)).symm
    rw [if_neg h, if_neg hne]
theorem flat_set1 (hf : RowF f s) [Inhabited α] (L : List α) (k j : Nat) (y : α) (u : Value) (hk : k < L.length) (hj : j < s) (hy : f y = (f (nthD L k)).set j u) : (L.set k y).flatMap f = (L.flatMap f).set (k * s + j) u := by
  have hp := hf.pos
  apply List.ext_getElem?
  intro i
  have hm := Nat.mod_lt i hp
  have hd := Nat.div_add_mod i s
  rw [flat_get hf, List.getElem?_set, List.getElem?_set, flat_len hf.len]
  by_cases h : k = i / s
  · have e : k * s = s * (i / s) := by rw [h, Nat.mul_comm]
    have hlt : i < L.length * s := by
      have : i < (i / s + 1) * s := by rw [Nat.add_mul, Nat.mul_comm]; omega
      exact Nat.lt_of_lt_of_le this (Nat.mul_le_mul_right s (by omega))
    rw [if_pos h, if_pos hk]
    simp only [Option.bind_some]
    rw [hy, List.getElem?_set, hf.len]
    by_cases h2 : j = i % s
    · rw [if_pos h2, if_pos hj, if_pos (by omega), if_pos (by omega)]
    · rw [if_neg h2, if_neg (by omega), flat_get hf, ← h, nthD_get hk]
      rfl
  · rw [if_neg h, if_neg, flat_get hf]
    intro e
    apply h
    rw [← e]
    exact (Nat.div_eq_of_lt_le (by omega) (by rw [Nat.add_mul]; omega)).symm
end
section
variable {w w' : World} {base : Nat} {e : TypeId} {s n cap g : Nat} {xs : List Value}
theorem own_setCells : ∀ (vs : List Value) (o : Nat) (xs : List Value) (w : World), w.ownsRow base e s (.slice (some ⟨g, 0, none⟩) n cap) n xs →
    (w.setCells g o vs).ownsRow base e s (.slice (some ⟨g, 0, none⟩) n cap) n (setL xs o vs) ∧ w.grownBy (w.setCells g o vs) (some g)
  | [], o, xs, w, h => ⟨h, World.grownBy.refl w _⟩
  | v :: r, o, xs, w, h => by
    obtain ⟨h1, h2⟩ := h.stored o v
    obtain ⟨h3, h4⟩ := own_setCells r (o + 1) (xs.set o v) _ h1
    exact ⟨h3, grownBy_trans' h2 h4 (.inl rfl)⟩
end
section
variable {α : Type} {f : α → List Value} {s : Nat} {S : Fp} {l : List Ass} {w0 w : World} {e : TypeId} {A : Option Addr} {n cap : Nat} {L : List α}
/-- a struct stored at place k -/
theorem St.storeRow [Stable (Sep l)] (hf : RowF f s) (h : St S (OwA f s e (.slice A n cap) L :: l) w0 w) (hn : L.length = n) {k : Nat} (hk : k < n) (y : α) :
    ∃ g, A = some ⟨g, 0, none⟩ ∧ w.there g (k * s) s ∧ St S (OwA f s e (.slice A n cap) (L.set k y) :: l) w0 (w.setCells g (k * s) (f y)) := by
  have h2 := h.ow
  rw [hn] at h2
  obtain ⟨g, cap', hv, _, _⟩ := h2.form (by omega)
  simp only [Value.slice.injEq] at hv
  obtain ⟨rfl, -, -⟩ := hv
  obtain ⟨h3, h4⟩ := own_setCells (f y) (k * s) _ _ h2
  refine ⟨g, rfl, fun j hj => ?_, h.grewOw ?_ h4 (.inl rfl) (Nat.le_refl _)⟩
  · have hlt : k * s + j < (L.flatMap f).length := by
      rw [flat_len hf.len, hn]
      have : k * s + s ≤ n * s := by rw [← Nat.succ_mul]; exact Nat.mul_le_mul_right s hk
      omega
    have hc := (h2.cells (g := g) rfl) (k * s + j) _ (List.getElem?_eq_getElem hlt)
    rw [add_none, Nat.zero_add] at hc
    exact ⟨by rw [hc]; rfl, h2.frozenAt _⟩
  · rw [List.length_set, hn, flat_setL hf L k y (by omega)]
    exact h3
/-- a field of place k -/
theorem St.storeField [Stable (Sep l)] [Inhabited α] (hf : RowF f s) (h : St S (OwA f s e (.slice A n cap) L :: l) w0 w) (hn : L.length = n) {k : Nat} (hk : k < n) {j : Nat} (hj : j < s) (y : α) (u : Value) (hy : f y = (f (nthD L k)).set j u) :
    ∃ g, A = some ⟨g, 0, none⟩ ∧ (∃ u0, w.cell? ⟨g, k * s + j, none⟩ = some u0) ∧ w.frozen? ⟨g, k * s + j, none⟩ = false ∧ St S (OwA f s e (.slice A n cap) (L.set k y) :: l) w0 (w.setCell ⟨g, k * s + j, none⟩ u) := by
  have h2 := h.ow
  rw [hn] at h2
  obtain ⟨g, cap', hv, _, _⟩ := h2.form (by omega)
  simp only [Value.slice.injEq] at hv
  obtain ⟨rfl, -, -⟩ := hv
  obtain ⟨h3, h4⟩ := h2.stored (k * s + j) u
  have hlt : k * s + j < (L.flatMap f).length := by
    rw [flat_len hf.len, hn]
    have : k * s + s ≤ n * s := by rw [← Nat.succ_mul]; exact Nat.mul_le_mul_right s hk
    omega
  have hc := (h2.cells (g := g) rfl) (k * s + j) _ (List.getElem?_eq_getElem hlt)
  rw [add_none, Nat.zero_add] at hc
  refine ⟨g, rfl, ⟨_, hc⟩, h2.frozenAt _, h.grewOw ?_ h4 (.inl rfl) (Nat.le_refl _)⟩
  rw [List.length_set, hn, flat_set1 hf L k j y u (by omega) hj hy]
  exact h3
end
theorem row_info {P : Program} {t : TypeId} {s b : Nat} (h : (P.info? t).map (fun i => (i.zero.map (·.cells.size), i.size, i.bytes)) = some (some s, s, b)) :
    ∃ i z, P.info? t = some i ∧ i.zero = some z ∧ i.size = s ∧ i.bytes = b ∧ z.cells.size = s := by
  cases hi : P.info? t with
  | none => simp [hi] at h
  | some i =>
    simp only [hi, Option.map_some, Option.some.injEq, Prod.mk.injEq] at h
    obtain ⟨h1, h2, h3⟩ := h
    cases hz : i.zero with
    | none => simp [hz] at h1
    | some z => exact ⟨i, z, rfl, hz, h2, h3, by simpa [hz] using h1⟩
/-- a struct read, in a region whose operations only read -/
theorem wpQuiet_load_mid {P : Program} {ops : Array Oper} {C : World → Prop} {Q : Act → Prop} {a : Act} {op : Oper} {rest : List Oper} (hgd : op.guard = none) (ty : TypeId) (x : Operand) (ho : op.op = .load ty x)
    (b o : Nat) (hx : a.eval x = .pointer (some ⟨b, o, none⟩)) (cs : Array Value) (d : TypeDesc) (hS : ∀ w, C w → w.rangeAt b o cs.toList)
    (hu : P.underlying ty = some d) (hd : d.isRow = true) (hi : (P.info? ty).map (·.size) = some cs.size)
    (h : wpQuiet P ops C Q rest (a.put op.dst (.agg cs))) : wpQuiet P ops C Q (op :: rest) a :=
  wpQuiet_step fun K hK => by
    rw [if_pos (by simp [Region.wanted, hgd])]
    refine ⟨.agg cs, fun w hw => ?_, hK _ h⟩
    have e := run_loadVar_mid (P := P) w b o ty cs.toList d (hS w hw) hu hd (by simpa using hi)
    unfold Oper.quietAt execOp
    simp only [ho, hx, Instr.loadAt, Instr.sureAddr, Sem.run_bind, Sem.run_pure, Result.andThen_ok, e]
    exact ⟨rfl, by simp⟩
/-- an object out of a contract -/
theorem St.addStL {S : Fp} {l : List Ass} {w0 w w' : World} {P : Ass} (h : St S l w0 w) [Stable (Sep l)] (k : St Zf [P] w w') : St S (P :: l) w0 w' := by
  have hb := k.bel
  obtain ⟨F, ⟨G, H, h1, h2, h3, rfl⟩, ho, hf⟩ := k
  exact h.add (F := G) hb h1 fun k hk => (hf k (.inl hk)).elim (fun h => h.elim) id
/-- a store of a whole row -/
theorem St.setRowL {S : Fp} {l : List Ass} {w0 w : World} [Stable (Sep l)] {g : Nat} {t : TypeId} {cs : Array Value} (h : St S (BlkA g t cs :: l) w0 w) (cs' : Array Value) : St S (BlkA g t cs' :: l) w0 (w.setRow g cs') := by
  obtain ⟨F, ⟨hb, rfl⟩, k⟩ := h.turn
  exact k _ _ ⟨_, ⟨setRow_heap w g cs cs' t (0, 0) hb, rfl⟩, ⟨rfl, rfl, rfl, by simp [World.setRow], fun k _ hk => setRow_other w g k _ hk⟩, fun i hi => .inl hi⟩
section
variable {P : Program} {ops : Array Oper} {rest : List Oper} {o : Oper} {a : Act} {w : World} {Q : Exit → Act → World → Prop}
/-- an operation behind a guard that lets it by -/
theorem wpList_want (hw : Region.wanted o (yielded ops a.tmps) = true) (h : ∀ K : Act → World → Prop, (∀ a w, wpList P ops Q rest a w → K a w) → o.wp P a w K Q) : wpList P ops Q (o :: rest) a w :=
  wpList_step fun K hK => by rw [if_pos hw]; exact h K hK
theorem wpList_load_rowG (ty : TypeId) (x : Operand) (ho : o.op = .load ty x)
    (g : Nat) (hx : a.eval x = .pointer (some ⟨g, 0, none⟩)) (t : TypeId) (cs : Array Value) (fr : Nat × Nat) (d : TypeDesc) (hg : w.heap[g]? = some (.cells cs t fr))
    (hu : P.underlying ty = some d) (hd : (match d with | .struct _ | .array _ _ => true | _ => false) = true) (hi : (P.info? ty).map (·.size) = some cs.size)
    (hw : Region.wanted o (yielded ops a.tmps) = true) (h : wpList P ops Q rest (a.put o.dst (.agg cs)) w) : wpList P ops Q (o :: rest) a w :=
  wpList_want hw fun _ hK => wp_load_row ty x ho g hx t cs fr d hg hu hd hi (hK _ _ h)
theorem wpList_load_midG (ty : TypeId) (x : Operand) (ho : o.op = .load ty x)
    (b f : Nat) (hx : a.eval x = .pointer (some ⟨b, f, none⟩)) (cs : List Value) (d : TypeDesc) (hc : w.rangeAt b f cs)
    (hu : P.underlying ty = some d) (hd : d.isRow = true) (hi : (P.info? ty).map (·.size) = some cs.length)
    (hw : Region.wanted o (yielded ops a.tmps) = true) (h : wpList P ops Q rest (a.put o.dst (.agg cs.toArray)) w) : wpList P ops Q (o :: rest) a w :=
  wpList_want hw fun _ hK => wp_load_mid ty x ho b f hx cs d hc hu hd hi (hK _ _ h)
end
/-- the second is forgotten -/
theorem St.dropSnd {S : Fp} {l : List Ass} {w0 w : World} {P Q : Ass} (h : St S (P :: Q :: l) w0 w) : St S (P :: l) w0 w := h.swap.drop
end Go.Proofs.YthmgkjfohkadoaaGreatDoor
