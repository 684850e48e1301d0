/- A pool: blocks that are only read, in which each of some slices of bytes reads as its list. No program is named here. -/
import Derived.Test.YtkdlehekignnhaaDoorRws
namespace Go.Proofs.YtkdlehekignnhaaDoor
open Go.RowKit
set_option linter.unusedVariables false

/-- The slice value v reads as bs, in blocks of D. -/
def RBin (D : Fp) (w : World) (v : Value) (bs : List Nat) : Prop :=
  ∃ A c, v = .slice A bs.length c ∧ bs.length ≤ c ∧ c ≤ maxLen ∧ RB w w.heap.size A bs ∧ (0 < bs.length → ∀ ad, A = some ad → D ad.block)
theorem RBin.keep {D : Fp} {w w' : World} {v : Value} {bs : List Nat} (h : RBin D w v bs) (hs : w.heap.size ≤ w'.heap.size) (hk : ∀ k, D k → w'.heap[k]? = w.heap[k]?) : RBin D w' v bs := by
  obtain ⟨A, c, rfl, h1, h2, h3, h4⟩ := h
  refine ⟨A, c, rfl, h1, h2, ⟨h3.1, h3.2.1, fun hn => ?_⟩, h4⟩
  obtain ⟨ad, e, hb, hc⟩ := h3.2.2 hn
  refine ⟨ad, e, by omega, fun j u hu => ?_⟩
  rw [← hc j u hu]
  exact World.cell?_of_block (hk _ (by rw [block_of_add]; exact h4 hn ad e))
theorem RBin.mono {D D' : Fp} {w : World} {v : Value} {bs : List Nat} (h : RBin D w v bs) (hd : ∀ k, D k → D' k) : RBin D' w v bs := by
  obtain ⟨A, c, rfl, h1, h2, h3, h4⟩ := h
  exact ⟨A, c, rfl, h1, h2, h3, fun hn ad e => hd _ (h4 hn ad e)⟩
/-- each of these slices reads as its bytes -/
def PoolA (Y : List (Value × List Nat)) : Ass := fun w D => (∀ k, D k → k < w.heap.size) ∧ ∀ y ∈ Y, RBin D w y.1 y.2
instance stablePool {Y : List (Value × List Nat)} : Stable (PoolA Y) where
  lt := by
    rintro w F ⟨h, _⟩ k hk
    exact h k hk
  keep := by
    rintro w w' F ⟨h, h2⟩ hs hk
    exact ⟨fun k hF => by have := h k hF; omega, fun y hy => (h2 y hy).keep hs hk⟩
section
variable {S : Fp} {l : List Ass} {w0 w : World} {Y Y' : List (Value × List Nat)}
theorem St.nilPool (h : St S l w0 w) : St S (PoolA [] :: l) w0 w := by
  obtain ⟨F, h1, h2, h3⟩ := h
  exact ⟨F, ⟨fun _ => False, F, ⟨fun _ h => h.elim, fun y hy => by cases hy⟩, h1, fun _ h => h.elim, by funext k; simp⟩, h2, h3⟩
theorem St.subPool (h : St S (PoolA Y :: l) w0 w) (hs : ∀ y ∈ Y', y ∈ Y) : St S (PoolA Y' :: l) w0 w :=
  h.mapHead fun F hF => ⟨hF.1, fun y hy => hF.2 y (hs y hy)⟩
/-- a row of bytes goes into the pool -/
theorem St.intoPool {e : TypeId} {v : Value} {bs : List Nat} (h : St S (ObA e v bs :: PoolA Y :: l) w0 w) : St S (PoolA ((v, bs) :: Y) :: l) w0 w := h.map (l := ObA e v bs :: PoolA Y :: l) fun F hF => by
  obtain ⟨G, _, ⟨ho, rfl⟩, ⟨D, H, ⟨hd, hp⟩, h2, h3, rfl⟩, h5, rfl⟩ := hF
  refine ⟨fun k => rfp v k ∨ D k, H, ⟨?_, ?_⟩, h2, ?_, ?_⟩
  · rintro k (hk | hk)
    · exact (ho.2.lt k hk).2
    · exact hd k hk
  · intro y hy
    rcases List.mem_cons.1 hy with rfl | hy
    · obtain ⟨A, c, rfl, h6, h7, h8, h9⟩ := ho.form
      refine ⟨A, c, rfl, h6, h7, h8, fun hn ad e => .inl ?_⟩
      subst e
      obtain ⟨b, off, e, _, _⟩ := h8.all hn
      injection e with e
      subst e
      have := ho.2.form hn
      obtain ⟨g, cap, hv, _⟩ := this
      simp only [Value.slice.injEq, Option.some.injEq, Addr.mk.injEq] at hv
      obtain ⟨⟨rfl, rfl, -⟩, -, -⟩ := hv
      rfl
    · exact (hp y hy).mono fun k hk => .inr hk
  · rintro k (hk | hk) hh
    · exact h5 k hk (.inr hh)
    · exact h3 k hk hh
  · funext k
    exact propext ⟨fun h => h.elim (fun a => .inl (.inl a)) fun h => h.elim (fun a => .inl (.inr a)) .inr, fun h => h.elim (fun h => h.elim .inl fun a => .inr (.inl a)) fun a => .inr (.inr a)⟩
theorem St.pool (h : St S (PoolA Y :: l) w0 w) {v : Value} {bs : List Nat} (hy : (v, bs) ∈ Y) : ∃ A c, v = .slice A bs.length c ∧ bs.length ≤ c ∧ c ≤ maxLen ∧ RB w w.heap.size A bs := by
  obtain ⟨F, _, h2⟩ := h.head
  obtain ⟨A, c, h1, h3, h4, h5, _⟩ := h2 _ hy
  exact ⟨A, c, h1, h3, h4, h5⟩
end

/-- a record of the document's file: in use or not, and what it holds -/
structure Rc where
  used : Bool
  data : List Nat
instance : Inhabited Rc := ⟨⟨false, []⟩⟩
/-- a record, and where its bytes lie -/
structure Rq where
  r : Rc
  A : Option Addr
  c : Nat
instance : Inhabited Rq := ⟨⟨default, none, 0⟩⟩
def Rq.v (q : Rq) : Value := .slice q.A q.r.data.length q.c
/-- a record's cells -/
def rcF (q : Rq) : List Value := [.bool q.r.used, .slice q.A q.r.data.length q.c]
theorem rcF_row : RowF rcF 2 := ⟨fun _ => rfl, fun x u hu => by
  simp only [rcF, List.mem_cons, List.not_mem_nil, or_false] at hu
  rcases hu with rfl | rfl <;> rfl, by decide⟩
def poolOf (X : List Rq) : List (Value × List Nat) := X.map fun q => (q.v, q.r.data)
theorem poolOf_mem {X : List Rq} {q : Rq} (h : q ∈ X) : (q.v, q.r.data) ∈ poolOf X := List.mem_map.2 ⟨q, h, rfl⟩
theorem poolOf_sub {X X' : List Rq} {Y : List (Value × List Nat)} (h : ∀ q ∈ X, q ∈ X' ∨ (q.v, q.r.data) ∈ Y) : ∀ y ∈ poolOf X, y ∈ Y ++ poolOf X' := by
  intro y hy
  obtain ⟨q, hq, rfl⟩ := List.mem_map.1 hy
  rcases h q hq with h | h
  · exact List.mem_append.2 (.inr (poolOf_mem h))
  · exact List.mem_append.2 (.inl h)
/-- append(s, x) of one struct that lies in a new block, at a step of a region that draws its order -/
theorem step_append_row {P : Program} (w : World) {ops : Array Oper} {o : Oper} {a : Act} {K : Act → World → Prop} {Q : Exit → Act → World → Prop} {E : Prop} (hgd : o.guard = none) (s x : Operand) (t : TypeId)
    (ho : o.op = .call { callee := .builtin .append, args := #[s, x], argTypes := #[t, t] })
    (e : TypeId) (i : TypeInfo) (z : Value) (size bytes : Nat) (ht : P.underlying t = some (.slice e)) (hi : P.info? e = some i) (hz : i.zero = some z) (hsize : i.size = size) (hby : i.bytes = bytes) (hzs : z.cells.size = size) (hsz : 0 < size) (hb0 : 0 < bytes)
    (v : Value) (n : Nat) (xs : List Value) (hs : a.eval s = v) (hown : w.ownsRow 0 e size v n xs) (cs : Array Value) (hcs : cs.toList.length = size) (h1 : ∀ u ∈ cs.toList, u.oneCell' = true)
    (hx : a.eval x = .slice (some ⟨w.heap.size, 0, none⟩) 1 1) (hbytes : (n + 1) * bytes ≤ 140737488355328)
    (h : ∀ g cap w', w'.ownsRow 0 e size (.slice (some ⟨g, 0, none⟩) (n + 1) cap) (n + 1) (xs ++ cs.toList) → (w.alloc (.cells cs e)).grownBy w' v.ownBlock → (v.ownBlock = some g ∨ g = w.heap.size + 1) → g < w'.heap.size → K (a.put o.dst (.slice (some ⟨g, 0, none⟩) (n + 1) cap)) w') :
    if Region.wanted o (yielded ops a.tmps) = true then Oper.wp P o a (w.alloc (.cells cs e)) K Q else E := by
  have h64 : n + 1 ≤ (n + 1) * bytes := Nat.le_mul_of_pos_right _ hb0
  exact step_append_lies (w.alloc (.cells cs e)) hgd s x t ho 0 e i z size bytes ht hi hz hsize hby hzs hsz v n xs hs (hown.alloc _) ⟨w.heap.size, 0, none⟩ 1 1 cs.toList hx (by rw [hcs, Nat.one_mul]) (World.news_of_block (heap_alloc_new w _)) h1 (by omega) (by simp only [maxLen]; omega) hbytes (Nat.zero_le _) (w.heap.size + 1) (by simp) h

end Go.Proofs.YtkdlehekignnhaaDoor
