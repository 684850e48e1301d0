/- Slices that read as lists of one-cell values (ints, strings): read, and owned. No program is named here. -/
import Derived.Test.YtgpahglmhnnobaaGreatDoorBase
import Derived.Lib.LaidTab
namespace Go.Proofs.YtgpahglmhnnobaaGreatDoor
open Go.RowKit
set_option linter.unusedVariables false

/-- The slice value '.slice A L.length cap' reads as the list L, each as f says, and lies below block B. -/
def RL {α : Type} (f : α → Value) (w : World) (B : Nat) (A : Option Addr) (L : List α) : Prop := Reads w B 1 A L.length (L.map f) ∧ ∀ x ∈ L, f x ≠ undef ∧ (f x).oneCell' = true
section
variable {α : Type} {f : α → Value} {w w' : World} {B B' : Nat} {A : Option Addr} {L : List α}
theorem RL.empty (f : α → Value) (w : World) (B : Nat) (A : Option Addr) : RL f w B A [] := ⟨⟨rfl, fun h => absurd h (by simp)⟩, fun x hx => by cases hx⟩
theorem RL.keep (h : RL f w B A L) (hk : ∀ p : Addr, p.block < B → w'.cell? p = w.cell? p) : RL f w' B A L := ⟨h.1.keep hk, h.2⟩
theorem RL.more (h : RL f w B A L) (hB : B ≤ B') : RL f w B' A L := ⟨h.1.more hB, h.2⟩
theorem RL.below (h : RL f w B A L) (hb : Below B w w') : RL f w' B A L := ⟨h.1.below hb, h.2⟩
theorem RL.below' (h : RL f w B A L) (hb : Below B' w w') (hB : B ≤ B') : RL f w' B A L := h.below (hb.mono hB)
theorem RL.drewN (h : RL f w B A L) (k : Nat) : RL f (w.drewN k) B A L := h
theorem RL.alloc (h : RL f w B A L) (hB : B ≤ w.heap.size) (o : Obj) : RL f (w.alloc o) B A L := ⟨h.1.alloc hB o, h.2⟩
theorem RL.grown (h : RL f w B A L) {row : Option Nat} (hg : w.grownBy w' row) (hB : B ≤ w.heap.size) (hr : ∀ g, row = some g → B ≤ g) : RL f w' B A L := ⟨h.1.grown hg hB hr, h.2⟩
theorem RL.only {S : Nat → Prop} (h : RL f w B A L) (hb : Only S w w') (hB : B ≤ w.heap.size) (hg : ∀ k, k < B → ¬ S k) : RL f w' B A L :=
  h.keep fun p hp => World.cell?_of_block (hb.block p.block (by omega) (hg _ hp))
/-- the place of all of them -/
theorem RL.all (h : RL f w B A L) (hk : 0 < L.length) : ∃ b off, A = some ⟨b, off, none⟩ ∧ b < B ∧ ∀ k (hk : k < L.length), w.cell? ⟨b, off + k, none⟩ = some (f L[k]) := by
  obtain ⟨ad, e, hb, hc⟩ := h.1.2 hk
  have hc' : ∀ k (hk : k < L.length), w.cell? (ad.add k) = some (f L[k]) := fun k hk => hc k (f L[k]) (by simp [List.getElem?_eq_getElem hk])
  obtain ⟨b, off, spot⟩ := ad
  have h0 := hc' 0 hk
  have hs : spot = none := by simpa [Addr.add] using World.cell?_spot h0
  subst hs
  exact ⟨b, off, e, hb, fun k hk => by have := hc' k hk; rwa [add_none] at this⟩
theorem RL.of_own {base : Nat} {e : TypeId} {c : Nat} (h1 : ∀ x ∈ L, f x ≠ undef ∧ (f x).oneCell' = true) (h : w.ownsRow base e 1 (.slice A L.length c) L.length (L.map f)) : RL f w w.heap.size A L := ⟨Reads.of_own h, h1⟩
end

/-- a slice that the call owns -/
def OL {α : Type} (f : α → Value) (w : World) (base : Nat) (e : TypeId) (v : Value) (L : List α) : Prop := (∀ x ∈ L, f x ≠ undef ∧ (f x).oneCell' = true) ∧ w.ownsRow base e 1 v L.length (L.map f)
section
variable {α : Type} {f : α → Value} {w w' : World} {base : Nat} {e : TypeId} {v : Value} {L : List α}
theorem OL.nil (f : α → Value) (w : World) (base : Nat) (e : TypeId) : OL f w base e (.slice none 0 0) [] := ⟨(fun x hx => by cases hx), World.ownsRow_nil w base e 1⟩
theorem OL.keep (h : OL f w base e v L) (hk : ∀ g, v.ownBlock = some g → w'.heap[g]? = w.heap[g]?) : OL f w' base e v L := ⟨h.1, ownsRow_keep h.2 hk⟩
theorem OL.below {B : Nat} (h : OL f w base e v L) (hb : Below B w w') (hlt : w.heap.size ≤ B) : OL f w' base e v L := h.keep fun g hg => hb.block g (by have := (h.2.lt g hg).2; omega)
theorem OL.below' (h : OL f w base e v L) (hb : Below w.heap.size w w') : OL f w' base e v L := h.below hb (Nat.le_refl _)
theorem OL.alloc (h : OL f w base e v L) (o : Obj) : OL f (w.alloc o) base e v L := ⟨h.1, h.2.alloc o⟩
theorem OL.drewN (h : OL f w base e v L) (k : Nat) : OL f (w.drewN k) base e v L := h
theorem OL.mono {base' : Nat} (h : OL f w base e v L) (hb : base' ≤ base) : OL f w base' e v L := ⟨h.1, ownsRow_mono h.2 hb⟩
theorem OL.only {S : Nat → Prop} (h : OL f w base e v L) (hb : Only S w w') (hg : ∀ g, v.ownBlock = some g → ¬ S g) : OL f w' base e v L :=
  h.keep fun g hv => hb.block g (h.2.lt g hv).2 (hg g hv)
theorem OL.form (h : OL f w base e v L) : ∃ A cap, v = .slice A L.length cap ∧ L.length ≤ cap ∧ cap ≤ maxLen ∧ RL f w w.heap.size A L ∧ (∀ g, v.ownBlock = some g → base ≤ g ∧ g < w.heap.size) := by
  obtain ⟨hb, ho⟩ := h
  have hlt := ho.lt
  have ho' := ho
  rcases ho.2 with ⟨rfl, h0⟩ | ⟨g, cap, cur, rfl, _, _, h1, h2, _⟩
  · have hl : L = [] := List.length_eq_zero_iff.1 h0
    subst hl
    exact ⟨none, 0, rfl, Nat.le_refl _, Nat.zero_le _, RL.empty f w _ _, hlt⟩
  · exact ⟨_, cap, rfl, h1, h2, RL.of_own hb ho', hlt⟩
end

/-- append(s, x) of one element that lies in a block of its own -/
theorem wpList_append_elem {P : Program} {α : Type} {f : α → Value} (w : World) {ops : Array Oper} {rest : List Oper} {o : Oper} {a : Act} {Q : Exit → Act → World → Prop} (hgd : o.guard = none) (s x : Operand) (t : TypeId)
    (ho : o.op = .call { callee := .builtin .append, args := #[s, x], argTypes := #[t, t] })
    (base : Nat) (e : TypeId) (i : TypeInfo) (z : Value) (bytes : Nat) (ht : P.underlying t = some (.slice e)) (hi : P.info? e = some i) (hz : i.zero = some z) (hsize : i.size = 1) (hby : i.bytes = bytes) (hzs : z.cells.size = 1)
    (v : Value) (L : List α) (hs : a.eval s = v) (hown : OL f w base e v L) (y : α) (hy : f y ≠ undef ∧ (f y).oneCell' = true)
    (hx : a.eval x = .slice (some ⟨w.heap.size, 0, none⟩) 1 1) (hbytes : (L.length + 1) * bytes ≤ 140737488355328) (hb0 : 0 < bytes) (hbase : base ≤ w.heap.size)
    (h : ∀ v' w', OL f w' base e v' (L ++ [y]) → w.grownBy w' v.ownBlock → (v'.ownBlock = v.ownBlock ∨ v'.ownBlock = some (w.heap.size + 1)) → wpList P ops Q rest (a.put o.dst v') w') :
    wpList P ops Q (o :: rest) a (w.alloc (.cells #[f y] e)) := by
  have h64 : L.length + 1 ≤ (L.length + 1) * bytes := Nat.le_mul_of_pos_right _ hb0
  refine wpList_append_own_at (w.alloc (.cells #[f y] e)) hgd s x t ho base e i z 1 bytes ht hi hz hsize hby hzs (by omega) v L.length (L.map f) hs (hown.2.alloc _) ⟨w.heap.size, 0, none⟩ 1 1 [f y] hx rfl ?_ ?_ (by simp only [maxLen]; omega) hbytes (by simp; omega) ?_
  · intro j u hj
    exact World.news_of_block (heap_alloc_new w (.cells #[f y] e)) j u hj
  · intro u hu
    simp at hu
    subst hu
    exact hy.2
  · intro v' w' h1 h2 _ h3
    refine h v' w' ⟨?_, by simpa using h1⟩ ((World.grownBy_alloc w _ _).trans h2) (by simpa using h3)
    intro x hx
    simp only [List.mem_append, List.mem_singleton] at hx
    rcases hx with hx | rfl
    · exact hown.1 x hx
    · exact hy

/-- likewise, at a step of a region that draws its order -/
theorem step_append_elem {P : Program} {α : Type} {f : α → Value} (w : World) {ops : Array Oper} {o : Oper} {a : Act} {K : Act → World → Prop} {Q : Exit → Act → World → Prop} {E : Prop} (hgd : o.guard = none) (s x : Operand) (t : TypeId)
    (ho : o.op = .call { callee := .builtin .append, args := #[s, x], argTypes := #[t, t] })
    (base : Nat) (e : TypeId) (i : TypeInfo) (z : Value) (bytes : Nat) (ht : P.underlying t = some (.slice e)) (hi : P.info? e = some i) (hz : i.zero = some z) (hsize : i.size = 1) (hby : i.bytes = bytes) (hzs : z.cells.size = 1)
    (v : Value) (L : List α) (hs : a.eval s = v) (hown : OL f w base e v L) (y : α) (hy : f y ≠ undef ∧ (f y).oneCell' = true)
    (B : Nat) (hx : a.eval x = .slice (some ⟨B, 0, none⟩) 1 1) (hblk : w.heap[B]? = some (.cells #[f y] e (0, 0))) (hbytes : (L.length + 1) * bytes ≤ 140737488355328) (hb0 : 0 < bytes) (hbase : base ≤ w.heap.size)
    (h : ∀ g cap w', OL f w' base e (.slice (some ⟨g, 0, none⟩) (L.length + 1) cap) (L ++ [y]) → w.grownBy w' v.ownBlock → (v.ownBlock = some g ∨ g = w.heap.size) → g < w'.heap.size → K (a.put o.dst (.slice (some ⟨g, 0, none⟩) (L.length + 1) cap)) w') :
    if Region.wanted o (yielded ops a.tmps) = true then Oper.wp P o a w K Q else E := by
  have h64 : L.length + 1 ≤ (L.length + 1) * bytes := Nat.le_mul_of_pos_right _ hb0
  refine step_append_lies w hgd s x t ho base e i z 1 bytes ht hi hz hsize hby hzs (by omega) v L.length (L.map f) hs hown.2 ⟨B, 0, none⟩ 1 1 [f y] hx rfl (World.news_of_block hblk) ?_ (by omega) (by simp only [maxLen]; omega) hbytes hbase w.heap.size rfl ?_
  · intro u hu
    simp at hu
    subst hu
    exact hy.2
  · intro g cap w' h1 h2 h3 h4
    refine h g cap w' ⟨?_, by simpa using h1⟩ h2 h3 h4
    intro x hx
    simp only [List.mem_append, List.mem_singleton] at hx
    rcases hx with hx | rfl
    · exact hown.1 x hx
    · exact hy

/-- ints -/
abbrev ivl : Int → Value := fun n => Value.int .i64 n
abbrev svl : ByteArray → Value := fun s => Value.string s
theorem ivl_ok (n : Int) : ivl n ≠ undef ∧ (ivl n).oneCell' = true := ⟨by simp [ivl, undef], rfl⟩
theorem svl_ok (s : ByteArray) : svl s ≠ undef ∧ (svl s).oneCell' = true := ⟨by simp [svl, undef], rfl⟩
/-- element k -/
def nthI (L : List Int) (k : Nat) : Int := L.getD k 0
def nthS (L : List ByteArray) (k : Nat) : ByteArray := L.getD k ByteArray.empty
theorem nthI_lt {L : List Int} {k : Nat} (h : k < L.length) : nthI L k = L[k] := by simp [nthI, List.getD_eq_getElem?_getD, List.getElem?_eq_getElem h]
theorem nthS_lt {L : List ByteArray} {k : Nat} (h : k < L.length) : nthS L k = L[k] := by simp [nthS, List.getD_eq_getElem?_getD, List.getElem?_eq_getElem h]
theorem takeI_succ {L : List Int} {k : Nat} (h : k < L.length) : L.take (k + 1) = L.take k ++ [nthI L k] := by rw [List.take_succ_eq_append_getElem h, nthI_lt h]
theorem takeS_succ {L : List ByteArray} {k : Nat} (h : k < L.length) : L.take (k + 1) = L.take k ++ [nthS L k] := by rw [List.take_succ_eq_append_getElem h, nthS_lt h]
theorem dropI {L : List Int} {k : Nat} (h : k < L.length) : L.drop k = nthI L k :: L.drop (k + 1) := by rw [List.drop_eq_getElem_cons h, nthI_lt h]
theorem dropS {L : List ByteArray} {k : Nat} (h : k < L.length) : L.drop k = nthS L k :: L.drop (k + 1) := by rw [List.drop_eq_getElem_cons h, nthS_lt h]
section
variable {w w' : World} {B : Nat} {A : Option Addr}
theorem RL.allI {L : List Int} (h : RL ivl w B A L) (hk : 0 < L.length) : ∃ b off, A = some ⟨b, off, none⟩ ∧ b < B ∧ ∀ k, k < L.length → w.cell? ⟨b, off + k, none⟩ = some (.int .i64 (nthI L k)) := by
  obtain ⟨b, off, e, hb, hc⟩ := h.all hk
  exact ⟨b, off, e, hb, fun k hk => by rw [hc k hk, nthI_lt hk]⟩
theorem RL.allS {L : List ByteArray} (h : RL svl w B A L) (hk : 0 < L.length) : ∃ b off, A = some ⟨b, off, none⟩ ∧ b < B ∧ ∀ k, k < L.length → w.cell? ⟨b, off + k, none⟩ = some (.string (nthS L k)) := by
  obtain ⟨b, off, e, hb, hc⟩ := h.all hk
  exact ⟨b, off, e, hb, fun k hk => by rw [hc k hk, nthS_lt hk]⟩
theorem RL.oneI (w : World) (e : TypeId) (n : Int) : RL ivl (w.alloc (.cells #[.int .i64 n] e)) (w.heap.size + 1) (some ⟨w.heap.size, 0, none⟩) [n] := by
  refine ⟨⟨rfl, fun _ => ⟨_, rfl, Nat.lt_succ_self _, fun j u hj => ?_⟩⟩, fun x _ => ivl_ok x⟩
  exact World.news_of_block (heap_alloc_new w (.cells #[.int .i64 n] e)) j u hj
theorem RL.oneS (w : World) (e : TypeId) (s : ByteArray) : RL svl (w.alloc (.cells #[.string s] e)) (w.heap.size + 1) (some ⟨w.heap.size, 0, none⟩) [s] := by
  refine ⟨⟨rfl, fun _ => ⟨_, rfl, Nat.lt_succ_self _, fun j u hj => ?_⟩⟩, fun x _ => svl_ok x⟩
  exact World.news_of_block (heap_alloc_new w (.cells #[.string s] e)) j u hj
end

/-- the first that is not 0 -/
def fe {α : Type} (f : α → Int) : List α → Int
  | [] => 0
  | x :: l => if f x = 0 then fe f l else f x
theorem fe_append {α : Type} (f : α → Int) (a b : List α) : fe f (a ++ b) = if fe f a = 0 then fe f b else fe f a := by
  induction a with
  | nil => simp [fe]
  | cons x l ih =>
    simp only [List.cons_append, fe]
    by_cases h : f x = 0
    · simp only [h, if_true, ih]
    · simp only [h, if_false]
theorem fe_take {α : Type} (f : α → Int) (L : List α) (k : Nat) (h : fe f (L.take k) ≠ 0) : fe f L = fe f (L.take k) := by
  have := fe_append f (L.take k) (L.drop k)
  rw [List.take_append_drop, if_neg h] at this
  exact this

end Go.Proofs.YtgpahglmhnnobaaGreatDoor
