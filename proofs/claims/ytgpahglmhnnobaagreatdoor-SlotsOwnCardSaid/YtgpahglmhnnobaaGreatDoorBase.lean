/- Small words that all walks of this seat use: hidden facts, byte slices that read as lists of numbers, blocks known whole, appends onto rows of the call's own. No program is named here. -/
import Derived.WalkKit
import Derived.ProofKit
import Derived.OpenShut
import Derived.ShutString
import Derived.ChangeOld
import Derived.Below
import Derived.Lib.Hide
import Derived.Laws.OwnMore
import Derived.Deep.AppendLies
import Derived.Deep.Draws
import Derived.Maps.AppendAt
import Derived.RegionTactic
import Derived.OwnWalk
import Derived.Laws.Rows
import Derived.Laws.BitsAllLaws
namespace Go.Proofs.YtgpahglmhnnobaaGreatDoor
open Go.RowKit

theorem ret_int {k : IntKind} {a b : Int} (h : a = b) : Ending.returned (.int k a) = .returned (.int k b) := by rw [h]
theorem ret_bool {a b : Bool} (h : a = b) : Ending.returned (.bool a) = .returned (.bool b) := by rw [h]
theorem ret_two {a b c d : Value} (h : a = c) (h' : b = d) : Ending.returned (.tuple #[a, b]) = .returned (.tuple #[c, d]) := by rw [h, h']
theorem int_eq {k : IntKind} {a b : Int} (h : a = b) : Value.int k a = .int k b := by rw [h]
theorem block_of_add (a : Addr) (n : Nat) : (a.add n).block = a.block := by unfold Addr.add; split <;> rfl
theorem add_of_add (a : Addr) (i j : Nat) : (a.add i).add j = a.add (i + j) := by
  unfold Addr.add
  by_cases hi : i = 0 <;> by_cases hj : j = 0 <;> simp [hi, hj, Nat.add_assoc]
theorem add_none (b off i : Nat) : (⟨b, off, none⟩ : Addr).add i = ⟨b, off + i, none⟩ := by
  unfold Addr.add
  by_cases hi : i = 0 <;> simp [hi]

/-- The cells of a list of values stand from the address on, below block B. -/
def Reads (w : World) (B size : Nat) (A : Option Addr) (n : Nat) (xs : List Value) : Prop :=
  xs.length = n * size ∧ (0 < n → ∃ ad, A = some ad ∧ ad.block < B ∧ ∀ j u, xs[j]? = some u → w.cell? (ad.add j) = some u)

section
variable {w w' : World} {B B' size n : Nat} {A : Option Addr} {xs : List Value}
theorem Reads.none_ : Reads w B size A 0 [] := ⟨by simp, fun h => absurd h (by omega)⟩
theorem Reads.keep (h : Reads w B size A n xs) (hk : ∀ p : Addr, p.block < B → w'.cell? p = w.cell? p) : Reads w' B size A n xs :=
  ⟨h.1, fun hn => by
    obtain ⟨ad, e, hb, hc⟩ := h.2 hn
    exact ⟨ad, e, hb, fun j u hu => (hk _ (by rw [block_of_add]; exact hb)).trans (hc j u hu)⟩⟩
theorem Reads.more (h : Reads w B size A n xs) (hB : B ≤ B') : Reads w B' size A n xs :=
  ⟨h.1, fun hn => by
    obtain ⟨ad, e, hb, hc⟩ := h.2 hn
    exact ⟨ad, e, by omega, hc⟩⟩
theorem Reads.below (h : Reads w B size A n xs) (hb : Below B w w') : Reads w' B size A n xs := h.keep fun _ hp => hb.cell hp
theorem Reads.drew (h : Reads w B size A n xs) : Reads w.drew B size A n xs := h
theorem Reads.drewN (h : Reads w B size A n xs) (k : Nat) : Reads (w.drewN k) B size A n xs := h
theorem Reads.alloc (h : Reads w B size A n xs) (hB : B ≤ w.heap.size) (o : Obj) : Reads (w.alloc o) B size A n xs := h.keep fun p hp => World.cell?_alloc_lt w o p (by omega)
theorem Reads.setCell (h : Reads w B size A n xs) {p : Addr} (hB : B ≤ p.block) (u : Value) : Reads (w.setCell p u) B size A n xs :=
  h.keep fun q hq => World.cell?_setCell_other w p q u (fun e => by subst e; omega)
theorem Reads.grown (h : Reads w B size A n xs) {row : Option Nat} (hg : w.grownBy w' row) (hB : B ≤ w.heap.size) (hr : ∀ g, row = some g → B ≤ g) : Reads w' B size A n xs :=
  h.keep fun p hp => World.cell?_of_block (hg.block p.block (by omega) (fun e => by have := hr _ e.symm; omega))
theorem Reads.of_own {base : Nat} {e : TypeId} {c : Nat} (h : w.ownsRow base e size (.slice A n c) n xs) : Reads w w.heap.size size A n xs := by
  refine ⟨h.1, fun hn => ?_⟩
  obtain ⟨g, cap, hv, _, hlt⟩ := h.form hn
  have hA : A = some ⟨g, 0, none⟩ := by injection hv
  subst hA
  exact ⟨_, rfl, hlt, h.cells (g := g) rfl⟩
end

/-! ### Byte slices -/
/-- a list of bytes as cells -/
def cells8 (bs : List Nat) : List Value := bs.map fun n : Nat => Value.int .u8 (n : Int)
theorem cells8_length (bs : List Nat) : (cells8 bs).length = bs.length := by simp [cells8]
theorem cells8_append (a b : List Nat) : cells8 (a ++ b) = cells8 a ++ cells8 b := by simp [cells8]
theorem cells8_one (n : Nat) : cells8 [n] = [Value.int .u8 (n : Int)] := rfl
theorem cells8_oneCell (bs : List Nat) : ∀ u ∈ cells8 bs, u.oneCell' = true := by
  intro u hu
  simp only [cells8, List.mem_map] at hu
  obtain ⟨_, _, rfl⟩ := hu
  rfl
def IsBytes (bs : List Nat) : Prop := ∀ x ∈ bs, x < 256
theorem IsBytes.nil : IsBytes [] := by intro x hx; cases hx
theorem IsBytes.append {a b : List Nat} (ha : IsBytes a) (hb : IsBytes b) : IsBytes (a ++ b) := by
  intro x hx
  rcases List.mem_append.1 hx with h | h
  · exact ha x h
  · exact hb x h
theorem IsBytes.take {a : List Nat} (ha : IsBytes a) (n : Nat) : IsBytes (a.take n) := fun x hx => ha x (List.mem_of_mem_take hx)
theorem IsBytes.drop {a : List Nat} (ha : IsBytes a) (n : Nat) : IsBytes (a.drop n) := fun x hx => ha x (List.mem_of_mem_drop hx)
theorem getD_lt {a : List Nat} {i : Nat} (h : i < a.length) : a.getD i 0 = a[i] := by simp [List.getD_eq_getElem?_getD, List.getElem?_eq_getElem h]
theorem getD_ge {a : List Nat} {i : Nat} (h : a.length ≤ i) : a.getD i 0 = 0 := by simp [List.getD_eq_getElem?_getD, List.getElem?_eq_none h]
/-- byte k (0 where there is none) -/
def nth (a : List Nat) (i : Nat) : Nat := a.getD i 0
theorem nth_lt {a : List Nat} {i : Nat} (h : i < a.length) : nth a i = a[i] := getD_lt h
theorem nth_ge {a : List Nat} {i : Nat} (h : a.length ≤ i) : nth a i = 0 := getD_ge h
theorem nth_take {a : List Nat} {i n : Nat} (h : i < n) : nth (a.take n) i = nth a i := by
  unfold nth; rw [List.getD_eq_getElem?_getD, List.getD_eq_getElem?_getD, List.getElem?_take_of_lt h]
theorem nth_drop (a : List Nat) (i n : Nat) : nth (a.drop n) i = nth a (n + i) := by
  unfold nth; rw [List.getD_eq_getElem?_getD, List.getD_eq_getElem?_getD, List.getElem?_drop]
theorem take_succ_nth (bs : List Nat) (k : Nat) (h : k < bs.length) : bs.take (k + 1) = bs.take k ++ [nth bs k] := by
  rw [List.take_succ_eq_append_getElem h, nth_lt h]
theorem IsBytes.nth {a : List Nat} (ha : IsBytes a) (i : Nat) : nth a i < 256 := by
  rcases Nat.lt_or_ge i a.length with h | h
  · rw [nth_lt h]; exact ha _ (List.getElem_mem h)
  · rw [nth_ge h]; omega
theorem IsBytes.get {a : List Nat} (ha : IsBytes a) (i : Nat) : a.getD i 0 < 256 := by
  rcases Nat.lt_or_ge i a.length with h | h
  · rw [getD_lt h]; exact ha _ (List.getElem_mem h)
  · rw [getD_ge h]; omega
theorem IsBytes.single {n : Nat} (h : n < 256) : IsBytes [n] := by intro x hx; simp at hx; omega

/-- The slice value '.slice A bs.length cap' reads as the bytes bs, and lies below block B. -/
def RB (w : World) (B : Nat) (A : Option Addr) (bs : List Nat) : Prop := IsBytes bs ∧ Reads w B 1 A bs.length (cells8 bs)

section
variable {w w' : World} {B B' : Nat} {A : Option Addr} {bs : List Nat}
theorem RB.none_ : RB w B A [] := ⟨IsBytes.nil, Reads.none_⟩
theorem RB.empty (w : World) (B : Nat) (A : Option Addr) : RB w B A [] := ⟨IsBytes.nil, rfl, fun h => absurd h (by simp)⟩
theorem RB.keep (h : RB w B A bs) (hk : ∀ p : Addr, p.block < B → w'.cell? p = w.cell? p) : RB w' B A bs := ⟨h.1, h.2.keep hk⟩
theorem RB.more (h : RB w B A bs) (hB : B ≤ B') : RB w B' A bs := ⟨h.1, h.2.more hB⟩
theorem RB.below (h : RB w B A bs) (hb : Below B w w') : RB w' B A bs := ⟨h.1, h.2.below hb⟩
theorem RB.below' (h : RB w B A bs) (hb : Below B' w w') (hB : B ≤ B') : RB w' B A bs := h.below (hb.mono hB)
theorem RB.drew (h : RB w B A bs) : RB w.drew B A bs := h
theorem RB.drewN (h : RB w B A bs) (k : Nat) : RB (w.drewN k) B A bs := h
theorem RB.alloc (h : RB w B A bs) (hB : B ≤ w.heap.size) (o : Obj) : RB (w.alloc o) B A bs := ⟨h.1, h.2.alloc hB o⟩
theorem RB.setCell (h : RB w B A bs) {p : Addr} (hB : B ≤ p.block) (u : Value) : RB (w.setCell p u) B A bs := ⟨h.1, h.2.setCell hB u⟩
theorem RB.grown (h : RB w B A bs) {row : Option Nat} (hg : w.grownBy w' row) (hB : B ≤ w.heap.size) (hr : ∀ g, row = some g → B ≤ g) : RB w' B A bs := ⟨h.1, h.2.grown hg hB hr⟩
/-- the place of byte k -/
theorem RB.at_ {k : Nat} (h : RB w B A bs) (hk : k < bs.length) : ∃ b off, A = some ⟨b, off, none⟩ ∧ b < B ∧ w.cell? ⟨b, off + k, none⟩ = some (.int .u8 ((nth bs k : Nat) : Int)) := by
  obtain ⟨ad, e, hb, hc⟩ := h.2.2 (by omega)
  have h1 := hc k (.int .u8 ((nth bs k : Nat) : Int)) (by simp [cells8, nth_lt hk, List.getElem?_eq_getElem hk])
  have h0 := hc 0 (.int .u8 ((nth bs 0 : Nat) : Int)) (by
    have h0 : 0 < bs.length := by omega
    simp [cells8, nth_lt h0, List.getElem?_eq_getElem h0])
  obtain ⟨b, off, spot⟩ := ad
  have hs : spot = none := by simpa [Addr.add] using World.cell?_spot h0
  subst hs
  rw [add_none] at h1
  exact ⟨b, off, e, hb, h1⟩
/-- the place of all bytes -/
theorem RB.all (h : RB w B A bs) (hk : 0 < bs.length) : ∃ b off, A = some ⟨b, off, none⟩ ∧ b < B ∧ ∀ k, k < bs.length → w.cell? ⟨b, off + k, none⟩ = some (.int .u8 ((nth bs k : Nat) : Int)) := by
  obtain ⟨b, off, rfl, hb, _⟩ := h.at_ hk
  refine ⟨b, off, rfl, hb, fun k hk => ?_⟩
  obtain ⟨b', off', e, _, hc⟩ := h.at_ hk
  injection e with e
  injection e with e1 e2
  subst e1 e2
  exact hc
theorem RB.of_cells (hb : IsBytes bs) (A : Option Addr) (h : 0 < bs.length → ∃ b off, A = some ⟨b, off, none⟩ ∧ b < B ∧ ∀ k, k < bs.length → w.cell? ⟨b, off + k, none⟩ = some (.int .u8 ((nth bs k : Nat) : Int))) : RB w B A bs := by
  refine ⟨hb, by simp [cells8], fun hn => ?_⟩
  obtain ⟨b, off, rfl, hlt, hc⟩ := h hn
  refine ⟨_, rfl, hlt, fun j u hu => ?_⟩
  have hj : j < bs.length := by
    have := (List.getElem?_eq_some_iff.1 hu).1
    simpa [cells8] using this
  rw [add_none, hc j hj]
  simp only [cells8, List.getElem?_map, List.getElem?_eq_getElem hj, Option.map_some, Option.some.injEq] at hu
  rw [← hu, nth_lt hj]
/-- 's[lo:hi]' of a slice that reads as bs, where lo < cap: the address goes on by lo. -/
theorem RB.cut (h : RB w B A bs) {b off : Nat} (hA : A = some ⟨b, off, none⟩) (lo hi : Nat) (hh : hi ≤ bs.length) (hlo : lo ≤ hi) : RB w B (some ⟨b, off + lo, none⟩) ((bs.take hi).drop lo) := by
  refine RB.of_cells ((h.1.take hi).drop lo) _ fun hn => ?_
  have hl : ((bs.take hi).drop lo).length = hi - lo := by simp; omega
  obtain ⟨b', off', e, hb, hc⟩ := h.all (by omega)
  rw [hA] at e
  injection e with e
  injection e with e1 e2
  subst e1 e2
  refine ⟨_, _, rfl, hb, fun k hk => ?_⟩
  have := hc (lo + k) (by omega)
  rw [Nat.add_assoc, this]
  congr 2
  rw [nth_drop, nth_take (by omega)]
theorem RB.lit (w : World) (e : TypeId) (hb : IsBytes bs) (cs : Array Value) (hcs : cs.toList = cells8 bs) : RB (w.alloc (.cells cs e)) (w.heap.size + 1) (some ⟨w.heap.size, 0, none⟩) bs := by
  refine ⟨hb, by simp [cells8], fun _ => ⟨_, rfl, Nat.lt_succ_self _, fun j u hj => ?_⟩⟩
  exact World.news_of_block (heap_alloc_new w (.cells cs e)) j u (by rw [hcs]; exact hj)
theorem RB.of_own {base : Nat} {e : TypeId} {c : Nat} (hb : IsBytes bs) (h : w.ownsRow base e 1 (.slice A bs.length c) bs.length (cells8 bs)) : RB w w.heap.size A bs := ⟨hb, Reads.of_own h⟩
end

/-- a slice of bytes that the call owns (it may be grown): a value and what it holds -/
def OB (w : World) (base : Nat) (e : TypeId) (v : Value) (bs : List Nat) : Prop := IsBytes bs ∧ w.ownsRow base e 1 v bs.length (cells8 bs)

section
variable {w w' : World} {base : Nat} {e : TypeId} {v : Value} {bs : List Nat}
theorem OB.nil (w : World) (base : Nat) (e : TypeId) : OB w base e (.slice none 0 0) [] := ⟨IsBytes.nil, World.ownsRow_nil w base e 1⟩
theorem OB.kept {row : Option Nat} (h : OB w base e v bs) (hg : w.grownBy w' row) (hne : v.ownBlock = none ∨ v.ownBlock ≠ row) : OB w' base e v bs := ⟨h.1, h.2.kept hg hne⟩
theorem OB.alloc (h : OB w base e v bs) (o : Obj) : OB (w.alloc o) base e v bs := ⟨h.1, h.2.alloc o⟩
theorem OB.drew (h : OB w base e v bs) : OB w.drew base e v bs := h
theorem OB.drewN (h : OB w base e v bs) (k : Nat) : OB (w.drewN k) base e v bs := h
theorem ownsRow_keep {size n : Nat} {xs : List Value} (h : w.ownsRow base e size v n xs) (hk : ∀ g, v.ownBlock = some g → w'.heap[g]? = w.heap[g]?) : w'.ownsRow base e size v n xs := by
  refine ⟨h.1, ?_⟩
  rcases h.2 with h0 | ⟨g, cap, cur, rfl, hb, hh, h1, h2, h3, h4⟩
  · exact .inl h0
  · exact .inr ⟨g, cap, cur, rfl, hb, (hk g rfl).trans hh, h1, h2, h3, h4⟩
theorem ownsRow_mono {base' size n : Nat} {xs : List Value} (h : w.ownsRow base e size v n xs) (hb : base' ≤ base) : w.ownsRow base' e size v n xs := by
  refine ⟨h.1, ?_⟩
  rcases h.2 with h0 | ⟨g, cap, cur, rfl, hb', hh, h1, h2, h3, h4⟩
  · exact .inl h0
  · exact .inr ⟨g, cap, cur, rfl, by omega, hh, h1, h2, h3, h4⟩
theorem OB.keep (h : OB w base e v bs) (hk : ∀ g, v.ownBlock = some g → w'.heap[g]? = w.heap[g]?) : OB w' base e v bs := ⟨h.1, ownsRow_keep h.2 hk⟩
theorem OB.below {B : Nat} (h : OB w base e v bs) (hb : Below B w w') (hlt : w.heap.size ≤ B) : OB w' base e v bs := h.keep fun g hg => hb.block g (by have := (h.2.lt g hg).2; omega)
theorem OB.below' (h : OB w base e v bs) (hb : Below w.heap.size w w') : OB w' base e v bs := h.below hb (Nat.le_refl _)
theorem OB.mono {base' : Nat} (h : OB w base e v bs) (hb : base' ≤ base) : OB w base' e v bs := ⟨h.1, ownsRow_mono h.2 hb⟩
theorem below_own {B : Nat} {a : World} {size n : Nat} {xs : List Value} (hb : Below B a w) (h : w.ownsRow base e size v n xs) (hB : B ≤ base) (hg : w.grownBy w' v.ownBlock) (ha : B ≤ w.heap.size) : Below B a w' :=
  hb.grown hg ha fun k hk => by have := (h.lt k hk).1; omega
theorem OB.belowTo {B : Nat} {a : World} (h : OB w base e v bs) (hb : Below B a w) (hB : B ≤ base) (hg : w.grownBy w' v.ownBlock) (ha : B ≤ w.heap.size) : Below B a w' := below_own hb h.2 hB hg ha
/-- what the value looks like -/
theorem OB.form (h : OB w base e v bs) : ∃ A cap, v = .slice A bs.length cap ∧ bs.length ≤ cap ∧ cap ≤ maxLen ∧ RB w w.heap.size A bs ∧ (∀ g, v.ownBlock = some g → base ≤ g ∧ g < w.heap.size) := by
  obtain ⟨hb, ho⟩ := h
  have hlt := ho.lt
  have ho' := ho
  rcases ho.2 with ⟨rfl, h0⟩ | ⟨g, cap, cur, rfl, _, _, h1, h2, _⟩
  · have hl : bs = [] := List.length_eq_zero_iff.1 h0
    subst hl
    exact ⟨none, 0, rfl, Nat.le_refl _, Nat.zero_le _, RB.none_, hlt⟩
  · exact ⟨_, cap, rfl, h1, h2, RB.of_own hb ho', hlt⟩
end

theorem OB.reads {w : World} {base : Nat} {e : TypeId} {A : Option Addr} {n c : Nat} {bs : List Nat} (h : OB w base e (.slice A n c) bs) : n = bs.length ∧ RB w w.heap.size A bs ∧ n ≤ c ∧ c ≤ maxLen := by
  obtain ⟨A', c', hv, h1, h2, hr, _⟩ := h.form
  injection hv with e1 e2 e3
  subst e1 e2 e3
  exact ⟨rfl, hr, h1, h2⟩

section
variable {P : Program} (w : World)

/-- append(s, c): one byte onto a row of the call's own -/
theorem wpList_append_byte {ops : Array Oper} {rest : List Oper} {o : Oper} {a : Act} {Q : Exit → Act → World → Prop} (hgd : o.guard = none) (s x : Operand) (t : TypeId)
    (ho : o.op = .call { callee := .builtin .append, args := #[s, x], argTypes := #[t, t] })
    (base : Nat) (e : TypeId) (i : TypeInfo) (ht : P.underlying t = some (.slice e)) (hi : P.info? e = some i) (hz : i.zero = some (.int .u8 0)) (hsize : i.size = 1) (hby : i.bytes = 1)
    (v : Value) (bs : List Nat) (hs : a.eval s = v) (hown : OB w base e v bs)
    (ad : Addr) (cp n : Nat) (hx : a.eval x = .slice (some ad) 1 cp) (hc : w.cell? ad = some (.int .u8 (n : Int))) (hn : n < 256)
    (hlen : bs.length + 1 ≤ 140737488355328) (hbase : base ≤ w.heap.size)
    (h : ∀ v' w', OB w' base e v' (bs ++ [n]) → w.grownBy w' v.ownBlock → (v'.ownBlock = v.ownBlock ∨ v'.ownBlock = some w.heap.size) → wpList P ops Q rest (a.put o.dst v') w') :
    wpList P ops Q (o :: rest) a w := by
  refine wpList_append_own_at w hgd s x t ho base e i (.int .u8 0) 1 1 ht hi hz hsize hby rfl (by omega) v bs.length (cells8 bs) hs hown.2 ad 1 cp [.int .u8 (n : Int)] hx rfl (fun j u hj => ?_) (fun u hu => ?_) (by simp only [maxLen]; omega) (by omega) hbase ?_
  · match j, hj with
    | 0, hj =>
      simp at hj
      subst hj
      have : ad.add 0 = ad := by simp [Addr.add]
      rw [this]; exact hc
  · simp at hu
    subst hu
    rfl
  · intro v' w' h1 h2 _ h3
    refine h v' w' ⟨hown.1.append (IsBytes.single hn), ?_⟩ h2 h3
    rw [cells8_append, cells8_one]
    simpa using h1

/-- append(s, c) where c has just been laid in a block of its own -/
theorem wpList_append_lit8 {ops : Array Oper} {rest : List Oper} {o : Oper} {a : Act} {Q : Exit → Act → World → Prop} (hgd : o.guard = none) (s x : Operand) (t : TypeId)
    (ho : o.op = .call { callee := .builtin .append, args := #[s, x], argTypes := #[t, t] })
    (base : Nat) (e : TypeId) (i : TypeInfo) (ht : P.underlying t = some (.slice e)) (hi : P.info? e = some i) (hz : i.zero = some (.int .u8 0)) (hsize : i.size = 1) (hby : i.bytes = 1)
    (v : Value) (bs : List Nat) (n : Nat) (hs : a.eval s = v) (hown : OB w base e v bs)
    (hx : a.eval x = .slice (some ⟨w.heap.size, 0, none⟩) 1 1) (y : Int) (hy : y = (n : Int)) (hn : n < 256) (hlen : bs.length + 1 ≤ 140737488355328) (hbase : base ≤ w.heap.size)
    (h : ∀ v' w', OB w' base e v' (bs ++ [n]) → w.grownBy w' v.ownBlock → (v'.ownBlock = v.ownBlock ∨ v'.ownBlock = some (w.heap.size + 1)) → wpList P ops Q rest (a.put o.dst v') w') :
    wpList P ops Q (o :: rest) a (w.alloc (.cells #[.int .u8 y] e)) := by
  subst hy
  exact wpList_append_byte (w.alloc (.cells #[.int .u8 (n : Int)] e)) hgd s x t ho base e i ht hi hz hsize hby v bs hs (hown.alloc _) ⟨w.heap.size, 0, none⟩ 1 n hx
    (by simp) hn hlen (by simp; omega)
    fun v' w' h1 h2 h3 => h v' w' h1 ((World.grownBy_alloc w _ _).trans h2) (by simpa using h3)

/-- append(s, bs...): whatever bytes, none too, onto a row of the call's own -/
theorem run_append_bytes (t ty : TypeId) (base : Nat) (e : TypeId) (i : TypeInfo) (ht : P.underlying t = some (.slice e)) (hi : P.info? e = some i) (hz : i.zero = some (.int .u8 0)) (hsize : i.size = 1) (hby : i.bytes = 1)
    (v : Value) (bs : List Nat) (hown : OB w base e v bs) (A : Option Addr) (cp B : Nat) (news : List Nat) (hr : RB w B A news)
    (hlen : bs.length + news.length ≤ 140737488355328) (hbase : base ≤ w.heap.size) :
    ∃ v' w', (Builtin.append_ #[t, t] ty #[v, .slice A news.length cp]).run P w = .ok v' w' ∧ OB w' base e v' (bs ++ news) ∧ w.grownBy w' v.ownBlock ∧ (v'.ownBlock = v.ownBlock ∨ v'.ownBlock = some w.heap.size) := by
  rcases A with _ | ad
  · have hm : news.length = 0 := by
      rcases Nat.eq_zero_or_pos news.length with h0 | h0
      · exact h0
      · obtain ⟨_, h, _⟩ := hr.2.2 h0
        cases h
    have hn : news = [] := List.length_eq_zero_iff.1 hm
    subst hn
    refine ⟨v, w, ?_, by simpa using hown, World.grownBy.refl w _, .inl rfl⟩
    rcases hown.2.2 with ⟨rfl, _⟩ | ⟨g, cap, cur, rfl, _, _, hnc, _⟩
    · simp [Builtin.append_, run_underlying ht, sizeOf, typeInfo, hi, Builtin.lenOf, Builtin.firstCells]
    · simp [Builtin.append_, run_underlying ht, sizeOf, typeInfo, hi, Builtin.lenOf, Builtin.firstCells, hnc, storeCells]
  · have hcells : ∀ j u, (cells8 news)[j]? = some u → w.cell? (ad.add j) = some u := by
      intro j u hu
      have hlt := (List.getElem?_eq_some_iff.1 hu).1
      rw [cells8_length] at hlt
      obtain ⟨ad', h, _, hc⟩ := hr.2.2 (by omega)
      injection h with h
      subst h
      exact hc j u hu
    obtain ⟨v', w', hrun, h2, h3, _, h5⟩ := run_append_own_at (P := P) w base t ty e i (.int .u8 0) 1 1 ht hi hz hsize hby rfl (by omega) v bs.length (cells8 bs) hown.2 ad news.length cp (cells8 news) (by simp [cells8]) hcells (cells8_oneCell _) (by simp only [maxLen]; omega) (by omega) hbase
    exact ⟨v', w', hrun, ⟨hown.1.append hr.1, by rw [cells8_append]; simpa using h2⟩, h3, h5⟩

theorem wpList_append_bytes {ops : Array Oper} {rest : List Oper} {o : Oper} {a : Act} {Q : Exit → Act → World → Prop} (hgd : o.guard = none) (s x : Operand) (t : TypeId)
    (ho : o.op = .call { callee := .builtin .append, args := #[s, x], argTypes := #[t, t] })
    (base : Nat) (e : TypeId) (i : TypeInfo) (ht : P.underlying t = some (.slice e)) (hi : P.info? e = some i) (hz : i.zero = some (.int .u8 0)) (hsize : i.size = 1) (hby : i.bytes = 1)
    (v : Value) (bs : List Nat) (hs : a.eval s = v) (hown : OB w base e v bs)
    (A : Option Addr) (cp B : Nat) (news : List Nat) (m : Nat) (hm : news.length = m) (hx : a.eval x = .slice A m cp) (hr : RB w B A news)
    (hlen : bs.length + m ≤ 140737488355328) (hbase : base ≤ w.heap.size)
    (h : ∀ v' w', OB w' base e v' (bs ++ news) → w.grownBy w' v.ownBlock → (v'.ownBlock = v.ownBlock ∨ v'.ownBlock = some w.heap.size) → wpList P ops Q rest (a.put o.dst v') w') :
    wpList P ops Q (o :: rest) a w := by
  subst hm
  refine wpList_plain hgd fun K hK => ?_
  obtain ⟨v', w', hrun, h2, h3, h4⟩ := run_append_bytes (P := P) w t o.type base e i ht hi hz hsize hby v bs hown A cp B news hr hlen hbase
  unfold Oper.wp execOp
  simp only [ho, resolve, invoke, builtin, Sem.run_bind, Sem.run_pure, Result.andThen_ok, List.map_toArray, List.map_cons, List.map_nil, hs, hx, hrun]
  exact hK _ _ (h v' w' h2 h3 h4)
end

section
variable {w w' : World} {base : Nat} {e : TypeId}
/-- what begins a row is a row -/
theorem OB.prefix {g c : Nat} {xs ys : List Nat} {m : Nat} (h : OB w base e (.slice (some ⟨g, 0, none⟩) m c) (xs ++ ys)) : OB w base e (.slice (some ⟨g, 0, none⟩) xs.length c) xs := by
  refine ⟨fun x hx => h.1 x (List.mem_append.2 (.inl hx)), by simp [cells8], ?_⟩
  rcases h.2.2 with ⟨h0, _⟩ | ⟨g', cap, cur, hv, hb, hh, h1, h2, h3, h4⟩
  · simp at h0
  · simp only [Value.slice.injEq, Option.some.injEq, Addr.mk.injEq, and_true] at hv
    obtain ⟨rfl, rfl, rfl⟩ := hv
    refine .inr ⟨g, c, cur, rfl, hb, hh, ?_, h2, h3, ?_⟩
    · rw [List.length_append] at h1; omega
    · rw [cells8_append] at h4
      have : (cur.toList.take ((xs ++ ys).length * 1)).take (xs.length * 1) = (cells8 xs ++ cells8 ys).take (xs.length * 1) := by rw [h4]
      rw [List.take_take, List.length_append, Nat.min_eq_left (by omega)] at this
      rw [this, Nat.mul_one, ← cells8_length xs, List.take_left]

/-- how a row grows by an append of something: in place, or into a new block -/
def Onto (w w' : World) (v v' : Value) (n m : Nat) : Prop := (∃ g c, v = .slice (some ⟨g, 0, none⟩) n c ∧ v' = .slice (some ⟨g, 0, none⟩) (n + m) c) ∨ (w.grownBy w' none ∧ v'.ownBlock = some w.heap.size)

theorem run_append_exact {P : Program} (w : World) (t ty : TypeId) (base : Nat) (e : TypeId) (i : TypeInfo) (ht : P.underlying t = some (.slice e)) (hi : P.info? e = some i) (hz : i.zero = some (.int .u8 0)) (hsize : i.size = 1) (hby : i.bytes = 1)
    (v : Value) (bs : List Nat) (hown : OB w base e v bs) (A : Option Addr) (cp B : Nat) (news : List Nat) (hr : RB w B A news) (h0 : 0 < news.length)
    (hlen : bs.length + news.length ≤ 140737488355328) (hbase : base ≤ w.heap.size) :
    ∃ v' w', (Builtin.append_ #[t, t] ty #[v, .slice A news.length cp]).run P w = .ok v' w' ∧ OB w' base e v' (bs ++ news) ∧ w.grownBy w' v.ownBlock ∧ (v'.ownBlock = v.ownBlock ∨ v'.ownBlock = some w.heap.size) ∧ Onto w w' v v' bs.length news.length := by
  obtain ⟨v', w', hrun, h2, h3, h4⟩ := run_append_bytes (P := P) w t ty base e i ht hi hz hsize hby v bs hown A cp B news hr hlen hbase
  refine ⟨v', w', hrun, h2, h3, h4, ?_⟩
  obtain ⟨ad, rfl, _, hc⟩ := hr.2.2 h0
  rcases hown.2.2 with ⟨rfl, hn⟩ | ⟨g, cap, cur, rfl, hbg, hh, h5, h6, h7, h8⟩
  · have hbs : bs = [] := List.length_eq_zero_iff.1 hn
    subst hbs
    have hr2 := run_append_nil (P := P) w t ty e i (.int .u8 0) ht hi hz ad news.length cp (cells8 news) (by rw [cells8_length, hsize]; omega) hc h0 (by omega) (by rw [hby]; simp at hlen; omega)
    rw [hrun] at hr2
    injection hr2 with e1 e2
    subst e1 e2
    exact .inr ⟨⟨rfl, rfl, rfl, by simp, fun k hk _ => heap_alloc_old w.drew _ hk⟩, rfl⟩
  · by_cases hroom : bs.length + news.length ≤ cap
    · obtain ⟨w2, hr2, _, _⟩ := run_append_fits (P := P) w base t ty e i 1 ht hi hsize g bs.length cap (cells8 bs) hown.2 ad news.length cp (cells8 news) (by simp [cells8]) hc (cells8_oneCell _) hroom
      rw [hrun] at hr2
      injection hr2 with e1 e2
      subst e1
      exact .inl ⟨g, cap, rfl, rfl⟩
    · have hr2 := run_append_grow (P := P) w t ty e i (.int .u8 0) ht hi hz ⟨g, 0, none⟩ bs.length cap (cells8 bs) (by rw [cells8_length, hsize]; omega) (hown.2.cells (g := g) rfl) ad news.length cp (cells8 news) (by rw [cells8_length, hsize]; omega) hc (by omega) (by omega)
        (growslice_fits (by omega) (by rw [hby]; omega))
      rw [hrun] at hr2
      injection hr2 with e1 e2
      subst e1 e2
      exact .inr ⟨⟨rfl, rfl, rfl, by simp, fun k hk _ => heap_alloc_old w.drew _ hk⟩, rfl⟩

/-- what was there reads on behind an append -/
theorem OB.still {v v' : Value} {bs news : List Nat} (h : OB w base e v bs) (h' : OB w' base e v' (bs ++ news)) (ho : Onto w w' v v' bs.length news.length) : OB w' base e v bs := by
  rcases ho with ⟨g, c, rfl, rfl⟩ | ⟨hg, _⟩
  · exact h'.prefix
  · exact h.kept hg (by rcases hv : v.ownBlock with _ | g
                        · exact .inl rfl
                        · exact .inr (by simp))

theorem wpList_append_exact {P : Program} (w : World) {ops : Array Oper} {rest : List Oper} {o : Oper} {a : Act} {Q : Exit → Act → World → Prop} (hgd : o.guard = none) (s x : Operand) (t : TypeId)
    (ho : o.op = .call { callee := .builtin .append, args := #[s, x], argTypes := #[t, t] })
    (base : Nat) (e : TypeId) (i : TypeInfo) (ht : P.underlying t = some (.slice e)) (hi : P.info? e = some i) (hz : i.zero = some (.int .u8 0)) (hsize : i.size = 1) (hby : i.bytes = 1)
    (v : Value) (bs : List Nat) (hs : a.eval s = v) (hown : OB w base e v bs)
    (A : Option Addr) (cp B : Nat) (news : List Nat) (m : Nat) (hm : news.length = m) (hx : a.eval x = .slice A m cp) (hr : RB w B A news) (h0 : 0 < m)
    (hlen : bs.length + m ≤ 140737488355328) (hbase : base ≤ w.heap.size)
    (h : ∀ v' w', OB w' base e v' (bs ++ news) → w.grownBy w' v.ownBlock → (v'.ownBlock = v.ownBlock ∨ v'.ownBlock = some w.heap.size) → Onto w w' v v' bs.length m → wpList P ops Q rest (a.put o.dst v') w') :
    wpList P ops Q (o :: rest) a w := by
  subst hm
  refine wpList_plain hgd fun K hK => ?_
  obtain ⟨v', w', hrun, h2, h3, h4, h5⟩ := run_append_exact (P := P) w t o.type base e i ht hi hz hsize hby v bs hown A cp B news hr h0 hlen hbase
  unfold Oper.wp execOp
  simp only [ho, resolve, invoke, builtin, Sem.run_bind, Sem.run_pure, Result.andThen_ok, List.map_toArray, List.map_cons, List.map_nil, hs, hx, hrun]
  exact hK _ _ (h v' w' h2 h3 h4 h5)
end

/-- from v in w on, by appends, to v' in w' -/
def Grew (w w' : World) (v v' : Value) : Prop := w.grownBy w' v.ownBlock ∧ (v'.ownBlock = v.ownBlock ∨ ∃ g, v'.ownBlock = some g ∧ w.heap.size ≤ g)
theorem grownBy_trans' {a b c : World} {r r1 : Option Nat} (h : a.grownBy b r) (k : b.grownBy c r1) (hr : r1 = r ∨ ∃ g, r1 = some g ∧ a.heap.size ≤ g) : a.grownBy c r := by
  rcases hr with rfl | ⟨g, rfl, hg⟩
  · exact h.trans k
  · refine ⟨k.os.trans h.os, k.tape.trans h.tape, k.output.trans h.output, Nat.le_trans h.size k.size, fun i hi hne => ?_⟩
    have hs := h.size
    exact (k.block i (by omega) (fun e => by injection e with e; omega)).trans (h.block i hi hne)
theorem Grew.refl (w : World) (v : Value) : Grew w w v v := ⟨World.grownBy.refl w _, .inl rfl⟩
theorem Grew.trans {a b c : World} {v v1 v2 : Value} (h : Grew a b v v1) (k : Grew b c v1 v2) : Grew a c v v2 := by
  have hs := h.1.size
  refine ⟨grownBy_trans' h.1 k.1 h.2, ?_⟩
  rcases k.2 with e | ⟨g, e, hg⟩
  · rcases h.2 with e' | ⟨g, e', hg⟩
    · exact .inl (e.trans e')
    · exact .inr ⟨g, e.trans e', hg⟩
  · exact .inr ⟨g, e, by omega⟩
theorem Grew.of {w w' : World} {v v' : Value} {n : Nat} (h : w.grownBy w' v.ownBlock) (k : v'.ownBlock = v.ownBlock ∨ v'.ownBlock = some n) (hn : w.heap.size ≤ n) : Grew w w' v v' :=
  ⟨h, k.elim .inl fun e => .inr ⟨n, e, hn⟩⟩
theorem Grew.drewN {w w' : World} {v v' : Value} (h : Grew w w' v v') (n : Nat) : Grew w (w'.drewN n) v v' := ⟨⟨h.1.os, h.1.tape, h.1.output, h.1.size, h.1.block⟩, h.2⟩

/-- Of the blocks that were there only those of S may have turned. -/
structure Only (S : Nat → Prop) (w w' : World) : Prop where
  os : w'.os = w.os
  tape : w'.tape = w.tape
  output : w'.output = w.output
  size : w.heap.size ≤ w'.heap.size
  block : ∀ k, k < w.heap.size → ¬ S k → w'.heap[k]? = w.heap[k]?
theorem Only.refl (S : Nat → Prop) (w : World) : Only S w w := ⟨rfl, rfl, rfl, Nat.le_refl _, fun _ _ _ => rfl⟩
theorem Only.trans {S T : Nat → Prop} {a b c : World} (h : Only S a b) (k : Only T b c) (hst : ∀ i, i < a.heap.size → T i → S i) : Only S a c :=
  ⟨k.os.trans h.os, k.tape.trans h.tape, k.output.trans h.output, Nat.le_trans h.size k.size, fun i hi hn => by
    have hs := h.size
    exact (k.block i (by omega) (fun ht => hn (hst i hi ht))).trans (h.block i hi hn)⟩
theorem Only.mono {S T : Nat → Prop} {w w' : World} (h : Only S w w') (hst : ∀ i, i < w.heap.size → S i → T i) : Only T w w' := ⟨h.os, h.tape, h.output, h.size, fun i hi hn => h.block i hi (fun hs => hn (hst i hi hs))⟩
theorem Only.of_below {w w' : World} (h : Below w.heap.size w w') (S : Nat → Prop) : Only S w w' := ⟨h.os, h.tape, h.output, h.size, fun i hi _ => h.block i hi⟩
theorem Only.of_grown {w w' : World} {row : Option Nat} (h : w.grownBy w' row) : Only (fun k => row = some k) w w' := ⟨h.os, h.tape, h.output, h.size, fun i hi hn => h.block i hi (fun e => hn e.symm)⟩
theorem Only.below {S : Nat → Prop} {B : Nat} {w w' : World} (h : Only S w w') (hB : B ≤ w.heap.size) (hs : ∀ k, k < w.heap.size → S k → B ≤ k) : Below B w w' :=
  ⟨h.os, h.tape, h.output, h.size, fun i hi => h.block i (by omega) (fun hS => by have := hs i (by omega) hS; omega)⟩
theorem Only.belowTrans {S : Nat → Prop} {B : Nat} {a w w' : World} (hb : Below B a w) (h : Only S w w') (hB : B ≤ a.heap.size) (hs : ∀ k, k < w.heap.size → S k → B ≤ k) : Below B a w' := by
  have := hb.size
  exact hb.trans (h.below (by omega) hs)
theorem Only.drewN {S : Nat → Prop} {w w' : World} (h : Only S w w') (n : Nat) : Only S w (w'.drewN n) := ⟨h.os, h.tape, h.output, h.size, h.block⟩
theorem Only.alloc {S : Nat → Prop} {w w' : World} (h : Only S w w') (o : Obj) : Only S w (w'.alloc o) :=
  ⟨h.os, h.tape, h.output, Nat.le_trans h.size (by simp), fun i hi hn => by
    have hs := h.size
    exact (Below.heap_alloc w' o i (by omega)).trans (h.block i hi hn)⟩
theorem Only.setCell {S : Nat → Prop} {w w' : World} (h : Only S w w') {p : Addr} (hp : S p.block ∨ w.heap.size ≤ p.block) (u : Value) : Only S w (w'.setCell p u) :=
  ⟨h.os, h.tape, h.output, by simpa [World.setCell] using h.size, fun i hi hn => (Below.heap_setCell w' p u i (by
    rintro rfl
    rcases hp with hp | hp
    · exact hn hp
    · omega)).trans (h.block i hi hn)⟩

/-- A block known whole: its cells, its elements' type; nothing of it is frozen. -/
def Blk (w : World) (g : Nat) (t : TypeId) (cs : Array Value) : Prop := w.heap[g]? = some (.cells cs t (0, 0))
section
variable {w w' : World} {g : Nat} {t : TypeId} {cs : Array Value}
theorem Blk.lt (h : Blk w g t cs) : g < w.heap.size := by
  rcases Nat.lt_or_ge g w.heap.size with hlt | hge
  · exact hlt
  · unfold Blk at h; rw [Array.getElem?_eq_none hge] at h; cases h
theorem Blk.cell (h : Blk w g t cs) (i : Nat) : w.cell? ⟨g, i, none⟩ = cs[i]? := cell_of_row w g i cs t (0, 0) h
theorem Blk.frozen (h : Blk w g t cs) (i : Nat) : w.frozen? ⟨g, i, none⟩ = false := by
  unfold Blk at h
  simp [World.frozen?, h]
theorem Blk.new (w : World) (t : TypeId) (cs : Array Value) : Blk (w.alloc (.cells cs t)) w.heap.size t cs := heap_alloc_new w _
theorem Blk.drewN (h : Blk w g t cs) (n : Nat) : Blk (w.drewN n) g t cs := h
theorem Blk.alloc (h : Blk w g t cs) (o : Obj) : Blk (w.alloc o) g t cs := (Below.heap_alloc w o g h.lt).trans h
theorem Blk.set_ (h : Blk w g t cs) (i : Nat) (u : Value) : Blk (w.setCell ⟨g, i, none⟩ u) g t (cs.setIfInBounds i u) := by
  unfold Blk at h ⊢
  simp [World.setCell, Array.getElem?_modify, h]
theorem Blk.far (h : Blk w g t cs) {p : Addr} (hp : g ≠ p.block) (u : Value) : Blk (w.setCell p u) g t cs := (Below.heap_setCell w p u g hp).trans h
theorem Blk.keep (h : Blk w g t cs) (hk : w'.heap[g]? = w.heap[g]?) : Blk w' g t cs := hk.trans h
theorem Blk.only {S : Nat → Prop} (h : Blk w g t cs) (hb : Only S w w') (hg : ¬ S g) : Blk w' g t cs := (hb.block g h.lt hg).trans h
theorem Blk.below {B : Nat} (h : Blk w g t cs) (hb : Below B w w') (hg : g < B) : Blk w' g t cs := (hb.block g hg).trans h
theorem Blk.grown {row : Option Nat} (h : Blk w g t cs) (hb : w.grownBy w' row) (hg : some g ≠ row) : Blk w' g t cs := (hb.block g h.lt hg).trans h
theorem Blk.ne_ {g' : Nat} {t' : TypeId} {cs' : Array Value} (h : Blk w g t cs) (h' : Blk w g' t' cs') (hne : t ≠ t') : g ≠ g' := by
  rintro rfl
  unfold Blk at h h'
  rw [h] at h'
  injection h' with h'
  injection h' with _ ht
  exact hne ht
theorem own_blk_ne {base : Nat} {e : TypeId} {size n : Nat} {v : Value} {xs : List Value} (h : w.ownsRow base e size v n xs) (hg : Blk w g t cs) (hne : e ≠ t) : v.ownBlock ≠ some g := by
  rcases h.2 with ⟨rfl, _⟩ | ⟨g', cap, cur, rfl, _, hh, _⟩
  · simp [Value.ownBlock]
  · intro he
    have : g' = g := by simpa [Value.ownBlock] using he
    subst this
    exact Blk.ne_ (t := e) hh hg hne rfl
end

theorem below_drewN {B : Nat} {a w : World} (h : Below B a w) (n : Nat) : Below B a (w.drewN n) := ⟨h.os, h.tape, h.output, h.size, h.block⟩
theorem below_of_drewN {B : Nat} (w : World) (n : Nat) : Below B w (w.drewN n) := below_drewN (Below.refl B w) n

theorem OB.only {S : Nat → Prop} {w w' : World} {base : Nat} {e : TypeId} {v : Value} {bs : List Nat} (h : OB w base e v bs) (hb : Only S w w') (hg : ∀ g, v.ownBlock = some g → ¬ S g) : OB w' base e v bs :=
  h.keep fun g hv => hb.block g (h.2.lt g hv).2 (hg g hv)
theorem RB.only {S : Nat → Prop} {w w' : World} {B : Nat} {A : Option Addr} {bs : List Nat} (h : RB w B A bs) (hb : Only S w w') (hB : B ≤ w.heap.size) (hg : ∀ k, k < B → ¬ S k) : RB w' B A bs :=
  h.keep fun p hp => World.cell?_of_block (hb.block p.block (by omega) (hg _ hp))

/-! ### Bits of numbers -/
theorem wrapU64 (n : Int) : IntKind.u64.wrap n = n % 18446744073709551616 := by simp [IntKind.wrap, IntKind.bits, IntKind.signed]
theorem wrapU32 (n : Int) : IntKind.u32.wrap n = n % 4294967296 := by simp [IntKind.wrap, IntKind.bits, IntKind.signed]
theorem wrapU8 (n : Int) : IntKind.u8.wrap n = n % 256 := by simp [IntKind.wrap, IntKind.bits, IntKind.signed]
theorem wrapU64_in (n : Nat) (h : n < 18446744073709551616) : IntKind.u64.wrap (n : Int) = n := by rw [wrapU64]; omega
theorem wrapU32_in (n : Nat) (h : n < 4294967296) : IntKind.u32.wrap (n : Int) = n := by rw [wrapU32]; omega
theorem wrapU8_in (n : Nat) (h : n < 256) : IntKind.u8.wrap (n : Int) = n := by rw [wrapU8]; omega
theorem or_shift8 (n c : Nat) (hc : c < 256) : (n <<< 8) ||| c = n * 256 + c := by
  have := Nat.two_pow_add_eq_or_of_lt (i := 8) (b := c) (by simpa using hc) n
  rw [Nat.shiftLeft_eq, Nat.mul_comm n, ← this]

end Go.Proofs.YtgpahglmhnnobaaGreatDoor
