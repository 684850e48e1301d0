/- A node's chains: the answers as functions on lists. No program is named here. -/
import Derived.Test.YtpdaiiakdlngjaaRws
namespace Go.Proofs.Ytpdaiiakdlngjaa
open Go.RowKit
set_option linter.unusedVariables false

/-- a link -/
structure LkC where
  lv : Bool
  fr : Int
  to : Int
  fp : Int
  tp : Int
  fn : Int
  tn : Int
def inI (x : Int) : Prop := -9223372036854775808 ≤ x ∧ x ≤ 9223372036854775807
instance inhLk : Inhabited LkC := ⟨⟨false, 0, 0, 0, 0, 0, 0⟩⟩
def lkc (x : LkC) : List Value := [.bool x.lv, .int .i64 x.fr, .int .i64 x.to, .int .i64 x.fp, .int .i64 x.tp, .int .i64 x.fn, .int .i64 x.tn]
abbrev lka (x : LkC) : Array Value := #[.bool x.lv, .int .i64 x.fr, .int .i64 x.to, .int .i64 x.fp, .int .i64 x.tp, .int .i64 x.fn, .int .i64 x.tn]
theorem lkc_f : RowF lkc 7 := ⟨fun _ => rfl, fun x u hu => by
  simp only [lkc, List.mem_cons, List.not_mem_nil, or_false] at hu
  rcases hu with rfl | rfl | rfl | rfl | rfl | rfl | rfl <;> rfl, by decide⟩
/-- the cells of one -/
theorem lk_cells {w : World} {b o : Nat} {x : LkC} (h : w.rangeAt b o (lkc x)) :
    w.cell? ⟨b, o, none⟩ = some (.bool x.lv) ∧ w.cell? ⟨b, o + 1, none⟩ = some (.int .i64 x.fr) ∧ w.cell? ⟨b, o + 2, none⟩ = some (.int .i64 x.to) ∧ w.cell? ⟨b, o + 3, none⟩ = some (.int .i64 x.fp) ∧ w.cell? ⟨b, o + 4, none⟩ = some (.int .i64 x.tp) ∧ w.cell? ⟨b, o + 5, none⟩ = some (.int .i64 x.fn) ∧ w.cell? ⟨b, o + 6, none⟩ = some (.int .i64 x.tn) :=
  ⟨h 0 _ rfl, h 1 _ rfl, h 2 _ rfl, h 3 _ rfl, h 4 _ rfl, h 5 _ rfl, h 6 _ rfl⟩

/-- the node is one of its ends -/
def tb (x : LkC) (node : Int) : Bool := decide (x.fr = node) || decide (x.to = node)
/-- 0, or the error's number -/
def tch (L : List LkC) (node id : Int) : Int :=
  if id < 0 ∨ (L.length : Int) ≤ id then 3 else if (nthD L id.toNat).lv = false then 3 else if tb (nthD L id.toNat) node = true then 0 else 65
theorem tch_ok {L : List LkC} {node id : Int} (h : tch L node id = 0) : ∃ k : Nat, id = k ∧ k < L.length ∧ (nthD L k).lv = true ∧ tb (nthD L k) node = true := by
  unfold tch at h
  split at h
  · cases h
  · rename_i h1
    split at h
    · cases h
    · rename_i h2
      split at h
      · rename_i h3
        exact ⟨id.toNat, by omega, by omega, by simpa using h2, h3⟩
      · cases h
theorem tch_at {L : List LkC} {node : Int} {k : Nat} (h : k < L.length) (h1 : (nthD L k).lv = true) (h2 : tb (nthD L k) node = true) : tch L node k = 0 := by
  unfold tch
  rw [if_neg (by omega), Int.toNat_natCast, h1, h2]
  rfl
theorem tch_cases (L : List LkC) (node id : Int) : tch L node id = 0 ∨ tch L node id = 3 ∨ tch L node id = 65 := by
  unfold tch
  split
  · exact .inr (.inl rfl)
  · split
    · exact .inr (.inl rfl)
    · split
      · exact .inl rfl
      · exact .inr (.inr rfl)
/-- the node's relationships among the first k -/
def incK (L : List LkC) (node : Int) (k : Nat) : List Int := ((List.range k).filter fun i : Nat => decide (tch L node (Int.ofNat i) = 0)).map Int.ofNat
theorem incK_succ (L : List LkC) (node : Int) (k : Nat) : incK L node (k + 1) = incK L node k ++ if tch L node (k : Int) = 0 then [(k : Int)] else [] := by
  unfold incK
  rw [List.range_succ, List.filter_append, List.map_append]
  congr 1
  have e : ((k : Nat) : Int) = Int.ofNat k := rfl
  rw [e]
  by_cases h : tch L node (Int.ofNat k) = 0
  · rw [List.filter_cons_of_pos (by simpa using h), if_pos h]
    rfl
  · rw [List.filter_cons_of_neg (by simpa using h), if_neg h]
    rfl
theorem incK_len (L : List LkC) (node : Int) (k : Nat) : (incK L node k).length ≤ k := by
  unfold incK
  rw [List.length_map]
  exact Nat.le_trans (List.length_filter_le _ _) (by simp)

/-- the id at a place of a chain -/
def atI (O : List Int) (i : Int) : Int := if i < 0 ∨ (O.length : Int) ≤ i then -1 else nthI O i.toNat
/-- what is wrong with place k of an order -/
def cErr (L : List LkC) (node : Int) (O : List Int) (k : Nat) : Int := if tch L node (nthI O k) = 0 then if nthI O k ∈ O.take k then 7 else 0 else tch L node (nthI O k)
def chk (L : List LkC) (node : Int) (O : List Int) : Int := fe (cErr L node O) (List.range O.length)
/-- .. from place k on -/
def chkD (L : List LkC) (node : Int) (O : List Int) (k : Nat) : Int := fe (cErr L node O) ((List.range O.length).drop k)
theorem chkD_step (L : List LkC) (node : Int) (O : List Int) {k : Nat} (h : k < O.length) : chkD L node O k = if cErr L node O k = 0 then chkD L node O (k + 1) else cErr L node O k := by
  unfold chkD
  rw [List.drop_eq_getElem_cons (by simpa using h), List.getElem_range]
  show fe _ ([k] ++ _) = _
  rw [fe_append]
  have : fe (cErr L node O) [k] = cErr L node O k := by
    show (if cErr L node O k = 0 then fe (cErr L node O) [] else cErr L node O k) = _
    split
    · rename_i h0
      rw [h0]
      rfl
    · rfl
  rw [this]
theorem chkD_end (L : List LkC) (node : Int) (O : List Int) : chkD L node O O.length = 0 := by
  unfold chkD
  rw [List.drop_of_length_le (by simp)]
  rfl
/-- what one that stands in a chain becomes -/
def layL (node p n : Int) (x : LkC) : LkC := if x.fr = node then (if x.to = node then { x with fp := p, fn := n, tp := -1, tn := -1 } else { x with fp := p, fn := n }) else { x with tp := p, tn := n }
/-- k places of an order laid -/
def thrK (L : List LkC) (node : Int) (O : List Int) : Nat → List LkC
  | 0 => L
  | k + 1 => (thrK L node O k).set (nthI O k).toNat (layL node (atI O ((k : Int) - 1)) (atI O ((k : Int) + 1)) (nthD (thrK L node O k) (nthI O k).toNat))
theorem thrK_len (L : List LkC) (node : Int) (O : List Int) (k : Nat) : (thrK L node O k).length = L.length := by
  induction k with
  | zero => rfl
  | succ k ih => unfold thrK; rw [List.length_set, ih]

/-- the last one, -1 of none -/
def lst (W : List Int) : Int := W.getLastD (-1)
def prv (node : Int) (x : LkC) : Int := if x.fr = node then x.fp else x.tp
def nxt (node : Int) (x : LkC) : Int := if x.fr = node then x.fn else x.tn
/-- a loop with something in its other side -/
def lop (x : LkC) : Bool := decide (x.fr = x.to) && (!decide (x.tp = -1) || !decide (x.tn = -1))
/-- 0, or what a walk ends with -/
def wErr (L : List LkC) (node : Int) (W : List Int) (id : Int) : Int := if tch L node id = 0 then if prv node (nthD L id.toNat) = lst W then if lop (nthD L id.toNat) = true then 101 else 0 else 101 else tch L node id
def wk (L : List LkC) (node : Int) : Nat → List Int → Int → List Int × Int
  | 0, W, _ => (W, 0)
  | n + 1, W, id => if id = -1 then (W, 0) else if wErr L node W id = 0 then wk L node n (W ++ [id]) (nxt node (nthD L id.toNat)) else ([], wErr L node W id)
/-- a walk so far -/
def Gd (L : List LkC) (node : Int) (W : List Int) : Prop := ∀ (j : Nat) (x : Int), W[j]? = some x → (∃ k : Nat, x = k ∧ k < L.length) ∧ prv node (nthD L x.toNat) = lst (W.take j)
theorem Gd.nil (L : List LkC) (node : Int) : Gd L node [] := fun j x h => by simp at h
theorem Gd.snoc {L : List LkC} {node : Int} {W : List Int} (h : Gd L node W) {id : Int} (he : wErr L node W id = 0) : Gd L node (W ++ [id]) := by
  intro j x hx
  unfold wErr at he
  split at he
  · rename_i h1
    split at he
    · rename_i h2
      obtain ⟨k, rfl, hk, _, _⟩ := tch_ok h1
      rcases Nat.lt_or_ge j W.length with hj | hj
      · rw [List.getElem?_append_left hj] at hx
        rw [List.take_append_of_le_length (by omega)]
        exact h j x hx
      · have hj2 : j = W.length := by
          have := (List.getElem?_eq_some_iff.1 hx).1
          simp at this
          omega
        subst hj2
        simp at hx
        subst hx
        refine ⟨⟨k, rfl, hk⟩, ?_⟩
        rw [List.take_append_of_le_length (by omega), List.take_length]
        exact h2
    · cases he
  · rename_i h1
    exact absurd he h1
theorem lst_take {W : List Int} {j : Nat} {x : Int} (h : W[j]? = some x) : lst (W.take (j + 1)) = x := by
  have hj := (List.getElem?_eq_some_iff.1 h).1
  have hx := (List.getElem?_eq_some_iff.1 h).2
  unfold lst
  rw [List.take_succ_eq_append_getElem hj, hx, List.getLastD_eq_getLast?]
  simp
/-- nothing is met twice -/
theorem Gd.unlike {L : List LkC} {node : Int} {W : List Int} (h : Gd L node W) : ∀ (i j : Nat) (x : Int), i < j → W[i]? = some x → W[j]? = some x → False := by
  intro i
  induction i with
  | zero =>
    intro j x hij hi hj
    obtain ⟨_, h1⟩ := h 0 x hi
    obtain ⟨_, h2⟩ := h j x hj
    obtain ⟨m, rfl⟩ : ∃ m, j = m + 1 := ⟨j - 1, by omega⟩
    have hm : m < W.length := by have := (List.getElem?_eq_some_iff.1 hj).1; omega
    have hy : W[m]? = some W[m] := List.getElem?_eq_getElem hm
    obtain ⟨⟨k, hk, _⟩, _⟩ := h m _ hy
    rw [lst_take hy, h1, hk] at h2
    have : lst (W.take 0) = -1 := rfl
    omega
  | succ i ih =>
    intro j x hij hi hj
    obtain ⟨_, h1⟩ := h (i + 1) x hi
    obtain ⟨_, h2⟩ := h j x hj
    obtain ⟨m, rfl⟩ : ∃ m, j = m + 1 := ⟨j - 1, by omega⟩
    have hm : m < W.length := by have := (List.getElem?_eq_some_iff.1 hj).1; omega
    have hi' : i < W.length := by have := (List.getElem?_eq_some_iff.1 hi).1; omega
    have hy : W[m]? = some W[m] := List.getElem?_eq_getElem hm
    have hz : W[i]? = some W[i] := List.getElem?_eq_getElem hi'
    rw [lst_take hy, h1, lst_take hz] at h2
    exact ih m W[i] (by omega) hz (by rw [h2]; exact hy)
/-- as many unlike numbers below n: at most n -/
theorem few : ∀ (n : Nat) (W : List Nat), (∀ x ∈ W, x < n) → W.Nodup → W.length ≤ n
  | 0, W, h, _ => by
    rcases W with _ | ⟨x, r⟩
    · simp
    · exact absurd (h x (by simp)) (by omega)
  | n + 1, W, h, hn => by
    have h1 := few n (W.filter fun x => decide (x ≠ n)) (fun x hx => by
      have := List.mem_filter.1 hx
      have h2 := h x this.1
      have h3 : x ≠ n := by simpa using this.2
      omega) (hn.sublist List.filter_sublist)
    have h2 : W.length ≤ (W.filter fun x => decide (x ≠ n)).length + 1 := by
      clear h1 h
      induction W with
      | nil => simp
      | cons y r ih =>
        have hr := ih (List.nodup_cons.1 hn).2
        by_cases hy : y = n
        · subst hy
          have hnot : y ∉ r := (List.nodup_cons.1 hn).1
          have : r.filter (fun x => decide (x ≠ y)) = r := List.filter_eq_self.2 fun x hx => by
            have : x ≠ y := fun e => hnot (e ▸ hx)
            simpa using this
          rw [List.filter_cons_of_neg (by simp), this]
          simp
        · rw [List.filter_cons_of_pos (by simpa using hy)]
          simp only [List.length_cons]
          omega
    omega
theorem Gd.nodup {L : List LkC} {node : Int} {W : List Int} (h : Gd L node W) : W.Nodup := by
  rw [List.Nodup, List.pairwise_iff_getElem]
  intro i j hi hj hij he
  exact h.unlike i j W[i] hij (List.getElem?_eq_getElem hi) (by rw [he]; exact List.getElem?_eq_getElem hj)
theorem Gd.mem {L : List LkC} {node : Int} {W : List Int} (h : Gd L node W) {x : Int} (hx : x ∈ W) : ∃ k : Nat, x = k ∧ k < L.length := by
  obtain ⟨j, hj, e⟩ := List.mem_iff_getElem.1 hx
  exact (h j x (by rw [← e]; exact List.getElem?_eq_getElem hj)).1
theorem Gd.len {L : List LkC} {node : Int} {W : List Int} (h : Gd L node W) : W.length ≤ L.length := by
  have h1 := few L.length (W.map Int.toNat) (fun x hx => by
    obtain ⟨y, hy, rfl⟩ := List.mem_map.1 hx
    obtain ⟨k, rfl, hk⟩ := h.mem hy
    simpa using hk) (by
    rw [List.Nodup, List.pairwise_map]
    refine List.Pairwise.imp_of_mem ?_ h.nodup
    intro a b ha hb hne e
    obtain ⟨k, rfl, _⟩ := h.mem ha
    obtain ⟨m, rfl, _⟩ := h.mem hb
    simp at e
    omega)
  simpa using h1
/-- a walk from a head -/
def walkP (L : List LkC) (node head : Int) : List Int × Int := wk L node (L.length + 1) [] head
theorem wk_step {L : List LkC} {node : Int} {W : List Int} {id : Int} (h : Gd L node W) (hid : id ≠ -1) (he : wErr L node W id = 0) :
    wk L node (L.length + 1 - W.length) W id = wk L node (L.length + 1 - (W ++ [id]).length) (W ++ [id]) (nxt node (nthD L id.toNat)) := by
  have h1 := (h.snoc he).len
  rw [List.length_append, List.length_singleton] at h1 ⊢
  obtain ⟨m, hm⟩ : ∃ m, L.length + 1 - W.length = m + 1 := ⟨L.length - W.length, by omega⟩
  rw [hm, show L.length + 1 - (W.length + 1) = m from by omega]
  conv => lhs; unfold wk
  rw [if_neg hid, if_pos he]
theorem wk_bad {L : List LkC} {node : Int} {W : List Int} {id : Int} (h : Gd L node W) (hid : id ≠ -1) (he : wErr L node W id ≠ 0) :
    wk L node (L.length + 1 - W.length) W id = ([], wErr L node W id) := by
  have h1 := h.len
  obtain ⟨m, hm⟩ : ∃ m, L.length + 1 - W.length = m + 1 := ⟨L.length - W.length, by omega⟩
  rw [hm]
  conv => lhs; unfold wk
  rw [if_neg hid, if_neg he]
theorem wk_end {L : List LkC} {node : Int} {W : List Int} (h : Gd L node W) : wk L node (L.length + 1 - W.length) W (-1) = (W, 0) := by
  have h1 := h.len
  obtain ⟨m, hm⟩ : ∃ m, L.length + 1 - W.length = m + 1 := ⟨L.length - W.length, by omega⟩
  rw [hm]
  conv => lhs; unfold wk
  rw [if_pos rfl]
end Go.Proofs.Ytpdaiiakdlngjaa
