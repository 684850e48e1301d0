/- Graphs in memory, read: properties, nodes, relationships. -/
import Derived.Test.YthnaipgdjbaebaaGreatValCheck3
import Derived.Test.YthnaipgdjbaebaaGreatApList
import Derived.Deep.QuietTactic
import Derived.BigQuiet
namespace Go.Proofs.YthnaipgdjbaebaaGreat
open Go.RowKit
set_option linter.unusedVariables false

structure Pv where
  key : ByteArray
  val : Vv
structure Nv where
  id : Int
  labels : List ByteArray
  props : List Pv
structure Rv where
  id : Int
  typ : ByteArray
  src : Int
  dst : Int
  props : List Pv
structure Gv where
  nodes : List Nv
  rels : List Rv

abbrev i64ok (n : Int) : Prop := -9223372036854775808 ≤ n ∧ n ≤ 9223372036854775807

/-- A list of structs at A: element k stands as 'at_' says, size cells apart. -/
def Rows {α : Type} (size : Nat) (at_ : World → Nat → Nat → Nat → α → Prop) (w : World) (B : Nat) (A : Option Addr) (L : List α) : Prop :=
  ∀ k x, L[k]? = some x → ∃ b off, A = some ⟨b, off, none⟩ ∧ b < B ∧ at_ w B b (off + k * size) x
theorem Rows.nil {α : Type} (size : Nat) (at_ : World → Nat → Nat → Nat → α → Prop) (w : World) (B : Nat) (A : Option Addr) : Rows size at_ w B A [] := fun k x h => by simp at h
theorem Rows.keep {α : Type} {size : Nat} {at_ : World → Nat → Nat → Nat → α → Prop} {w w' : World} {B B' : Nat} {A : Option Addr} {L : List α} (h : Rows size at_ w B A L) (hB : B ≤ B')
    (k : ∀ b off x, b < B → at_ w B b off x → at_ w' B' b off x) : Rows size at_ w' B' A L := fun i x hx => by
  obtain ⟨b, off, e, hb, ha⟩ := h i x hx
  exact ⟨b, off, e, by omega, k b _ x hb ha⟩
/-- a property's cells -/
def pcells (p : Pv) (A : Option Addr) (c : Nat) (A' : Option Addr) (c' : Nat) : Array Value := #[.string p.key, .int .i64 p.val.k, .int .i64 p.val.n, .string p.val.s, .slice A p.val.ns.length c, .slice A' p.val.ts.length c']
/-- cells stand from off on -/
def CellsAt (w : World) (b off : Nat) (cs : Array Value) : Prop := ∀ i u, cs[i]? = some u → w.cell? ⟨b, off + i, none⟩ = some u
theorem CellsAt.below {w w' : World} {B b off : Nat} {cs : Array Value} (h : CellsAt w b off cs) (hb : Below B w w') (hB : b < B) : CellsAt w' b off cs := fun i u hu => (hb.cell (p := ⟨b, off + i, none⟩) hB).trans (h i u hu)
def PropAt (w : World) (B b off : Nat) (p : Pv) : Prop := ∃ A c A' c', CellsAt w b off (pcells p A c A' c') ∧ RL ivl w B A p.val.ns ∧ RL svl w B A' p.val.ts ∧ Vok p.val ∧ p.key.size ≤ 140737488351232
theorem PropAt.below {w w' : World} {B b off : Nat} {p : Pv} (h : PropAt w B b off p) (hb : Below B w w') (hB : b < B) : PropAt w' B b off p := by
  obtain ⟨A, c, A', c', h1, h2, h3, h4⟩ := h
  exact ⟨A, c, A', c', h1.below hb hB, h2.below hb, h3.below hb, h4⟩
theorem PropAt.more {w : World} {B B' b off : Nat} {p : Pv} (h : PropAt w B b off p) (hB : B ≤ B') : PropAt w B' b off p := by
  obtain ⟨A, c, A', c', h1, h2, h3, h4⟩ := h
  exact ⟨A, c, A', c', h1, h2.more hB, h3.more hB, h4⟩
abbrev PropsR := Rows 6 PropAt
theorem PropsR.below {w w' : World} {B : Nat} {A : Option Addr} {L : List Pv} (h : PropsR w B A L) (hb : Below B w w') : PropsR w' B A L := h.keep (Nat.le_refl _) fun b off x hlt h => h.below hb hlt
theorem PropsR.more {w : World} {B B' : Nat} {A : Option Addr} {L : List Pv} (h : PropsR w B A L) (hB : B ≤ B') : PropsR w B' A L := h.keep hB fun b off x hlt h => h.more hB
/-- a node's cells -/
def ncells (n : Nv) (A : Option Addr) (c : Nat) (A' : Option Addr) (c' : Nat) : Array Value := #[.int .i64 n.id, .slice A n.labels.length c, .slice A' n.props.length c']
def NodeAt (w : World) (B b off : Nat) (n : Nv) : Prop := ∃ A c A' c', CellsAt w b off (ncells n A c A' c') ∧ RL svl w B A n.labels ∧ PropsR w B A' n.props ∧ i64ok n.id ∧ n.labels.length ≤ 140737488351232 ∧ n.props.length ≤ 140737488351232 ∧ ∀ s ∈ n.labels, s.size ≤ 140737488351232
theorem NodeAt.below {w w' : World} {B b off : Nat} {p : Nv} (h : NodeAt w B b off p) (hb : Below B w w') (hB : b < B) : NodeAt w' B b off p := by
  obtain ⟨A, c, A', c', h1, h2, h3, h4⟩ := h
  exact ⟨A, c, A', c', h1.below hb hB, h2.below hb, h3.below hb, h4⟩
theorem NodeAt.more {w : World} {B B' b off : Nat} {p : Nv} (h : NodeAt w B b off p) (hB : B ≤ B') : NodeAt w B' b off p := by
  obtain ⟨A, c, A', c', h1, h2, h3, h4⟩ := h
  exact ⟨A, c, A', c', h1, h2.more hB, h3.more hB, h4⟩
/-- a relationship's cells -/
def rcells (r : Rv) (A : Option Addr) (c : Nat) : Array Value := #[.int .i64 r.id, .string r.typ, .int .i64 r.src, .int .i64 r.dst, .slice A r.props.length c]
def RelAt (w : World) (B b off : Nat) (r : Rv) : Prop := ∃ A c, CellsAt w b off (rcells r A c) ∧ PropsR w B A r.props ∧ i64ok r.id ∧ i64ok r.src ∧ i64ok r.dst ∧ r.typ.size ≤ 140737488351232 ∧ r.props.length ≤ 140737488351232
theorem RelAt.below {w w' : World} {B b off : Nat} {p : Rv} (h : RelAt w B b off p) (hb : Below B w w') (hB : b < B) : RelAt w' B b off p := by
  obtain ⟨A, c, h1, h2, h4⟩ := h
  exact ⟨A, c, h1.below hb hB, h2.below hb, h4⟩
theorem RelAt.more {w : World} {B B' b off : Nat} {p : Rv} (h : RelAt w B b off p) (hB : B ≤ B') : RelAt w B' b off p := by
  obtain ⟨A, c, h1, h2, h4⟩ := h
  exact ⟨A, c, h1, h2.more hB, h4⟩
abbrev NodesR := Rows 3 NodeAt
abbrev RelsR := Rows 5 RelAt
theorem NodesR.below {w w' : World} {B : Nat} {A : Option Addr} {L : List Nv} (h : NodesR w B A L) (hb : Below B w w') : NodesR w' B A L := h.keep (Nat.le_refl _) fun b off x hlt h => h.below hb hlt
theorem NodesR.more {w : World} {B B' : Nat} {A : Option Addr} {L : List Nv} (h : NodesR w B A L) (hB : B ≤ B') : NodesR w B' A L := h.keep hB fun b off x hlt h => h.more hB
theorem RelsR.below {w w' : World} {B : Nat} {A : Option Addr} {L : List Rv} (h : RelsR w B A L) (hb : Below B w w') : RelsR w' B A L := h.keep (Nat.le_refl _) fun b off x hlt h => h.below hb hlt
theorem RelsR.more {w : World} {B B' : Nat} {A : Option Addr} {L : List Rv} (h : RelsR w B A L) (hB : B ≤ B') : RelsR w B' A L := h.keep hB fun b off x hlt h => h.more hB
/-- a graph, by value -/
def gagg (g : Gv) (A : Option Addr) (c : Nat) (A' : Option Addr) (c' : Nat) : Value := .agg #[.slice A g.nodes.length c, .slice A' g.rels.length c']
def GR (w : World) (B : Nat) (g : Gv) (A A' : Option Addr) : Prop := NodesR w B A g.nodes ∧ RelsR w B A' g.rels ∧ g.nodes.length ≤ 140737488351232 ∧ g.rels.length ≤ 140737488351232
theorem GR.below {w w' : World} {B : Nat} {g : Gv} {A A' : Option Addr} (h : GR w B g A A') (hb : Below B w w') : GR w' B g A A' := ⟨h.1.below hb, h.2.1.below hb, h.2.2⟩
theorem GR.more {w : World} {B B' : Nat} {g : Gv} {A A' : Option Addr} (h : GR w B g A A') (hB : B ≤ B') : GR w B' g A A' := ⟨h.1.more hB, h.2.1.more hB, h.2.2⟩

theorem rel_cells {w : World} {b off : Nat} {r : Rv} {A : Option Addr} {c : Nat} (h : CellsAt w b off (rcells r A c)) :
    w.cell? ⟨b, off, none⟩ = some (.int .i64 r.id) ∧ w.cell? ⟨b, off + 1, none⟩ = some (.string r.typ) ∧ w.cell? ⟨b, off + 2, none⟩ = some (.int .i64 r.src) ∧ w.cell? ⟨b, off + 3, none⟩ = some (.int .i64 r.dst) ∧ w.cell? ⟨b, off + 4, none⟩ = some (.slice A r.props.length c) :=
  ⟨h 0 _ rfl, h 1 _ rfl, h 2 _ rfl, h 3 _ rfl, h 4 _ rfl⟩
theorem node_cells {w : World} {b off : Nat} {n : Nv} {A : Option Addr} {c : Nat} {A' : Option Addr} {c' : Nat} (h : CellsAt w b off (ncells n A c A' c')) :
    w.cell? ⟨b, off, none⟩ = some (.int .i64 n.id) ∧ w.cell? ⟨b, off + 1, none⟩ = some (.slice A n.labels.length c) ∧ w.cell? ⟨b, off + 2, none⟩ = some (.slice A' n.props.length c') :=
  ⟨h 0 _ rfl, h 1 _ rfl, h 2 _ rfl⟩
theorem prop_cells {w : World} {b off : Nat} {p : Pv} {A : Option Addr} {c : Nat} {A' : Option Addr} {c' : Nat} (h : CellsAt w b off (pcells p A c A' c')) :
    w.cell? ⟨b, off, none⟩ = some (.string p.key) ∧ w.cell? ⟨b, off + 1, none⟩ = some (.int .i64 p.val.k) ∧ w.cell? ⟨b, off + 2, none⟩ = some (.int .i64 p.val.n) ∧ w.cell? ⟨b, off + 3, none⟩ = some (.string p.val.s) ∧
      w.cell? ⟨b, off + 4, none⟩ = some (.slice A p.val.ns.length c) ∧ w.cell? ⟨b, off + 5, none⟩ = some (.slice A' p.val.ts.length c') :=
  ⟨h 0 _ rfl, h 1 _ rfl, h 2 _ rfl, h 3 _ rfl, h 4 _ rfl, h 5 _ rfl⟩
/-- relationship k -/
def nthR (L : List Rv) (k : Nat) : Rv := L.getD k ⟨0, .empty, 0, 0, []⟩
theorem nthR_get {L : List Rv} {k : Nat} (h : k < L.length) : L[k]? = some (nthR L k) := by
  unfold nthR; rw [List.getD_eq_getElem?_getD, List.getElem?_eq_getElem h]; rfl
theorem takeR {L : List Rv} {k : Nat} (h : k < L.length) : L.take (k + 1) = L.take k ++ [nthR L k] := by
  have := nthR_get h
  rw [List.getElem?_eq_getElem h] at this
  injection this with this
  rw [List.take_succ_eq_append_getElem h, this]
/-- the ids of a node's relationships -/
def touch (n : Int) (r : Rv) : Bool := decide (r.src = n) || decide (r.dst = n)
def touchIds (L : List Rv) (n : Int) : List Int := (L.filter (touch n)).map (·.id)
theorem touchIds_snoc (L : List Rv) (r : Rv) (n : Int) : touchIds (L ++ [r]) n = if touch n r = true then touchIds L n ++ [r.id] else touchIds L n := by
  unfold touchIds
  rw [List.filter_append]
  by_cases h : touch n r = true
  · rw [if_pos h]; simp [List.filter, h]
  · have h' : touch n r = false := by simpa using h
    rw [if_neg h]; simp [List.filter, h']
theorem touchIds_len (L : List Rv) (n : Int) : (touchIds L n).length ≤ L.length := by
  unfold touchIds; rw [List.length_map]; exact List.length_filter_le _ _

theorem gint_info : (Tryz.prog.info? 3).map (fun i => (i.zero, i.size, i.bytes)) = some (some (.int .i64 0), 1, 8) := by kernel_rfl
/-- a new list of numbers -/
def NewI (L : List Int) (w : World) (e : Ending) (w' : World) : Prop := ∃ v, e = .returned v ∧ OL ivl w' w.heap.size 3 v L ∧ Below w.heap.size w w'

set_option maxRecDepth 100000 in
set_option maxHeartbeats 1000000 in
theorem touching_any (A : Option Addr) (cap B : Nat) (L : List Rv) (n : Int) (w : World) (h : RelsR w B A L) (hB : B ≤ w.heap.size) (hl : L.length ≤ 140737488351232) (hb : L.length * 8 ≤ 140737488355328) (hn : i64ok n) :
    Calls Tryz.prog 52 #[.slice A L.length cap, .int .i64 n] w (NewI (touchIds L n) w) := by
  obtain ⟨j0, hj, hy0, hy1, hy2⟩ := info_parts gint_info
  obtain ⟨hn1, hn2⟩ := hn
  go_enter Tryz.func52, Tryz.ntmps52
  go_wp2
  go_loopw [5, 10] (fun v i wr => ∃ k : Nat, k ≤ L.length ∧ i = .int .i64 k ∧ OL ivl wr w.heap.size 3 v (touchIds (L.take k) n) ∧ Below w.heap.size w wr) (fun _ i _ => L.length - (intOf i).toNat)
  case atStart => exact ⟨0, Nat.zero_le _, rfl, OL.nil _ _ _ _, Below.refl _ _⟩
  case round =>
    obtain ⟨k, hk, rfl, ho, hbw⟩ := hrel
    by_cases hlt : k < L.length
    · have hs := touchIds_snoc (L.take k) (nthR L k) n
      rw [← takeR hlt] at hs
      have hlen : (touchIds (L.take k) n).length ≤ k := by have := touchIds_len (L.take k) n; rw [List.length_take] at this; omega
      obtain ⟨b, off, rfl, hbB, A', c', hc, -, ⟨r1, r2⟩, ⟨r3, r4⟩, ⟨r5, r6⟩, -⟩ := (RelsR.below h (hbw.mono hB)) k _ (nthR_get hlt)
      generalize nthR L k = r at *
      obtain ⟨rid, rty, rsrc, rdst, rps⟩ := r
      obtain ⟨q0, q1, q2, q3, q4⟩ := rel_cells hc
      simp only at q0 q1 q2 q3 q4 r1 r2 r3 r4 r5 r6
      have hb8 : ((touchIds (L.take k) n).length + 1) * 8 ≤ 140737488355328 := by omega
      by_cases ht : touch n ⟨rid, rty, rsrc, rdst, rps⟩ = true
      · rw [if_pos ht] at hs
        have Hs := Lib.hid hs
        unfold touch at ht
        simp only [Bool.or_eq_true, decide_eq_true_eq] at ht
        clear hs hc
        have hbo := hbw.alloc hbw.size (.cells #[.int .i64 rid, .string rty, .int .i64 rsrc, .int .i64 rdst, .slice A' rps.length c'] 47)
        have hoo := ho.alloc (.cells #[.int .i64 rid, .string rty, .int .i64 rsrc, .int .i64 rdst, .slice A' rps.length c'] 47)
        by_cases h2 : rsrc = n
        · have e2 : (rsrc == n) = true := by simpa using h2
          clear ht h2
          go_wp2_with (at_builtin; refine wpList_append_elemN _ rfl _ _ 36 rfl w.heap.size 3 j0 (.int .i64 0) 8 Tryz.underlying36 hj hy0 hy1 hy2 rfl _ (touchIds (L.take k) n) (by rfl) hoo rid (ivl_ok rid) (wr.heap.size + 1) (by simp) (by rfl) hb8 (by omega) hbo.size ?_; intro v7 w7 hown7 hg7 hat7)
          go_roundw
          case rel => exact ⟨k + 1, by omega, by go_num, by rw [Hs.out]; exact hown7, below_own hbo hoo.2 (Nat.le_refl _) hg7 hbo.size⟩
          case measure => simp [intOf]; omega
        · have h3 : rdst = n := ht.resolve_left h2
          have e2 : (rsrc == n) = false := by simpa using h2
          have e3 : (rdst == n) = true := by simpa using h3
          clear ht h2 h3
          go_wp2_with (at_builtin; refine wpList_append_elemN _ rfl _ _ 36 rfl w.heap.size 3 j0 (.int .i64 0) 8 Tryz.underlying36 hj hy0 hy1 hy2 rfl _ (touchIds (L.take k) n) (by rfl) hoo rid (ivl_ok rid) (wr.heap.size + 1) (by simp) (by rfl) hb8 (by omega) hbo.size ?_; intro v7 w7 hown7 hg7 hat7)
          go_roundw
          case rel => exact ⟨k + 1, by omega, by go_num, by rw [Hs.out]; exact hown7, below_own hbo hoo.2 (Nat.le_refl _) hg7 hbo.size⟩
          case measure => simp [intOf]; omega
      · rw [if_neg ht] at hs
        have Hs := Lib.hid hs
        unfold touch at ht
        simp only [Bool.or_eq_true, decide_eq_true_eq, not_or] at ht
        have e2 : (rsrc == n) = false := by simpa using ht.1
        have e3 : (rdst == n) = false := by simpa using ht.2
        have hbo := hbw.alloc hbw.size (.cells #[.int .i64 rid, .string rty, .int .i64 rsrc, .int .i64 rdst, .slice A' rps.length c'] 47)
        have hoo := ho.alloc (.cells #[.int .i64 rid, .string rty, .int .i64 rsrc, .int .i64 rdst, .slice A' rps.length c'] 47)
        clear hs hc ht
        go_wp2
        go_roundw
        case rel => exact ⟨k + 1, by omega, by go_num, by rw [Hs.out]; exact hoo, hbo⟩
        case measure => simp [intOf]; omega
    · rw [List.take_of_length_le (by omega)] at ho
      go_wp2
      go_ret
      exact ⟨_, rfl, ho, hbw⟩

end Go.Proofs.YthnaipgdjbaebaaGreat
