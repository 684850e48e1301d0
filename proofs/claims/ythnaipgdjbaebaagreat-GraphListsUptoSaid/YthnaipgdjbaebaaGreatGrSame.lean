/- When two graphs are one, list by list: in plain words. -/
import Derived.Test.YthnaipgdjbaebaaGreatGrBase
import Derived.Test.YthnaipgdjbaebaaGreatValPure
import Derived.Test.YthnaipgdjbaebaaGreatValSame2
import Derived.Deep.QuietTactic
import Derived.BigQuiet
namespace Go.Proofs.YthnaipgdjbaebaaGreat
open Go.RowKit
set_option linter.unusedVariables false

/-- two lists agree, element by element -/
def eqF {α : Type} (f : α → α → Bool) : List α → List α → Bool
  | [], [] => true
  | a :: l, b :: m => f a b && eqF f l m
  | _, _ => false
theorem eqF_yes {α : Type} {f : α → α → Bool} : ∀ {L M : List α}, L.length = M.length → (∀ (k : Nat) a b, L[k]? = some a → M[k]? = some b → f a b = true) → eqF f L M = true
  | [], [], _, _ => rfl
  | [], b :: m, h, _ => by simp at h
  | a :: l, [], h, _ => by simp at h
  | a :: l, b :: m, h, k => by
    simp only [eqF, Bool.and_eq_true]
    exact ⟨k 0 a b rfl rfl, eqF_yes (by simpa using h) fun i x y hx hy => k (i + 1) x y (by simpa using hx) (by simpa using hy)⟩
theorem eqF_at {α : Type} {f : α → α → Bool} : ∀ {L M : List α}, eqF f L M = true → L.length = M.length ∧ ∀ (k : Nat) a b, L[k]? = some a → M[k]? = some b → f a b = true
  | [], [], _ => ⟨rfl, fun k a b h => by simp at h⟩
  | [], b :: m, h => by simp [eqF] at h
  | a :: l, [], h => by simp [eqF] at h
  | a :: l, b :: m, h => by
    simp only [eqF, Bool.and_eq_true] at h
    obtain ⟨h1, h2⟩ := eqF_at h.2
    refine ⟨by simp [h1], fun k x y hx hy => ?_⟩
    rcases k with _ | k
    · simp only [List.getElem?_cons_zero, Option.some.injEq] at hx hy
      rw [← hx, ← hy]; exact h.1
    · exact h2 k x y (by simpa using hx) (by simpa using hy)
theorem eqF_no {α : Type} {f : α → α → Bool} {L M : List α} {k : Nat} {a b : α} (h1 : L[k]? = some a) (h2 : M[k]? = some b) (h : f a b = false) : eqF f L M = false := by
  rw [Bool.eq_false_iff]
  intro e
  have := (eqF_at e).2 k a b h1 h2
  rw [h] at this; cases this
theorem eqF_len {α : Type} {f : α → α → Bool} {L M : List α} (h : L.length ≠ M.length) : eqF f L M = false := by
  rw [Bool.eq_false_iff]
  exact fun e => h (eqF_at e).1
theorem eqF_self {α : Type} {f : α → α → Bool} {L : List α} (h : ∀ a ∈ L, f a a = true) : eqF f L L = true :=
  eqF_yes rfl fun k a b ha hb => by
    rw [ha] at hb; injection hb with hb; subst hb
    exact h a (List.mem_of_getElem? ha)
theorem eqF_eq {α : Type} {f : α → α → Bool} (hf : ∀ a b, f a b = true → a = b) : ∀ {L M : List α}, eqF f L M = true → L = M
  | [], [], _ => rfl
  | [], b :: m, h => by simp [eqF] at h
  | a :: l, [], h => by simp [eqF] at h
  | a :: l, b :: m, h => by
    simp only [eqF, Bool.and_eq_true] at h
    rw [hf a b h.1, eqF_eq hf h.2]

def sameP (p q : Pv) : Bool := decide (p.key = q.key) && sameV p.val q.val
def sameN (a b : Nv) : Bool := decide (a.id = b.id) && (decide (a.labels = b.labels) && eqF sameP a.props b.props)
def sameR (a b : Rv) : Bool := decide (a.id = b.id) && (decide (a.typ = b.typ) && (decide (a.src = b.src) && (decide (a.dst = b.dst) && eqF sameP a.props b.props)))
def sameG (g h : Gv) : Bool := eqF sameN g.nodes h.nodes && eqF sameR g.rels h.rels
theorem sameP_self (p : Pv) : sameP p p = true := by simp [sameP, sameV_self]
theorem sameN_self (p : Nv) : sameN p p = true := by simp [sameN, eqF_self fun a _ => sameP_self a]
theorem sameR_self (p : Rv) : sameR p p = true := by simp [sameR, eqF_self fun a _ => sameP_self a]
theorem sameG_self (p : Gv) : sameG p p = true := by simp [sameG, eqF_self fun a _ => sameN_self a, eqF_self fun a _ => sameR_self a]
theorem sameP_eq (p q : Pv) (h : sameP p q = true) : p = q := by
  simp only [sameP, Bool.and_eq_true, decide_eq_true_eq] at h
  have := sameV_yes h.2
  cases p; cases q; simp_all
theorem sameN_eq (p q : Nv) (h : sameN p q = true) : p = q := by
  simp only [sameN, Bool.and_eq_true, decide_eq_true_eq] at h
  have := eqF_eq sameP_eq h.2.2
  cases p; cases q; simp_all
theorem sameR_eq (p q : Rv) (h : sameR p q = true) : p = q := by
  simp only [sameR, Bool.and_eq_true, decide_eq_true_eq] at h
  have := eqF_eq sameP_eq h.2.2.2.2
  cases p; cases q; simp_all
theorem sameG_eq (p q : Gv) (h : sameG p q = true) : p = q := by
  simp only [sameG, Bool.and_eq_true] at h
  have h1 := eqF_eq sameN_eq h.1
  have h2 := eqF_eq sameR_eq h.2
  cases p; cases q; simp_all

end Go.Proofs.YthnaipgdjbaebaaGreat

/- The program's sameProp, and of lists of properties. -/
namespace Go.Proofs.YthnaipgdjbaebaaGreat
open Go.RowKit
set_option linter.unusedVariables false

/-- a property, by value -/
def pagg (p : Pv) (A : Option Addr) (c : Nat) (A' : Option Addr) (c' : Nat) : Value := .agg (pcells p A c A' c')
def nagg (n : Nv) (A : Option Addr) (c : Nat) (A' : Option Addr) (c' : Nat) : Value := .agg (ncells n A c A' c')
def ragg (r : Rv) (A : Option Addr) (c : Nat) : Value := .agg (rcells r A c)

set_option maxRecDepth 100000 in
set_option maxHeartbeats 1000000 in
theorem sameProp_any (p q : Pv) (A : Option Addr) (c : Nat) (A' : Option Addr) (c' : Nat) (D : Option Addr) (d : Nat) (D' : Option Addr) (d' : Nat) (B : Nat) (w : World)
    (h1 : RL ivl w B A p.val.ns) (h2 : RL svl w B A' p.val.ts) (h3 : Vok p.val) (g1 : RL ivl w B D q.val.ns) (g2 : RL svl w B D' q.val.ts) (g3 : Vok q.val) (hB : B ≤ w.heap.size) (hp : p.key.size ≤ 140737488351232) (hq : q.key.size ≤ 140737488351232) :
    Calls Tryz.prog 77 #[pagg p A c A' c', pagg q D d D' d'] w (Says (sameP p q) w) := by
  obtain ⟨key, ⟨vk, vn, vs, ns, ts⟩⟩ := p
  obtain ⟨key', ⟨vk', vn', vs', ns', ts'⟩⟩ := q
  simp only at h1 h2 h3 g1 g2 g3 hp hq
  simp only [pagg, pcells]
  obtain ⟨wo, hwo⟩ : ∃ z, z = (w.alloc (.cells #[.string key, .int .i64 vk, .int .i64 vn, .string vs, .slice A ns.length c, .slice A' ts.length c'] 45)).alloc (.cells #[.string key', .int .i64 vk', .int .i64 vn', .string vs', .slice D ns'.length d, .slice D' ts'.length d'] 45) := ⟨_, rfl⟩
  have hbo : Below w.heap.size w wo := by rw [hwo]; exact ((Below.refl _ _).alloc (Nat.le_refl _) _).alloc (by simp) _
  have hb1 : Below B w wo := hbo.mono hB
  have HV := Same_any ⟨vk, vn, vs, ns, ts⟩ ⟨vk', vn', vs', ns', ts'⟩ _ _ B wo ⟨A, c, A', c', rfl, h1.below hb1, h2.below hb1, h3⟩ ⟨D, d, D', d', rfl, g1.below hb1, g2.below hb1, g3⟩ (by have := hbo.size; omega)
  simp only [vagg] at HV
  obtain ⟨E, hE⟩ : ∃ E, E = sameV ⟨vk, vn, vs, ns, ts⟩ ⟨vk', vn', vs', ns', ts'⟩ := ⟨_, rfl⟩
  rw [← hE] at HV
  have HE := Lib.hid hE
  have HV := Lib.hid HV
  have Hwo := Lib.hid hwo
  clear h1 h2 h3 g1 g2 g3 hwo hb1 hE
  by_cases hk : key = key'
  · have f1 : (key.toList == key'.toList) = true := by rw [hk]; exact beq_self_eq_true _
    have Hr : Hid (sameP ⟨key, ⟨vk, vn, vs, ns, ts⟩⟩ ⟨key', ⟨vk', vn', vs', ns', ts'⟩⟩ = E) := Lib.hid (by simp only [sameP, hk, decide_true, Bool.true_and]; exact HE.out.symm)
    clear hk
    go_enter Tryz.func77, Tryz.ntmps77
    go_wp2_with fail
    rw [← Hwo.out]
    refine HV.out.mono ?_
    rintro e w8 ⟨rfl, hb8⟩
    have hb9 := hbo.trans (hb8.mono hbo.size)
    clear hb8
    go_wp2
    go_ret
    exact ⟨ret_bool Hr.out.symm, hb9⟩
  · have f1 : (key.toList == key'.toList) = false := by rw [beq_eq_false_iff_ne]; exact fun e => hk (str_inj e)
    have Hr : Hid (sameP ⟨key, ⟨vk, vn, vs, ns, ts⟩⟩ ⟨key', ⟨vk', vn', vs', ns', ts'⟩⟩ = false) := Lib.hid (by simp [sameP, hk])
    clear hk
    go_enter Tryz.func77, Tryz.ntmps77
    go_wp2
    go_ret
    rw [← Hwo.out]
    exact ⟨ret_bool Hr.out.symm, hbo⟩

set_option maxRecDepth 100000 in
set_option maxHeartbeats 2000000 in
theorem eqProps_any (A A' : Option Addr) (cap cap' B : Nat) (L M : List Pv) (w : World) (h : PropsR w B A L) (h' : PropsR w B A' M) (hB : B ≤ w.heap.size) (hl : L.length ≤ 140737488351232) (hl' : M.length ≤ 140737488351232) :
    Calls Tryz.prog 76 #[.slice A L.length cap, .slice A' M.length cap', .func (.func 77) #[] #[]] w (Says (eqF sameP L M) w) := by
  have H := Lib.hid h
  have H' := Lib.hid h'
  clear h h'
  by_cases h0 : L.length = M.length
  · have hb : ((L.length : Int) != (M.length : Int)) = false := by simp [h0]
    have H0 := Lib.hid h0
    have h1 : L.length ≤ M.length := by omega
    have h2 : M.length ≤ L.length := by omega
    clear h0
    go_enter Tryz.func76, Tryz.ntmps76
    go_wp2
    go_loopw [17] (fun i wr => ∃ k : Nat, k ≤ L.length ∧ i = .int .i64 k ∧ (∀ j a b, j < k → L[j]? = some a → M[j]? = some b → sameP a b = true) ∧ Below w.heap.size w wr) (fun i _ => L.length - (intOf i).toNat)
    case atStart => exact ⟨0, Nat.zero_le _, rfl, fun j a b hj => by omega, Below.refl _ _⟩
    case round =>
      obtain ⟨k, hk, rfl, heq, hbw⟩ := hrel
      by_cases hlt : k < L.length
      · have hlt' : k < M.length := by omega
        obtain ⟨x, hx⟩ : ∃ x, L[k]? = some x := ⟨_, List.getElem?_eq_getElem hlt⟩
        obtain ⟨y, hy⟩ : ∃ y, M[k]? = some y := ⟨_, List.getElem?_eq_getElem hlt'⟩
        have hsz := hbw.size
        obtain ⟨b, off, rfl, hbB, A1, c1, A2, c2, hc, hr1, hr2, hok, hks⟩ := (PropsR.below H.out (hbw.mono hB)) k _ hx
        obtain ⟨b', off', rfl, hbB', A3, c3, A4, c4, hc', hr3, hr4, hok', hks'⟩ := (PropsR.below H'.out (hbw.mono hB)) k _ hy
        obtain ⟨q0, q1, q2, q3, q4, q5⟩ := prop_cells hc
        obtain ⟨s0, s1, s2, s3, s4, s5⟩ := prop_cells hc'
        obtain ⟨key, ⟨vk, vn, vs, ns, ts⟩⟩ := x
        obtain ⟨key', ⟨vk', vn', vs', ns', ts'⟩⟩ := y
        simp only at q0 q1 q2 q3 q4 q5 s0 s1 s2 s3 s4 s5 hr1 hr2 hr3 hr4 hks hks'
        obtain ⟨wo, hwo⟩ : ∃ z, z = (wr.alloc (.cells #[.string key, .int .i64 vk, .int .i64 vn, .string vs, .slice A1 ns.length c1, .slice A2 ts.length c2] 45)).alloc (.cells #[.string key', .int .i64 vk', .int .i64 vn', .string vs', .slice A3 ns'.length c3, .slice A4 ts'.length c4] 45) := ⟨_, rfl⟩
        have hbo : Below w.heap.size w wo := by rw [hwo]; exact (hbw.alloc hsz _).alloc (by simp; omega) _
        have hbr : Below B wr wo := by rw [hwo]; exact ((Below.refl _ _).alloc (by omega) _).alloc (by simp; omega) _
        have hb1 : Below B wr (wr.alloc (.cells #[.string key, .int .i64 vk, .int .i64 vn, .string vs, .slice A1 ns.length c1, .slice A2 ts.length c2] 45)) := (Below.refl _ _).alloc (by omega) _
        have z0 := (hb1.cell (p := ⟨b', off' + k * 6, none⟩) hbB').trans s0
        have z1 := (hb1.cell (p := ⟨b', off' + k * 6 + 1, none⟩) hbB').trans s1
        have z2 := (hb1.cell (p := ⟨b', off' + k * 6 + 2, none⟩) hbB').trans s2
        have z3 := (hb1.cell (p := ⟨b', off' + k * 6 + 3, none⟩) hbB').trans s3
        have z4 := (hb1.cell (p := ⟨b', off' + k * 6 + 4, none⟩) hbB').trans s4
        have z5 := (hb1.cell (p := ⟨b', off' + k * 6 + 5, none⟩) hbB').trans s5
        have HS := sameProp_any ⟨key, ⟨vk, vn, vs, ns, ts⟩⟩ ⟨key', ⟨vk', vn', vs', ns', ts'⟩⟩ A1 c1 A2 c2 A3 c3 A4 c4 B wo (hr1.below hbr) (hr2.below hbr) hok (hr3.below hbr) (hr4.below hbr) hok' (by have := hbo.size; omega) hks hks'
        simp only [pagg, pcells] at HS
        have Hwo := Lib.hid hwo
        have Hx := Lib.hid hx
        have Hy := Lib.hid hy
        have Heq := Lib.hid heq
        have hi1 : (k : Int) < (M.length : Int) := by omega
        have hi0 : (0 : Int) ≤ (k : Int) := by omega
        clear hwo hbr hx hy heq hb1 hc hc' hr1 hr2 hr3 hr4 hok hok'
        obtain ⟨E, hE⟩ : ∃ E, E = sameP ⟨key, ⟨vk, vn, vs, ns, ts⟩⟩ ⟨key', ⟨vk', vn', vs', ns', ts'⟩⟩ := ⟨_, rfl⟩
        rw [← hE] at HS
        have HE := Lib.hid hE
        have HS := Lib.hid HS
        clear hE
        go_wp2_with fail
        rw [← Hwo.out]
        refine HS.out.mono ?_
        rintro e w8 ⟨rfl, hb8⟩
        have hb9 := hbo.trans (hb8.mono hbo.size)
        clear hb8 hbo
        cases E
        · have Hn : Hid (eqF sameP L M = false) := Lib.hid (eqF_no Hx.out Hy.out HE.out.symm)
          go_wp2
          go_ret
          exact ⟨ret_bool Hn.out.symm, hb9⟩
        · go_wp2
          go_roundw
          case rel =>
            refine ⟨k + 1, by omega, by go_num, fun j a b hj ha hb => ?_, hb9⟩
            rcases Nat.lt_or_ge j k with hj' | hj'
            · exact Heq.out j a b hj' ha hb
            · obtain rfl : j = k := by omega
              have e1 := Hx.out
              have e2 := Hy.out
              rw [ha] at e1
              rw [hb] at e2
              injection e1 with e1
              injection e2 with e2
              rw [e1, e2, ← HE.out]
          case measure => simp [intOf]; omega
      · have Hn : Hid (eqF sameP L M = true) := Lib.hid (eqF_yes H0.out fun j a b ha hb => heq j a b (by have := (List.getElem?_eq_some_iff.1 ha).1; omega) ha hb)
        clear heq
        go_wp2
        go_ret
        exact ⟨ret_bool Hn.out.symm, hbw⟩
  · have hb : ((L.length : Int) != (M.length : Int)) = true := by rw [bne_iff_ne]; omega
    have Hn : Hid (eqF sameP L M = false) := Lib.hid (eqF_len h0)
    clear h0
    go_enter Tryz.func76, Tryz.ntmps76
    go_wp2
    go_ret
    exact ⟨ret_bool Hn.out.symm, Below.refl _ _⟩

end Go.Proofs.YthnaipgdjbaebaaGreat

/- The program's sameNode, and of lists of nodes. -/
namespace Go.Proofs.YthnaipgdjbaebaaGreat
open Go.RowKit
set_option linter.unusedVariables false

set_option maxRecDepth 100000 in
set_option maxHeartbeats 1000000 in
theorem sameNode_any (p q : Nv) (A : Option Addr) (c : Nat) (A' : Option Addr) (c' : Nat) (D : Option Addr) (d : Nat) (D' : Option Addr) (d' : Nat) (B : Nat) (w : World)
    (h1 : RL svl w B A p.labels) (h2 : PropsR w B A' p.props) (l1 : p.labels.length ≤ 140737488351232) (l2 : p.props.length ≤ 140737488351232) (g1 : RL svl w B D q.labels) (g2 : PropsR w B D' q.props) (m1 : q.labels.length ≤ 140737488351232) (m2 : q.props.length ≤ 140737488351232) (hB : B ≤ w.heap.size) :
    Calls Tryz.prog 49 #[nagg p A c A' c', nagg q D d D' d'] w (Says (sameN p q) w) := by
  obtain ⟨xi, xl, xp⟩ := p
  obtain ⟨yi, yl, yp⟩ := q
  simp only at h1 h2 l1 l2 g1 g2 m1 m2
  simp only [nagg, ncells]
  obtain ⟨wo, hwo⟩ : ∃ z, z = (w.alloc (.cells #[.int .i64 xi, .slice A xl.length c, .slice A' xp.length c'] 40)).alloc (.cells #[.int .i64 yi, .slice D yl.length d, .slice D' yp.length d'] 40) := ⟨_, rfl⟩
  have hbo : Below w.heap.size w wo := by rw [hwo]; exact ((Below.refl _ _).alloc (Nat.le_refl _) _).alloc (by simp) _
  have hb1 : Below B w wo := hbo.mono hB
  have hlt1 : w.heap.size < wo.heap.size := by rw [hwo]; simp; omega
  have hlt2 : w.heap.size + 1 < wo.heap.size := by rw [hwo]; simp
  have Bx : Blk wo w.heap.size 40 #[.int .i64 xi, .slice A xl.length c, .slice A' xp.length c'] := by subst hwo; exact (Blk.new _ _ _).alloc _
  have By : Blk wo (w.heap.size + 1) 40 #[.int .i64 yi, .slice D yl.length d, .slice D' yp.length d'] := by
    subst hwo
    have := Blk.new (w.alloc (.cells #[.int .i64 xi, .slice A xl.length c, .slice A' xp.length c'] 40)) 40 #[.int .i64 yi, .slice D yl.length d, .slice D' yp.length d']
    simpa using this
  have HL := equalS_any A D c d B B xl yl wo (h1.below hb1) (g1.below hb1) (by unfold maxLen; omega) (by unfold maxLen; omega)
  have HP := fun n => eqProps_any A' D' c' d' B xp yp (wo.drewN n) (PropsR.below h2 (below_drewN hb1 n)) (PropsR.below g2 (below_drewN hb1 n)) (by have := hbo.size; simp; omega) l2 m2
  obtain ⟨E, hE⟩ : ∃ E, E = decide (xl = yl) := ⟨_, rfl⟩
  obtain ⟨E2, hE2⟩ : ∃ E, E = eqF sameP xp yp := ⟨_, rfl⟩
  rw [← hE] at HL
  rw [← hE2] at HP
  have q2 : wo.cell? ⟨w.heap.size, 2, none⟩ = some (.slice A' xp.length c') := by rw [Bx.cell 2]; rfl
  have s2 : wo.cell? ⟨w.heap.size + 1, 2, none⟩ = some (.slice D' yp.length d') := by rw [By.cell 2]; rfl
  have HE := Lib.hid hE
  have HE2 := Lib.hid hE2
  have HL := Lib.hid HL
  have HP := Lib.hid HP
  have Hwo := Lib.hid hwo
  clear h1 h2 g1 g2 hwo hb1 hE hE2 Bx By
  by_cases hk : xi = yi
  · have f1 : (xi == yi) = true := by simpa using hk
    have Hr : Hid (sameN ⟨xi, xl, xp⟩ ⟨yi, yl, yp⟩ = (E && E2)) := Lib.hid (by simp only [sameN, hk, decide_true, Bool.true_and]; rw [HE.out, HE2.out])
    clear hk
    go_enter Tryz.func49, Tryz.ntmps49
    go_wp2_with fail
    rw [← Hwo.out]
    refine HL.out.mono ?_
    rintro e w8 ⟨rfl, n, rfl⟩
    cases E
    · go_wp2
      go_ret
      exact ⟨ret_bool Hr.out.symm, below_drewN hbo n⟩
    · go_wp2_with fail
      refine (HP.out n).mono ?_
      rintro e w9 ⟨rfl, hb9⟩
      have hb10 := (below_drewN hbo n).trans (hb9.mono (by have := hbo.size; simp; omega))
      clear hb9
      go_wp2
      go_ret
      exact ⟨ret_bool Hr.out.symm, hb10⟩
  · have f1 : (xi == yi) = false := by simpa using hk
    have Hr : Hid (sameN ⟨xi, xl, xp⟩ ⟨yi, yl, yp⟩ = false) := Lib.hid (by simp [sameN, hk])
    clear hk
    go_enter Tryz.func49, Tryz.ntmps49
    go_wp2
    go_ret
    rw [← Hwo.out]
    exact ⟨ret_bool Hr.out.symm, hbo⟩

set_option maxRecDepth 100000 in
set_option maxHeartbeats 2000000 in
theorem eqNodes_any (A A' : Option Addr) (cap cap' B : Nat) (L M : List Nv) (w : World) (h : NodesR w B A L) (h' : NodesR w B A' M) (hB : B ≤ w.heap.size) (hl : L.length ≤ 140737488351232) (hl' : M.length ≤ 140737488351232) :
    Calls Tryz.prog 48 #[.slice A L.length cap, .slice A' M.length cap', .func (.func 49) #[] #[]] w (Says (eqF sameN L M) w) := by
  have H := Lib.hid h
  have H' := Lib.hid h'
  clear h h'
  by_cases h0 : L.length = M.length
  · have hb : ((L.length : Int) != (M.length : Int)) = false := by simp [h0]
    have H0 := Lib.hid h0
    have h1 : L.length ≤ M.length := by omega
    have h2 : M.length ≤ L.length := by omega
    clear h0
    go_enter Tryz.func48, Tryz.ntmps48
    go_wp2
    go_loopw [17] (fun i wr => ∃ k : Nat, k ≤ L.length ∧ i = .int .i64 k ∧ (∀ j a b, j < k → L[j]? = some a → M[j]? = some b → sameN a b = true) ∧ Below w.heap.size w wr) (fun i _ => L.length - (intOf i).toNat)
    case atStart => exact ⟨0, Nat.zero_le _, rfl, fun j a b hj => by omega, Below.refl _ _⟩
    case round =>
      obtain ⟨k, hk, rfl, heq, hbw⟩ := hrel
      by_cases hlt : k < L.length
      · have hlt' : k < M.length := by omega
        obtain ⟨x, hx⟩ : ∃ x, L[k]? = some x := ⟨_, List.getElem?_eq_getElem hlt⟩
        obtain ⟨y, hy⟩ : ∃ y, M[k]? = some y := ⟨_, List.getElem?_eq_getElem hlt'⟩
        have hsz := hbw.size
        obtain ⟨b, off, rfl, hbB, A1, c1, A2, c2, hc, hr1, hr2, hid, hs1, hs2, hs3⟩ := (NodesR.below H.out (hbw.mono hB)) k _ hx
        obtain ⟨b', off', rfl, hbB', A3, c3, A4, c4, hc', hr3, hr4, hid', hs1', hs2', hs3'⟩ := (NodesR.below H'.out (hbw.mono hB)) k _ hy
        obtain ⟨q0, q1, q2⟩ := node_cells hc
        obtain ⟨s0, s1, s2⟩ := node_cells hc'
        obtain ⟨xi, xl, xp⟩ := x
        obtain ⟨yi, yl, yp⟩ := y
        simp only at q0 q1 q2 s0 s1 s2 hr1 hr2 hr3 hr4 hid hid' hs1 hs2 hs1' hs2'
        obtain ⟨wo, hwo⟩ : ∃ z, z = (wr.alloc (.cells #[.int .i64 xi, .slice A1 xl.length c1, .slice A2 xp.length c2] 40)).alloc (.cells #[.int .i64 yi, .slice A3 yl.length c3, .slice A4 yp.length c4] 40) := ⟨_, rfl⟩
        have hbo : Below w.heap.size w wo := by rw [hwo]; exact (hbw.alloc hsz _).alloc (by simp; omega) _
        have hbr : Below B wr wo := by rw [hwo]; exact ((Below.refl _ _).alloc (by omega) _).alloc (by simp; omega) _
        have hb1 : Below B wr (wr.alloc (.cells #[.int .i64 xi, .slice A1 xl.length c1, .slice A2 xp.length c2] 40)) := (Below.refl _ _).alloc (by omega) _
        have z0 := (hb1.cell (p := ⟨b', off' + k * 3, none⟩) hbB').trans s0
        have z1 := (hb1.cell (p := ⟨b', off' + k * 3 + 1, none⟩) hbB').trans s1
        have z2 := (hb1.cell (p := ⟨b', off' + k * 3 + 2, none⟩) hbB').trans s2
        have HS := sameNode_any ⟨xi, xl, xp⟩ ⟨yi, yl, yp⟩ A1 c1 A2 c2 A3 c3 A4 c4 B wo (hr1.below hbr) (PropsR.below hr2 hbr) hs1 hs2 (hr3.below hbr) (PropsR.below hr4 hbr) hs1' hs2' (by have := hbo.size; omega)
        simp only [nagg, ncells] at HS
        have Hwo := Lib.hid hwo
        have Hx := Lib.hid hx
        have Hy := Lib.hid hy
        have Heq := Lib.hid heq
        have hi1 : (k : Int) < (M.length : Int) := by omega
        have hi0 : (0 : Int) ≤ (k : Int) := by omega
        clear hwo hbr hx hy heq hb1 hc hc' hr1 hr2 hr3 hr4 hid hid' hs3 hs3'
        obtain ⟨E, hE⟩ : ∃ E, E = sameN ⟨xi, xl, xp⟩ ⟨yi, yl, yp⟩ := ⟨_, rfl⟩
        rw [← hE] at HS
        have HE := Lib.hid hE
        have HS := Lib.hid HS
        clear hE
        go_wp2_with fail
        rw [← Hwo.out]
        refine HS.out.mono ?_
        rintro e w8 ⟨rfl, hb8⟩
        have hb9 := hbo.trans (hb8.mono hbo.size)
        clear hb8 hbo
        cases E
        · have Hn : Hid (eqF sameN L M = false) := Lib.hid (eqF_no Hx.out Hy.out HE.out.symm)
          go_wp2
          go_ret
          exact ⟨ret_bool Hn.out.symm, hb9⟩
        · go_wp2
          go_roundw
          case rel =>
            refine ⟨k + 1, by omega, by go_num, fun j a b hj ha hb => ?_, hb9⟩
            rcases Nat.lt_or_ge j k with hj' | hj'
            · exact Heq.out j a b hj' ha hb
            · obtain rfl : j = k := by omega
              have e1 := Hx.out
              have e2 := Hy.out
              rw [ha] at e1
              rw [hb] at e2
              injection e1 with e1
              injection e2 with e2
              rw [e1, e2, ← HE.out]
          case measure => simp [intOf]; omega
      · have Hn : Hid (eqF sameN L M = true) := Lib.hid (eqF_yes H0.out fun j a b ha hb => heq j a b (by have := (List.getElem?_eq_some_iff.1 ha).1; omega) ha hb)
        clear heq
        go_wp2
        go_ret
        exact ⟨ret_bool Hn.out.symm, hbw⟩
  · have hb : ((L.length : Int) != (M.length : Int)) = true := by rw [bne_iff_ne]; omega
    have Hn : Hid (eqF sameN L M = false) := Lib.hid (eqF_len h0)
    clear h0
    go_enter Tryz.func48, Tryz.ntmps48
    go_wp2
    go_ret
    exact ⟨ret_bool Hn.out.symm, Below.refl _ _⟩

end Go.Proofs.YthnaipgdjbaebaaGreat

/- The program's sameRel, and of lists of relationships. -/
namespace Go.Proofs.YthnaipgdjbaebaaGreat
open Go.RowKit
set_option linter.unusedVariables false

set_option maxRecDepth 100000 in
set_option maxHeartbeats 1000000 in
theorem sameRel_any (p q : Rv) (A : Option Addr) (c : Nat) (D : Option Addr) (d : Nat) (B : Nat) (w : World)
    (h2 : PropsR w B A p.props) (l2 : p.props.length ≤ 140737488351232) (t1 : p.typ.size ≤ 140737488351232) (g2 : PropsR w B D q.props) (m2 : q.props.length ≤ 140737488351232) (t2 : q.typ.size ≤ 140737488351232) (hB : B ≤ w.heap.size) :
    Calls Tryz.prog 51 #[ragg p A c, ragg q D d] w (Says (sameR p q) w) := by
  obtain ⟨xi, xt, xs, xd, xp⟩ := p
  obtain ⟨yi, yt, ys, yd, yp⟩ := q
  simp only at h2 l2 g2 m2 t1 t2
  simp only [ragg, rcells]
  obtain ⟨wo, hwo⟩ : ∃ z, z = (w.alloc (.cells #[.int .i64 xi, .string xt, .int .i64 xs, .int .i64 xd, .slice A xp.length c] 47)).alloc (.cells #[.int .i64 yi, .string yt, .int .i64 ys, .int .i64 yd, .slice D yp.length d] 47) := ⟨_, rfl⟩
  have hbo : Below w.heap.size w wo := by rw [hwo]; exact ((Below.refl _ _).alloc (Nat.le_refl _) _).alloc (by simp) _
  have hb1 : Below B w wo := hbo.mono hB
  have HP := eqProps_any A D c d B xp yp wo (PropsR.below h2 hb1) (PropsR.below g2 hb1) (by have := hbo.size; omega) l2 m2
  obtain ⟨E2, hE2⟩ : ∃ E, E = eqF sameP xp yp := ⟨_, rfl⟩
  rw [← hE2] at HP
  have HE2 := Lib.hid hE2
  have HP := Lib.hid HP
  have Hwo := Lib.hid hwo
  clear h2 g2 hwo hb1 hE2
  by_cases h1 : xi = yi
  case neg =>
    have f0 : (xi == yi) = false := by simpa using h1
    have Hr : Hid (sameR ⟨xi, xt, xs, xd, xp⟩ ⟨yi, yt, ys, yd, yp⟩ = false) := Lib.hid (by simp [sameR, h1])
    clear h1 HP HE2
    go_enter Tryz.func51, Tryz.ntmps51
    go_wp2
    go_ret
    rw [← Hwo.out]
    exact ⟨ret_bool Hr.out.symm, hbo⟩
  have f0 : (xi == yi) = true := by simpa using h1
  by_cases h2 : xt = yt
  case neg =>
    have f1 : (xt.toList == yt.toList) = false := by rw [beq_eq_false_iff_ne]; exact fun e => h2 (str_inj e)
    have Hr : Hid (sameR ⟨xi, xt, xs, xd, xp⟩ ⟨yi, yt, ys, yd, yp⟩ = false) := Lib.hid (by simp [sameR, h2])
    clear h1 h2 HP HE2
    go_enter Tryz.func51, Tryz.ntmps51
    go_wp2
    go_ret
    rw [← Hwo.out]
    exact ⟨ret_bool Hr.out.symm, hbo⟩
  have f1 : (xt.toList == yt.toList) = true := by rw [h2]; exact beq_self_eq_true _
  by_cases h3 : xs = ys
  case neg =>
    have f2 : (xs == ys) = false := by simpa using h3
    have Hr : Hid (sameR ⟨xi, xt, xs, xd, xp⟩ ⟨yi, yt, ys, yd, yp⟩ = false) := Lib.hid (by simp [sameR, h3])
    clear h1 h2 h3 HP HE2
    go_enter Tryz.func51, Tryz.ntmps51
    go_wp2
    go_ret
    rw [← Hwo.out]
    exact ⟨ret_bool Hr.out.symm, hbo⟩
  have f2 : (xs == ys) = true := by simpa using h3
  by_cases h4 : xd = yd
  case neg =>
    have f3 : (xd == yd) = false := by simpa using h4
    have Hr : Hid (sameR ⟨xi, xt, xs, xd, xp⟩ ⟨yi, yt, ys, yd, yp⟩ = false) := Lib.hid (by simp [sameR, h4])
    clear h1 h2 h3 h4 HP HE2
    go_enter Tryz.func51, Tryz.ntmps51
    go_wp2
    go_ret
    rw [← Hwo.out]
    exact ⟨ret_bool Hr.out.symm, hbo⟩
  have f3 : (xd == yd) = true := by simpa using h4
  have Hr : Hid (sameR ⟨xi, xt, xs, xd, xp⟩ ⟨yi, yt, ys, yd, yp⟩ = E2) := Lib.hid (by simp only [sameR, h1, h2, h3, h4, decide_true, Bool.true_and]; exact HE2.out.symm)
  clear h1 h2 h3 h4
  go_enter Tryz.func51, Tryz.ntmps51
  go_wp2_with fail
  rw [← Hwo.out]
  refine HP.out.mono ?_
  rintro e w8 ⟨rfl, hb8⟩
  have hb9 := hbo.trans (hb8.mono hbo.size)
  clear hb8
  go_wp2
  go_ret
  exact ⟨ret_bool Hr.out.symm, hb9⟩

set_option maxRecDepth 100000 in
set_option maxHeartbeats 2000000 in
theorem eqRels_any (A A' : Option Addr) (cap cap' B : Nat) (L M : List Rv) (w : World) (h : RelsR w B A L) (h' : RelsR w B A' M) (hB : B ≤ w.heap.size) (hl : L.length ≤ 140737488351232) (hl' : M.length ≤ 140737488351232) :
    Calls Tryz.prog 50 #[.slice A L.length cap, .slice A' M.length cap', .func (.func 51) #[] #[]] w (Says (eqF sameR L M) w) := by
  have H := Lib.hid h
  have H' := Lib.hid h'
  clear h h'
  by_cases h0 : L.length = M.length
  · have hb : ((L.length : Int) != (M.length : Int)) = false := by simp [h0]
    have H0 := Lib.hid h0
    have h1 : L.length ≤ M.length := by omega
    have h2 : M.length ≤ L.length := by omega
    clear h0
    go_enter Tryz.func50, Tryz.ntmps50
    go_wp2
    go_loopw [17] (fun i wr => ∃ k : Nat, k ≤ L.length ∧ i = .int .i64 k ∧ (∀ j a b, j < k → L[j]? = some a → M[j]? = some b → sameR a b = true) ∧ Below w.heap.size w wr) (fun i _ => L.length - (intOf i).toNat)
    case atStart => exact ⟨0, Nat.zero_le _, rfl, fun j a b hj => by omega, Below.refl _ _⟩
    case round =>
      obtain ⟨k, hk, rfl, heq, hbw⟩ := hrel
      by_cases hlt : k < L.length
      · have hlt' : k < M.length := by omega
        obtain ⟨x, hx⟩ : ∃ x, L[k]? = some x := ⟨_, List.getElem?_eq_getElem hlt⟩
        obtain ⟨y, hy⟩ : ∃ y, M[k]? = some y := ⟨_, List.getElem?_eq_getElem hlt'⟩
        have hsz := hbw.size
        obtain ⟨b, off, rfl, hbB, A1, c1, hc, hr1, hid, hsr, hds, hty, hs1⟩ := (RelsR.below H.out (hbw.mono hB)) k _ hx
        obtain ⟨b', off', rfl, hbB', A3, c3, hc', hr3, hid', hsr', hds', hty', hs1'⟩ := (RelsR.below H'.out (hbw.mono hB)) k _ hy
        obtain ⟨q0, q1, q2, q3, q4⟩ := rel_cells hc
        obtain ⟨s0, s1, s2, s3, s4⟩ := rel_cells hc'
        obtain ⟨xi, xt, xs, xd, xp⟩ := x
        obtain ⟨yi, yt, ys, yd, yp⟩ := y
        simp only at q0 q1 q2 q3 q4 s0 s1 s2 s3 s4 hr1 hr3 hid hid' hs1 hs1' hty hty'
        obtain ⟨wo, hwo⟩ : ∃ z, z = (wr.alloc (.cells #[.int .i64 xi, .string xt, .int .i64 xs, .int .i64 xd, .slice A1 xp.length c1] 47)).alloc (.cells #[.int .i64 yi, .string yt, .int .i64 ys, .int .i64 yd, .slice A3 yp.length c3] 47) := ⟨_, rfl⟩
        have hbo : Below w.heap.size w wo := by rw [hwo]; exact (hbw.alloc hsz _).alloc (by simp; omega) _
        have hbr : Below B wr wo := by rw [hwo]; exact ((Below.refl _ _).alloc (by omega) _).alloc (by simp; omega) _
        have hb1 : Below B wr (wr.alloc (.cells #[.int .i64 xi, .string xt, .int .i64 xs, .int .i64 xd, .slice A1 xp.length c1] 47)) := (Below.refl _ _).alloc (by omega) _
        have z0 := (hb1.cell (p := ⟨b', off' + k * 5, none⟩) hbB').trans s0
        have z1 := (hb1.cell (p := ⟨b', off' + k * 5 + 1, none⟩) hbB').trans s1
        have z2 := (hb1.cell (p := ⟨b', off' + k * 5 + 2, none⟩) hbB').trans s2
        have z3 := (hb1.cell (p := ⟨b', off' + k * 5 + 3, none⟩) hbB').trans s3
        have z4 := (hb1.cell (p := ⟨b', off' + k * 5 + 4, none⟩) hbB').trans s4
        have HS := sameRel_any ⟨xi, xt, xs, xd, xp⟩ ⟨yi, yt, ys, yd, yp⟩ A1 c1 A3 c3 B wo (PropsR.below hr1 hbr) hs1 hty (PropsR.below hr3 hbr) hs1' hty' (by have := hbo.size; omega)
        simp only [ragg, rcells] at HS
        have Hwo := Lib.hid hwo
        have Hx := Lib.hid hx
        have Hy := Lib.hid hy
        have Heq := Lib.hid heq
        have hi1 : (k : Int) < (M.length : Int) := by omega
        have hi0 : (0 : Int) ≤ (k : Int) := by omega
        clear hwo hbr hx hy heq hb1 hc hc' hr1 hr3 hid hid' hsr hsr' hds hds'
        obtain ⟨E, hE⟩ : ∃ E, E = sameR ⟨xi, xt, xs, xd, xp⟩ ⟨yi, yt, ys, yd, yp⟩ := ⟨_, rfl⟩
        rw [← hE] at HS
        have HE := Lib.hid hE
        have HS := Lib.hid HS
        clear hE
        go_wp2_with fail
        rw [← Hwo.out]
        refine HS.out.mono ?_
        rintro e w8 ⟨rfl, hb8⟩
        have hb9 := hbo.trans (hb8.mono hbo.size)
        clear hb8 hbo
        cases E
        · have Hn : Hid (eqF sameR L M = false) := Lib.hid (eqF_no Hx.out Hy.out HE.out.symm)
          go_wp2
          go_ret
          exact ⟨ret_bool Hn.out.symm, hb9⟩
        · go_wp2
          go_roundw
          case rel =>
            refine ⟨k + 1, by omega, by go_num, fun j a b hj ha hb => ?_, hb9⟩
            rcases Nat.lt_or_ge j k with hj' | hj'
            · exact Heq.out j a b hj' ha hb
            · obtain rfl : j = k := by omega
              have e1 := Hx.out
              have e2 := Hy.out
              rw [ha] at e1
              rw [hb] at e2
              injection e1 with e1
              injection e2 with e2
              rw [e1, e2, ← HE.out]
          case measure => simp [intOf]; omega
      · have Hn : Hid (eqF sameR L M = true) := Lib.hid (eqF_yes H0.out fun j a b ha hb => heq j a b (by have := (List.getElem?_eq_some_iff.1 ha).1; omega) ha hb)
        clear heq
        go_wp2
        go_ret
        exact ⟨ret_bool Hn.out.symm, hbw⟩
  · have hb : ((L.length : Int) != (M.length : Int)) = true := by rw [bne_iff_ne]; omega
    have Hn : Hid (eqF sameR L M = false) := Lib.hid (eqF_len h0)
    clear h0
    go_enter Tryz.func50, Tryz.ntmps50
    go_wp2
    go_ret
    exact ⟨ret_bool Hn.out.symm, Below.refl _ _⟩

end Go.Proofs.YthnaipgdjbaebaaGreat

/- The program's Same. -/
namespace Go.Proofs.YthnaipgdjbaebaaGreat
open Go.RowKit
set_option linter.unusedVariables false

set_option maxRecDepth 100000 in
set_option maxHeartbeats 1000000 in
theorem gSame_any (g h : Gv) (A A' : Option Addr) (c c' : Nat) (D D' : Option Addr) (d d' : Nat) (B : Nat) (w : World) (hg : GR w B g A A') (hh : GR w B h D D') (hB : B ≤ w.heap.size) :
    Calls Tryz.prog 24 #[gagg g A c A' c', gagg h D d D' d'] w (Says (sameG g h) w) := by
  obtain ⟨G1, G2, l1, l2⟩ := hg
  obtain ⟨K1, K2, m1, m2⟩ := hh
  simp only [gagg]
  obtain ⟨wo, hwo⟩ : ∃ z, z = (w.alloc (.cells #[.slice A g.nodes.length c, .slice A' g.rels.length c'] 27)).alloc (.cells #[.slice D h.nodes.length d, .slice D' h.rels.length d'] 27) := ⟨_, rfl⟩
  have hbo : Below w.heap.size w wo := by rw [hwo]; exact ((Below.refl _ _).alloc (Nat.le_refl _) _).alloc (by simp) _
  have Bx : Blk wo w.heap.size 27 #[.slice A g.nodes.length c, .slice A' g.rels.length c'] := by subst hwo; exact (Blk.new _ _ _).alloc _
  have By : Blk wo (w.heap.size + 1) 27 #[.slice D h.nodes.length d, .slice D' h.rels.length d'] := by
    subst hwo
    have := Blk.new (w.alloc (.cells #[.slice A g.nodes.length c, .slice A' g.rels.length c'] 27)) 27 #[.slice D h.nodes.length d, .slice D' h.rels.length d']
    simpa using this
  have hb1 : Below B w wo := hbo.mono hB
  have HN := eqNodes_any A D c d B g.nodes h.nodes wo (NodesR.below G1 hb1) (NodesR.below K1 hb1) (by have := hbo.size; omega) l1 m1
  have HR : Hid (∀ w2, Below w.heap.size w w2 → Calls Tryz.prog 50 #[.slice A' g.rels.length c', .slice D' h.rels.length d', .func (.func 51) #[] #[]] w2 (Says (eqF sameR g.rels h.rels) w2)) := Lib.hid fun w2 hb => eqRels_any A' D' c' d' B g.rels h.rels w2 (RelsR.below G2 (hb.mono hB)) (RelsR.below K2 (hb.mono hB)) (by have := hb.size; omega) l2 m2
  obtain ⟨E, hE⟩ : ∃ E, E = eqF sameN g.nodes h.nodes := ⟨_, rfl⟩
  obtain ⟨E2, hE2⟩ : ∃ E, E = eqF sameR g.rels h.rels := ⟨_, rfl⟩
  rw [← hE] at HN
  rw [← hE2] at HR
  have Hr : Hid (sameG g h = (E && E2)) := Lib.hid (by rw [hE, hE2]; rfl)
  have HN := Lib.hid HN
  have Hwo := Lib.hid hwo
  have hlt1 := Bx.lt
  have hlt2 := By.lt
  have q1 : wo.cell? ⟨w.heap.size, 1, none⟩ = some (.slice A' g.rels.length c') := by rw [Bx.cell 1]; rfl
  have s1 : wo.cell? ⟨w.heap.size + 1, 1, none⟩ = some (.slice D' h.rels.length d') := by rw [By.cell 1]; rfl
  clear G1 G2 K1 K2 hwo hb1 hE hE2 Bx By
  go_enter Tryz.func24, Tryz.ntmps24
  go_wp2_with fail
  rw [← Hwo.out]
  refine HN.out.mono ?_
  rintro e w8 ⟨rfl, hb8⟩
  have hb9 := hbo.trans (hb8.mono hbo.size)
  have k1 := (hb8.cell (p := ⟨w.heap.size, 1, none⟩) hlt1).trans q1
  have j1 := (hb8.cell (p := ⟨w.heap.size + 1, 1, none⟩) hlt2).trans s1
  clear hb8
  cases E
  · go_wp2
    go_ret
    exact ⟨ret_bool Hr.out.symm, hb9⟩
  · go_wp2_with fail
    refine (HR.out w8 hb9).mono ?_
    rintro e w9 ⟨rfl, hb10⟩
    have hb11 := hb9.trans (hb10.mono hb9.size)
    clear hb10 k1 j1
    go_wp2
    go_ret
    exact ⟨ret_bool Hr.out.symm, hb11⟩

end Go.Proofs.YthnaipgdjbaebaaGreat
