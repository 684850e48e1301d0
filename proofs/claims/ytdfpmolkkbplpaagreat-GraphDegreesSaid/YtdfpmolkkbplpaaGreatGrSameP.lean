/- The program's sameProp, and of lists of properties. -/
import Derived.Test.YtdfpmolkkbplpaaGreatGrSame0
import Derived.Test.YtdfpmolkkbplpaaGreatValSame2
import Derived.Deep.QuietTactic
import Derived.BigQuiet
namespace Go.Proofs.YtdfpmolkkbplpaaGreat
open Go.RowKit
set_option linter.unusedVariables false

/-- a property, by value -/
def pagg (p : Pv) (A : Option Addr) (c : Nat) (A' : Option Addr) (c' : Nat) : Value := .agg (pcells p A c A' c')
def nagg (n : Nv) (A : Option Addr) (c : Nat) (A' : Option Addr) (c' : Nat) : Value := .agg (ncells n A c A' c')
def ragg (r : Rv) (A : Option Addr) (c : Nat) : Value := .agg (rcells r A c)

set_option maxRecDepth 100000 in
set_option maxHeartbeats 1000000 in
theorem sameProp_any (p q : Pv) (A : Option Addr) (c : Nat) (A' : Option Addr) (c' : Nat) (D : Option Addr) (d : Nat) (D' : Option Addr) (d' : Nat) (B : Nat) (w : World)
    (h1 : RL ivl w B A p.val.ns) (h2 : RL svl w B A' p.val.ts) (h3 : Vok p.val) (g1 : RL ivl w B D q.val.ns) (g2 : RL svl w B D' q.val.ts) (g3 : Vok q.val) (hB : B ≤ w.heap.size) (hp : p.key.size ≤ 140737488351232) (hq : q.key.size ≤ 140737488351232) :
    Calls Tryz.prog 77 #[pagg p A c A' c', pagg q D d D' d'] w (Says (sameP p q) w) := by
  obtain ⟨key, ⟨vk, vn, vs, ns, ts⟩⟩ := p
  obtain ⟨key', ⟨vk', vn', vs', ns', ts'⟩⟩ := q
  simp only at h1 h2 h3 g1 g2 g3 hp hq
  simp only [pagg, pcells]
  obtain ⟨wo, hwo⟩ : ∃ z, z = (w.alloc (.cells #[.string key, .int .i64 vk, .int .i64 vn, .string vs, .slice A ns.length c, .slice A' ts.length c'] 45)).alloc (.cells #[.string key', .int .i64 vk', .int .i64 vn', .string vs', .slice D ns'.length d, .slice D' ts'.length d'] 45) := ⟨_, rfl⟩
  have hbo : Below w.heap.size w wo := by rw [hwo]; exact ((Below.refl _ _).alloc (Nat.le_refl _) _).alloc (by simp) _
  have hb1 : Below B w wo := hbo.mono hB
  have HV := Same_any ⟨vk, vn, vs, ns, ts⟩ ⟨vk', vn', vs', ns', ts'⟩ _ _ B wo ⟨A, c, A', c', rfl, h1.below hb1, h2.below hb1, h3⟩ ⟨D, d, D', d', rfl, g1.below hb1, g2.below hb1, g3⟩ (by have := hbo.size; omega)
  simp only [vagg] at HV
  obtain ⟨E, hE⟩ : ∃ E, E = sameV ⟨vk, vn, vs, ns, ts⟩ ⟨vk', vn', vs', ns', ts'⟩ := ⟨_, rfl⟩
  rw [← hE] at HV
  have HE := Lib.hid hE
  have HV := Lib.hid HV
  have Hwo := Lib.hid hwo
  clear h1 h2 h3 g1 g2 g3 hwo hb1 hE
  by_cases hk : key = key'
  · have f1 : (key.toList == key'.toList) = true := by rw [hk]; exact beq_self_eq_true _
    have Hr : Hid (sameP ⟨key, ⟨vk, vn, vs, ns, ts⟩⟩ ⟨key', ⟨vk', vn', vs', ns', ts'⟩⟩ = E) := Lib.hid (by simp only [sameP, hk, decide_true, Bool.true_and]; exact HE.out.symm)
    clear hk
    go_enter Tryz.func77, Tryz.ntmps77
    go_wp2_with fail
    rw [← Hwo.out]
    refine HV.out.mono ?_
    rintro e w8 ⟨rfl, hb8⟩
    have hb9 := hbo.trans (hb8.mono hbo.size)
    clear hb8
    go_wp2
    go_ret
    exact ⟨ret_bool Hr.out.symm, hb9⟩
  · have f1 : (key.toList == key'.toList) = false := by rw [beq_eq_false_iff_ne]; exact fun e => hk (str_inj e)
    have Hr : Hid (sameP ⟨key, ⟨vk, vn, vs, ns, ts⟩⟩ ⟨key', ⟨vk', vn', vs', ns', ts'⟩⟩ = false) := Lib.hid (by simp [sameP, hk])
    clear hk
    go_enter Tryz.func77, Tryz.ntmps77
    go_wp2
    go_ret
    rw [← Hwo.out]
    exact ⟨ret_bool Hr.out.symm, hbo⟩

set_option maxRecDepth 100000 in
set_option maxHeartbeats 2000000 in
theorem eqProps_any (A A' : Option Addr) (cap cap' B : Nat) (L M : List Pv) (w : World) (h : PropsR w B A L) (h' : PropsR w B A' M) (hB : B ≤ w.heap.size) (hl : L.length ≤ 140737488351232) (hl' : M.length ≤ 140737488351232) :
    Calls Tryz.prog 76 #[.slice A L.length cap, .slice A' M.length cap', .func (.func 77) #[] #[]] w (Says (eqF sameP L M) w) := by
  have H := Lib.hid h
  have H' := Lib.hid h'
  clear h h'
  by_cases h0 : L.length = M.length
  · have hb : ((L.length : Int) != (M.length : Int)) = false := by simp [h0]
    have H0 := Lib.hid h0
    have h1 : L.length ≤ M.length := by omega
    have h2 : M.length ≤ L.length := by omega
    clear h0
    go_enter Tryz.func76, Tryz.ntmps76
    go_wp2
    go_loopw [17] (fun i wr => ∃ k : Nat, k ≤ L.length ∧ i = .int .i64 k ∧ (∀ j a b, j < k → L[j]? = some a → M[j]? = some b → sameP a b = true) ∧ Below w.heap.size w wr) (fun i _ => L.length - (intOf i).toNat)
    case atStart => exact ⟨0, Nat.zero_le _, rfl, fun j a b hj => by omega, Below.refl _ _⟩
    case round =>
      obtain ⟨k, hk, rfl, heq, hbw⟩ := hrel
      by_cases hlt : k < L.length
      · have hlt' : k < M.length := by omega
        obtain ⟨x, hx⟩ : ∃ x, L[k]? = some x := ⟨_, List.getElem?_eq_getElem hlt⟩
        obtain ⟨y, hy⟩ : ∃ y, M[k]? = some y := ⟨_, List.getElem?_eq_getElem hlt'⟩
        have hsz := hbw.size
        obtain ⟨b, off, rfl, hbB, A1, c1, A2, c2, hc, hr1, hr2, hok, hks⟩ := (PropsR.below H.out (hbw.mono hB)) k _ hx
        obtain ⟨b', off', rfl, hbB', A3, c3, A4, c4, hc', hr3, hr4, hok', hks'⟩ := (PropsR.below H'.out (hbw.mono hB)) k _ hy
        obtain ⟨q0, q1, q2, q3, q4, q5⟩ := prop_cells hc
        obtain ⟨s0, s1, s2, s3, s4, s5⟩ := prop_cells hc'
        obtain ⟨key, ⟨vk, vn, vs, ns, ts⟩⟩ := x
        obtain ⟨key', ⟨vk', vn', vs', ns', ts'⟩⟩ := y
        simp only at q0 q1 q2 q3 q4 q5 s0 s1 s2 s3 s4 s5 hr1 hr2 hr3 hr4 hks hks'
        obtain ⟨wo, hwo⟩ : ∃ z, z = (wr.alloc (.cells #[.string key, .int .i64 vk, .int .i64 vn, .string vs, .slice A1 ns.length c1, .slice A2 ts.length c2] 45)).alloc (.cells #[.string key', .int .i64 vk', .int .i64 vn', .string vs', .slice A3 ns'.length c3, .slice A4 ts'.length c4] 45) := ⟨_, rfl⟩
        have hbo : Below w.heap.size w wo := by rw [hwo]; exact (hbw.alloc hsz _).alloc (by simp; omega) _
        have hbr : Below B wr wo := by rw [hwo]; exact ((Below.refl _ _).alloc (by omega) _).alloc (by simp; omega) _
        have hb1 : Below B wr (wr.alloc (.cells #[.string key, .int .i64 vk, .int .i64 vn, .string vs, .slice A1 ns.length c1, .slice A2 ts.length c2] 45)) := (Below.refl _ _).alloc (by omega) _
        have z0 := (hb1.cell (p := ⟨b', off' + k * 6, none⟩) hbB').trans s0
        have z1 := (hb1.cell (p := ⟨b', off' + k * 6 + 1, none⟩) hbB').trans s1
        have z2 := (hb1.cell (p := ⟨b', off' + k * 6 + 2, none⟩) hbB').trans s2
        have z3 := (hb1.cell (p := ⟨b', off' + k * 6 + 3, none⟩) hbB').trans s3
        have z4 := (hb1.cell (p := ⟨b', off' + k * 6 + 4, none⟩) hbB').trans s4
        have z5 := (hb1.cell (p := ⟨b', off' + k * 6 + 5, none⟩) hbB').trans s5
        have HS := sameProp_any ⟨key, ⟨vk, vn, vs, ns, ts⟩⟩ ⟨key', ⟨vk', vn', vs', ns', ts'⟩⟩ A1 c1 A2 c2 A3 c3 A4 c4 B wo (hr1.below hbr) (hr2.below hbr) hok (hr3.below hbr) (hr4.below hbr) hok' (by have := hbo.size; omega) hks hks'
        simp only [pagg, pcells] at HS
        have Hwo := Lib.hid hwo
        have Hx := Lib.hid hx
        have Hy := Lib.hid hy
        have Heq := Lib.hid heq
        have hi1 : (k : Int) < (M.length : Int) := by omega
        have hi0 : (0 : Int) ≤ (k : Int) := by omega
        clear hwo hbr hx hy heq hb1 hc hc' hr1 hr2 hr3 hr4 hok hok'
        obtain ⟨E, hE⟩ : ∃ E, E = sameP ⟨key, ⟨vk, vn, vs, ns, ts⟩⟩ ⟨key', ⟨vk', vn', vs', ns', ts'⟩⟩ := ⟨_, rfl⟩
        rw [← hE] at HS
        have HE := Lib.hid hE
        have HS := Lib.hid HS
        clear hE
        go_wp2_with fail
        rw [← Hwo.out]
        refine HS.out.mono ?_
        rintro e w8 ⟨rfl, hb8⟩
        have hb9 := hbo.trans (hb8.mono hbo.size)
        clear hb8 hbo
        cases E
        · have Hn : Hid (eqF sameP L M = false) := Lib.hid (eqF_no Hx.out Hy.out HE.out.symm)
          go_wp2
          go_ret
          exact ⟨ret_bool Hn.out.symm, hb9⟩
        · go_wp2
          go_roundw
          case rel =>
            refine ⟨k + 1, by omega, by go_num, fun j a b hj ha hb => ?_, hb9⟩
            rcases Nat.lt_or_ge j k with hj' | hj'
            · exact Heq.out j a b hj' ha hb
            · obtain rfl : j = k := by omega
              have e1 := Hx.out
              have e2 := Hy.out
              rw [ha] at e1
              rw [hb] at e2
              injection e1 with e1
              injection e2 with e2
              rw [e1, e2, ← HE.out]
          case measure => simp [intOf]; omega
      · have Hn : Hid (eqF sameP L M = true) := Lib.hid (eqF_yes H0.out fun j a b ha hb => heq j a b (by have := (List.getElem?_eq_some_iff.1 ha).1; omega) ha hb)
        clear heq
        go_wp2
        go_ret
        exact ⟨ret_bool Hn.out.symm, hbw⟩
  · have hb : ((L.length : Int) != (M.length : Int)) = true := by rw [bne_iff_ne]; omega
    have Hn : Hid (eqF sameP L M = false) := Lib.hid (eqF_len h0)
    clear h0
    go_enter Tryz.func76, Tryz.ntmps76
    go_wp2
    go_ret
    exact ⟨ret_bool Hn.out.symm, Below.refl _ _⟩

end Go.Proofs.YtdfpmolkkbplpaaGreat
