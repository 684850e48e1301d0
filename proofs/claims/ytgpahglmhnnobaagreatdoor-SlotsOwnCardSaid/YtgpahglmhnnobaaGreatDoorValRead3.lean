/- The program's reading of a value, whole. -/
import Derived.Test.YtgpahglmhnnobaaGreatDoorValListN
import Derived.Test.YtgpahglmhnnobaaGreatDoorValListT
import Derived.Deep.Cut
import Derived.Deep.RegionHeld3
import Derived.Deep.RegionLaw
import Derived.BigRegion
import Derived.IntWalk
namespace Go.Proofs.YtgpahglmhnnobaaGreatDoor
open Go.RowKit
set_option linter.unusedVariables false

set_option maxRecDepth 100000 in
set_option maxHeartbeats 2000000 in
theorem readList_many (base g q : Nat) (kn m : Nat) (r : List Nat) (v : Vv) (rest : List Nat) (w : World) (h : Rd w base g q (m :: r) 0) (hm : 40 < m) :
    Calls Tryz.prog 96 #[.pointer (some ⟨g, 0, none⟩), .int .i64 (kn : Int)] w (RdPost base g q v rest 45 w) := by
  have hg := h.lt
  have hmb := h.bytes m (List.mem_cons_self ..)
  obtain ⟨wo, hwo⟩ : ∃ x, x = (w.alloc (.cells #[.int .i64 0, .int .i64 0, .string ⟨#[]⟩, .slice none 0 0, .slice none 0 0] 42)).alloc (.cells #[.int .i64 (kn : Int), .int .i64 0, .string ⟨#[]⟩, .slice none 0 0, .slice none 0 0] 42) := ⟨_, rfl⟩
  have Ro : Rd wo base g q (m :: r) 0 := by
    subst hwo
    exact (h.below ((Below.refl _ _).alloc (Nat.le_refl _) _)).below ((Below.refl _ _).alloc (Nat.le_refl _) _)
  have B1 : Blk wo w.heap.size 42 #[.int .i64 0, .int .i64 0, .string ⟨#[]⟩, .slice none 0 0, .slice none 0 0] := by subst hwo; exact (Blk.new _ _ _).alloc _
  have B2 : Blk wo (w.heap.size + 1) 42 #[.int .i64 (kn : Int), .int .i64 0, .string ⟨#[]⟩, .slice none 0 0, .slice none 0 0] := by
    subst hwo
    have := Blk.new (w.alloc (.cells #[.int .i64 0, .int .i64 0, .string ⟨#[]⟩, .slice none 0 0, .slice none 0 0] 42)) 42 #[.int .i64 (kn : Int), .int .i64 0, .string ⟨#[]⟩, .slice none 0 0, .slice none 0 0]
    simpa using this
  have hO : Only (fun k => k = g) w wo := by subst hwo; exact ((Only.refl (fun k => k = g) w).alloc _).alloc _
  have HW := Lib.hid hwo
  have HN0 := RNum_there base g q 1 (m :: r) wo Ro (by decide) (by simp)
  rw [show be ((m :: r).take 1) = m by simp [be, beFrom], List.drop_one, List.tail_cons] at HN0
  have HN := Lib.hid HN0
  have hwm : IntKind.i64.wrap (m : Int) = (m : Int) := by rw [IntKind.wrap_i64]; omega
  have HC := Lib.hid fun w => checkCount_any (m : Int) w
  rw [if_pos (by omega)] at HC
  unfold RdPost
  clear hwo h Ro HN0 hm
  go_enter Tryz.func96, Tryz.ntmps96
  go_wp2_with fail
  rw [← HW.out]
  refine (HN.out).mono ?_
  rintro e w1 ⟨rfl, R1, hc1⟩
  have C1 := B1.only hc1 (by omega)
  have C2 := B2.only hc1 (by omega)
  have hO1 := hO.trans hc1 (fun _ _ h => h)
  clear B1 B2 hO hc1
  obtain ⟨x0, x1, x2, x3, x4⟩ := box_cells C2
  obtain ⟨z0, z1, z2, z3, z4⟩ := box_cells C1
  have f0 := C1.frozen 0
  have f1 := C1.frozen 1
  have f3 := C1.frozen 2
  have f4 := C1.frozen 3
  have f5 := C1.frozen 4
  have hl1 := C1.lt
  have hl2 := C2.lt
  go_wp2_with (go_at_call 87; refine (HC.out _).mono ?_; rintro e w' ⟨rfl, rfl⟩)
  exact bodyPost_ret (v := .tuple #[.agg #[.int .i64 (kn : Int), .int .i64 0, .string ⟨#[]⟩, .slice none 0 0, .slice none 0 0], .int .i64 45]) (by simp [results, Tryz.results96, go_sem, *]) rfl ⟨⟨kn, 0, .empty, [], []⟩, none, 0, none, 0, rfl, fun hh => absurd hh (by decide), Only.set5 hO1 (.inr (Nat.le_refl _)) _ _ _ _ _⟩

set_option maxRecDepth 100000 in
set_option maxHeartbeats 2000000 in
theorem readList_nil (base g q : Nat) (kn : Nat) (v : Vv) (rest : List Nat) (w : World) (h : Rd w base g q [] 0) :
    Calls Tryz.prog 96 #[.pointer (some ⟨g, 0, none⟩), .int .i64 (kn : Int)] w (RdPost base g q v rest 10 w) := by
  have hg := h.lt
  obtain ⟨wo, hwo⟩ : ∃ x, x = (w.alloc (.cells #[.int .i64 0, .int .i64 0, .string ⟨#[]⟩, .slice none 0 0, .slice none 0 0] 42)).alloc (.cells #[.int .i64 (kn : Int), .int .i64 0, .string ⟨#[]⟩, .slice none 0 0, .slice none 0 0] 42) := ⟨_, rfl⟩
  have Ro : Rd wo base g q [] 0 := by
    subst hwo
    exact (h.below ((Below.refl _ _).alloc (Nat.le_refl _) _)).below ((Below.refl _ _).alloc (Nat.le_refl _) _)
  have B1 : Blk wo w.heap.size 42 #[.int .i64 0, .int .i64 0, .string ⟨#[]⟩, .slice none 0 0, .slice none 0 0] := by subst hwo; exact (Blk.new _ _ _).alloc _
  have B2 : Blk wo (w.heap.size + 1) 42 #[.int .i64 (kn : Int), .int .i64 0, .string ⟨#[]⟩, .slice none 0 0, .slice none 0 0] := by
    subst hwo
    have := Blk.new (w.alloc (.cells #[.int .i64 0, .int .i64 0, .string ⟨#[]⟩, .slice none 0 0, .slice none 0 0] 42)) 42 #[.int .i64 (kn : Int), .int .i64 0, .string ⟨#[]⟩, .slice none 0 0, .slice none 0 0]
    simpa using this
  have hO : Only (fun k => k = g) w wo := by subst hwo; exact ((Only.refl (fun k => k = g) w).alloc _).alloc _
  have HW := Lib.hid hwo
  have HN := Lib.hid (RNum_not base g q 1 [] wo Ro (by decide) (by simp))
  have HC := Lib.hid fun w => checkCount_any 0 w
  rw [if_neg (by omega)] at HC
  unfold RdPost
  clear hwo h Ro
  go_enter Tryz.func96, Tryz.ntmps96
  go_wp2_with fail
  rw [← HW.out]
  refine (HN.out).mono ?_
  rintro e w1 ⟨rfl, R1, hc1⟩
  have C1 := B1.only hc1 (by omega)
  have C2 := B2.only hc1 (by omega)
  have hO1 := hO.trans hc1 (fun _ _ h => h)
  clear B1 B2 hO hc1
  go_wp2_with (go_at_call 87; refine (HC.out _).mono ?_; rintro e w' ⟨rfl, rfl⟩)
  go_loop [23] (fun i => i = .int .i64 0) (fun _ => 0)
  case atStart => rfl
  case round =>
    subst hrel
    obtain ⟨x0, x1, x2, x3, x4⟩ := box_cells C2
    obtain ⟨z0, z1, z2, z3, z4⟩ := box_cells C1
    have f0 := C1.frozen 0
    have f1 := C1.frozen 1
    have f3 := C1.frozen 2
    have f4 := C1.frozen 3
    have f5 := C1.frozen 4
    have hl1 := C1.lt
    have hl2 := C2.lt
    have HE := Lib.hid (Err_any base g q [] 10 (w1.drewN 1) R1)
    have hO1' := Lib.hid hO1
    clear C1 C2 hO1
    go_wp2_with fail
    go_region_held3 (fun w' => w'.cell? ⟨w.heap.size + 1, 0, none⟩ = some (.int .i64 (kn : Int)) ∧ w'.cell? ⟨w.heap.size + 1, 1, none⟩ = some (.int .i64 0) ∧ w'.cell? ⟨w.heap.size + 1, 2, none⟩ = some (.string ⟨#[]⟩) ∧ w'.cell? ⟨w.heap.size + 1, 3, none⟩ = some (.slice none 0 0) ∧ w'.cell? ⟨w.heap.size + 1, 4, none⟩ = some (.slice none 0 0)) (go_keep)
      ((go_at_call 108; refine (HE.out).mono ?_; rintro e w' ⟨rfl, rfl⟩))
    go_wp2
    exact bodyPost_ret (v := .tuple #[.agg #[.int .i64 (kn : Int), .int .i64 0, .string ⟨#[]⟩, .slice none 0 0, .slice none 0 0], .int .i64 10]) (by simp [results, Tryz.results96, go_sem, *]) rfl ⟨⟨kn, 0, .empty, [], []⟩, none, 0, none, 0, rfl, fun hh => absurd hh (by decide), Only.set5 (hO1'.out.drewN 1) (.inr (Nat.le_refl _)) _ _ _ _ _⟩

/-- what 'read' leaves -/
def ReadPost (base g q : Nat) (bs : List Nat) (w : World) (e : Ending) (w' : World) : Prop :=
  RdPost base g q (mkV (prefixE bs).k (prefixE bs).q.xs (prefixE bs).q.ts) (bs.drop ((prefixE bs).h + (prefixE bs).q.c)) (prefixE bs).q.e w e w'

set_option maxRecDepth 100000 in
set_option maxHeartbeats 2000000 in
theorem read_err (base g q : Nat) (bs : List Nat) (w : World) (h : Rd w base g q bs 0) (err : Int) (he0 : err ≠ 0) (v : Vv) (rest : List Nat)
    (hc : ∀ w, Rd w base g q bs 0 → Calls Tryz.prog 95 #[.pointer (some ⟨g, 0, none⟩)] w fun e w' => e = .returned (.tuple #[.int .i64 0, .int .i64 err]) ∧ Only (fun k => k = g) w w') :
    Calls Tryz.prog 72 #[.pointer (some ⟨g, 0, none⟩)] w (RdPost base g q v rest err w) := by
  have hg := h.lt
  obtain ⟨wo, hwo⟩ : ∃ x, x = w.alloc (.cells #[.int .i64 0, .int .i64 0, .string ⟨#[]⟩, .slice none 0 0, .slice none 0 0] 42) := ⟨_, rfl⟩
  have B1 : Blk wo w.heap.size 42 #[.int .i64 0, .int .i64 0, .string ⟨#[]⟩, .slice none 0 0, .slice none 0 0] := by subst hwo; exact Blk.new _ _ _
  have hO : Only (fun k => k = g) w wo := by subst hwo; exact (Only.refl (fun k => k = g) w).alloc _
  have HK := Lib.hid (hc wo (by subst hwo; exact h.below ((Below.refl _ _).alloc (Nat.le_refl _) _)))
  have HW := Lib.hid hwo
  have hb : (err != 0) = true := by simpa using he0
  have He0 := Lib.hid he0
  unfold RdPost
  clear hwo h hc he0
  go_enter Tryz.func72, Tryz.ntmps72
  go_wp2_with fail
  rw [← HW.out]
  refine (HK.out).mono ?_
  rintro e w1 ⟨rfl, hc1⟩
  have C1 := B1.only hc1 (by omega)
  have hO1 := hO.trans hc1 (fun _ _ h => h)
  obtain ⟨z0, z1, z2, z3, z4⟩ := box_cells C1
  have f0 := C1.frozen 0
  have f1 := C1.frozen 1
  have f3 := C1.frozen 2
  have f4 := C1.frozen 3
  have f5 := C1.frozen 4
  have hl1 := C1.lt
  clear B1 hO hc1 C1
  go_wp2
  exact bodyPost_ret (v := .tuple #[.agg #[.int .i64 0, .int .i64 0, .string ⟨#[]⟩, .slice none 0 0, .slice none 0 0], .int .i64 err]) (by simp [results, Tryz.results72, go_sem, *]) rfl ⟨⟨0, 0, .empty, [], []⟩, none, 0, none, 0, rfl, fun hh => absurd hh He0.out, Only.set5 hO1 (.inr (Nat.le_refl _)) _ _ _ _ _⟩

set_option maxRecDepth 100000 in
set_option maxHeartbeats 2000000 in
theorem read_on (base g q k : Nat) (r : List Nat) (w : World) (h : Rd w base g q (k :: r) 0) (hk : 1 ≤ k ∧ k ≤ 8) (v : Vv) (rest : List Nat) (err : Int)
    (hc : ∀ w, Rd w base g q r 0 → Calls Tryz.prog (if k ≤ 4 then 97 else 96) #[.pointer (some ⟨g, 0, none⟩), .int .i64 (k : Int)] w (RdPost base g q v rest err w)) :
    Calls Tryz.prog 72 #[.pointer (some ⟨g, 0, none⟩)] w (RdPost base g q v rest err w) := by
  have hg := h.lt
  obtain ⟨wo, hwo⟩ : ∃ x, x = w.alloc (.cells #[.int .i64 0, .int .i64 0, .string ⟨#[]⟩, .slice none 0 0, .slice none 0 0] 42) := ⟨_, rfl⟩
  have B1 : Blk wo w.heap.size 42 #[.int .i64 0, .int .i64 0, .string ⟨#[]⟩, .slice none 0 0, .slice none 0 0] := by subst hwo; exact Blk.new _ _ _
  have hO : Only (fun k => k = g) w wo := by subst hwo; exact (Only.refl (fun k => k = g) w).alloc _
  have HK := Lib.hid (readKind_ok base g q k r wo (by subst hwo; exact h.below ((Below.refl _ _).alloc (Nat.le_refl _) _)) hk)
  have HW := Lib.hid hwo
  unfold RdPost
  by_cases h4 : k ≤ 4
  · simp only [if_pos h4] at hc
    have HC := Lib.hid hc
    unfold RdPost at HC
    have HIL := Lib.hid fun w => isList_no (k := (k : Int)) (by omega) w
    clear hwo h hc h4
    go_enter Tryz.func72, Tryz.ntmps72
    go_wp2_with fail
    rw [← HW.out]
    refine (HK.out).mono ?_
    rintro e w1 ⟨rfl, R1, hc1⟩
    have C1 := B1.only hc1 (by omega)
    have hO1 := hO.trans hc1 (fun _ _ h => h)
    have hs1 := hO1.size
    have hl1 := C1.lt
    clear B1 hO hc1
    go_wp2_with (go_at_call 63; refine (HIL.out _).mono ?_; rintro e w' ⟨rfl, rfl⟩)
    refine (HC.out w1 R1).mono ?_
    rintro e w2 ⟨v', A3, c3, A4, c4, rfl, hv, hc2⟩
    have D1 := C1.only hc2 (by omega)
    have hO2 := hO1.trans hc2 (fun _ _ h => h)
    obtain ⟨z0, z1, z2, z3, z4⟩ := box_cells D1
    have f0 := D1.frozen 0
    have f1 := D1.frozen 1
    have f3 := D1.frozen 2
    have f4 := D1.frozen 3
    have f5 := D1.frozen 4
    have hl2 := D1.lt
    have HD1 := Lib.hid D1
    have Hv := Lib.hid hv
    have hO2' := Lib.hid hO2
    obtain ⟨v1, v2, v3, v4, v5⟩ := v'
    clear C1 hO1 D1 hv hO2 hc2 R1
    go_wp2
    refine bodyPost_ret (v := .tuple #[.agg #[.int .i64 v1, .int .i64 v2, .string v3, .slice A3 v4.length c3, .slice A4 v5.length c4], .int .i64 err]) (by simp [results, Tryz.results72, go_sem, *]) rfl ⟨⟨v1, v2, v3, v4, v5⟩, A3, c3, A4, c4, rfl, fun hh => ?_, Only.set5 hO2'.out (.inr (Nat.le_refl _)) _ _ _ _ _⟩
    obtain ⟨e1, o1, o2, R2⟩ := Hv.out hh
    exact ⟨e1, OL.set5 (o1.mono hs1) (own_blk_ne o1.2 HD1.out (by decide)) _ _ _ _ _, OL.set5 (o2.mono hs1) (own_blk_ne o2.2 HD1.out (by decide)) _ _ _ _ _, Rd.only R2 (Only.set5 (Only.refl (fun k => k = w.heap.size) w2) (.inl rfl) _ _ _ _ _) (by omega) (by omega)⟩
  · simp only [if_neg h4] at hc
    have HC := Lib.hid hc
    unfold RdPost at HC
    have HIL := Lib.hid fun w => isList_yes (k := (k : Int)) (by omega) w
    clear hwo h hc h4
    go_enter Tryz.func72, Tryz.ntmps72
    go_wp2_with fail
    rw [← HW.out]
    refine (HK.out).mono ?_
    rintro e w1 ⟨rfl, R1, hc1⟩
    have C1 := B1.only hc1 (by omega)
    have hO1 := hO.trans hc1 (fun _ _ h => h)
    have hs1 := hO1.size
    have hl1 := C1.lt
    clear B1 hO hc1
    go_wp2_with (go_at_call 63; refine (HIL.out _).mono ?_; rintro e w' ⟨rfl, rfl⟩)
    refine (HC.out w1 R1).mono ?_
    rintro e w2 ⟨v', A3, c3, A4, c4, rfl, hv, hc2⟩
    have D1 := C1.only hc2 (by omega)
    have hO2 := hO1.trans hc2 (fun _ _ h => h)
    obtain ⟨z0, z1, z2, z3, z4⟩ := box_cells D1
    have f0 := D1.frozen 0
    have f1 := D1.frozen 1
    have f3 := D1.frozen 2
    have f4 := D1.frozen 3
    have f5 := D1.frozen 4
    have hl2 := D1.lt
    have HD1 := Lib.hid D1
    have Hv := Lib.hid hv
    have hO2' := Lib.hid hO2
    obtain ⟨v1, v2, v3, v4, v5⟩ := v'
    clear C1 hO1 D1 hv hO2 hc2 R1
    go_wp2
    refine bodyPost_ret (v := .tuple #[.agg #[.int .i64 v1, .int .i64 v2, .string v3, .slice A3 v4.length c3, .slice A4 v5.length c4], .int .i64 err]) (by simp [results, Tryz.results72, go_sem, *]) rfl ⟨⟨v1, v2, v3, v4, v5⟩, A3, c3, A4, c4, rfl, fun hh => ?_, Only.set5 hO2'.out (.inr (Nat.le_refl _)) _ _ _ _ _⟩
    obtain ⟨e1, o1, o2, R2⟩ := Hv.out hh
    exact ⟨e1, OL.set5 (o1.mono hs1) (own_blk_ne o1.2 HD1.out (by decide)) _ _ _ _ _, OL.set5 (o2.mono hs1) (own_blk_ne o2.2 HD1.out (by decide)) _ _ _ _ _, Rd.only R2 (Only.set5 (Only.refl (fun k => k = w.heap.size) w2) (.inl rfl) _ _ _ _ _) (by omega) (by omega)⟩

theorem elems_one (e : Int) (bs : List Nat) : (elems e 1 bs).e = (scalar e bs).e ∧ ((scalar e bs).e = 0 → (elems e 1 bs).xs = [(scalar e bs).x] ∧ (elems e 1 bs).ts = [(scalar e bs).t] ∧ (elems e 1 bs).c = (scalar e bs).c) := by
  by_cases h : (scalar e bs).e = 0
  · rw [elems_good h]
    simp [elems, El.pre, h]
  · rw [elems_bad h]
    exact ⟨rfl, fun h' => absurd h' h⟩

theorem read_any (base g q : Nat) (bs : List Nat) (w : World) (h : Rd w base g q bs 0) (hl8 : bs.length ≤ 140737488355328) :
    Calls Tryz.prog 72 #[.pointer (some ⟨g, 0, none⟩)] w (ReadPost base g q bs w) := by
  unfold ReadPost
  cases bs with
  | nil => exact read_err base g q [] w h 10 (by decide) _ _ fun w h => readKind_nil base g q w h
  | cons k r =>
    by_cases hk : 1 ≤ k ∧ k ≤ 8
    · have hlr : r.length ≤ 140737488355328 := by simp at hl8; omega
      by_cases h4 : k ≤ 4
      · rw [prefix_one hk h4]
        refine read_on base g q k r w h hk _ _ _ fun w h => ?_
        rw [if_pos h4]
        obtain ⟨e1, e2⟩ := elems_one (k : Int) r
        refine (readScalar_any base g q r k w h hlr hk.1 h4).mono ?_
        rintro e w' ⟨v', A, c, A', c', he, hv, ho⟩
        refine ⟨v', A, c, A', c', by rw [e1]; exact he, fun h0 => ?_, ho⟩
        rw [e1] at h0
        obtain ⟨f1, f2, f3⟩ := e2 h0
        rw [f1, f2, f3, Nat.add_comm, List.drop_succ_cons]
        exact hv h0
      · cases r with
        | nil =>
          rw [prefix_short hk h4]
          refine read_on base g q k [] w h hk _ _ _ fun w h => ?_
          rw [if_neg h4]
          exact readList_nil base g q k _ _ w h
        | cons m r' =>
          by_cases hm : 40 < m
          · rw [prefix_many hk h4 hm]
            refine read_on base g q k (m :: r') w h hk _ _ _ fun w h => ?_
            rw [if_neg h4]
            exact readList_many base g q k m r' _ _ w h hm
          · rw [prefix_list hk h4 hm]
            refine read_on base g q k (m :: r') w h hk _ _ _ fun w h => ?_
            rw [if_neg h4]
            have hd : ∀ c, (k :: m :: r').drop (2 + c) = r'.drop c := fun c => by rw [Nat.add_comm, List.drop_succ_cons, List.drop_succ_cons]
            rw [hd]
            by_cases h8 : k ≤ 7
            · exact readListN_any base g q (m :: r') k w h hlr (by omega) h8 m r' rfl hm
            · exact readListT_any base g q (m :: r') k w h hlr (by omega) (by omega) m r' rfl hm
    · rw [prefix_kind hk]
      exact read_err base g q (k :: r) w h 40 (by decide) _ _ fun w h => readKind_bad base g q k r w h hk

end Go.Proofs.YtgpahglmhnnobaaGreatDoor
