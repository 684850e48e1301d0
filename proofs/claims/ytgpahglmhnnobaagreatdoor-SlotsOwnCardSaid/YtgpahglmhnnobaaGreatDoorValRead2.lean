/- The program's reading of a kind and of a scalar. -/
import Derived.Test.YtgpahglmhnnobaaGreatDoorValRead
import Derived.Test.YtgpahglmhnnobaaGreatDoorValCopy
import Derived.Deep.Cut
import Derived.Deep.RegionHeld3
import Derived.Deep.RegionLaw
import Derived.BigRegion
import Derived.IntWalk
namespace Go.Proofs.YtgpahglmhnnobaaGreatDoor
open Go.RowKit
set_option linter.unusedVariables false

theorem readKind_nil (base g q : Nat) (w : World) (h : Rd w base g q [] 0) :
    Calls Tryz.prog 95 #[.pointer (some ⟨g, 0, none⟩)] w fun e w' => e = .returned (.tuple #[.int .i64 0, .int .i64 10]) ∧ Only (fun k => k = g) w w' := by
  have HN := Lib.hid (RNum_not base g q 1 [] w h (by decide) (by simp))
  clear h
  go_enter Tryz.func95, Tryz.ntmps95
  go_wp2_with (first | (go_at_call 52; refine (HN.out).mono ?_; rintro e w1 ⟨rfl, R1, ho1⟩) | (go_at_call 108; refine (Err_any base g q _ 10 _ R1).mono ?_; rintro e w' ⟨rfl, rfl⟩))
  go_ret2
  exact ⟨rfl, ho1⟩
theorem readKind_bad (base g q k : Nat) (r : List Nat) (w : World) (h : Rd w base g q (k :: r) 0) (hk : ¬ (1 ≤ k ∧ k ≤ 8)) :
    Calls Tryz.prog 95 #[.pointer (some ⟨g, 0, none⟩)] w fun e w' => e = .returned (.tuple #[.int .i64 0, .int .i64 40]) ∧ Only (fun k => k = g) w w' := by
  have hkb := h.bytes k (List.mem_cons_self ..)
  have HN := RNum_there base g q 1 (k :: r) w h (by decide) (by simp)
  rw [show be ((k :: r).take 1) = k by simp [be, beFrom], List.drop_one, List.tail_cons] at HN
  have HN := Lib.hid HN
  have hw : IntKind.i64.wrap (k : Int) = (k : Int) := by rw [IntKind.wrap_i64]; omega
  have HG := Lib.hid fun w => goodKind_any (k : Int) w
  rw [gk_no (by omega)] at HG
  clear h
  go_enter Tryz.func95, Tryz.ntmps95
  go_wp2_with (first | (go_at_call 52; refine (HN.out).mono ?_; rintro e w1 ⟨rfl, R1, ho1⟩) | (go_at_call 108; refine (Err_any base g q _ 0 _ R1).mono ?_; rintro e w' ⟨rfl, rfl⟩) | (go_at_call 85; refine (HG.out _).mono ?_; rintro e w' ⟨rfl, rfl⟩))
  go_ret2
  exact ⟨rfl, ho1⟩
theorem readKind_ok (base g q k : Nat) (r : List Nat) (w : World) (h : Rd w base g q (k :: r) 0) (hk : 1 ≤ k ∧ k ≤ 8) :
    Calls Tryz.prog 95 #[.pointer (some ⟨g, 0, none⟩)] w fun e w' => e = .returned (.tuple #[.int .i64 (k : Int), .int .i64 0]) ∧ Rd w' base g q r 0 ∧ Only (fun k => k = g) w w' := by
  have HN := RNum_there base g q 1 (k :: r) w h (by decide) (by simp)
  rw [show be ((k :: r).take 1) = k by simp [be, beFrom], List.drop_one, List.tail_cons] at HN
  have HN := Lib.hid HN
  have hw : IntKind.i64.wrap (k : Int) = (k : Int) := by rw [IntKind.wrap_i64]; omega
  have HG := Lib.hid fun w => goodKind_any (k : Int) w
  rw [gk_yes (by omega)] at HG
  clear h
  go_enter Tryz.func95, Tryz.ntmps95
  go_wp2_with (first | (go_at_call 52; refine (HN.out).mono ?_; rintro e w1 ⟨rfl, R1, ho1⟩) | (go_at_call 108; refine (Err_any base g q _ 0 _ R1).mono ?_; rintro e w' ⟨rfl, rfl⟩) | (go_at_call 85; refine (HG.out _).mono ?_; rintro e w' ⟨rfl, rfl⟩))
  go_ret2
  exact ⟨rfl, R1, ho1⟩

/-- a value that was read, or the error -/
def RdPost (base g q : Nat) (v : Vv) (rest : List Nat) (err : Int) (w : World) (e : Ending) (w' : World) : Prop :=
  ∃ v' A c A' c', e = .returned (.tuple #[.agg #[.int .i64 v'.k, .int .i64 v'.n, .string v'.s, .slice A v'.ns.length c, .slice A' v'.ts.length c'], .int .i64 err]) ∧
    (err = 0 → v' = v ∧ OL ivl w' w.heap.size 2 (.slice A v.ns.length c) v.ns ∧ OL svl w' w.heap.size 9 (.slice A' v.ts.length c') v.ts ∧ Rd w' base g q rest 0) ∧ Only (fun k => k = g) w w'

theorem Only.set5 {S : Nat → Prop} {w w' : World} (h : Only S w w') {p : Nat} (hp : S p ∨ w.heap.size ≤ p) (a b c d e : Value) : Only S w (set5 w' p a b c d e) := by
  unfold Go.Proofs.YtgpahglmhnnobaaGreatDoor.set5
  exact ((((h.setCell hp _).setCell hp _).setCell hp _).setCell hp _).setCell hp _
/-- two new blocks, and what becomes of them while another one is written -/
theorem two_news {w w1 : World} {o : Obj} {cs : Array Value} {t : TypeId} {g : Nat} (hg : g < w.heap.size) (h : Only (fun k => k = g) ((w.alloc o).alloc (.cells cs t)) w1) :
    Blk w1 (w.heap.size + 1) t cs ∧ Only (fun k => k = g) w w1 := by
  constructor
  · have h1 : Blk ((w.alloc o).alloc (.cells cs t)) (w.heap.size + 1) t cs := by
      have := Blk.new (w.alloc o) t cs
      simpa using this
    exact h1.only h (by omega)
  · exact Only.trans (((Only.refl (fun k => k = g) w).alloc o).alloc (.cells cs t)) h (fun _ _ h => h)

set_option maxRecDepth 100000 in
set_option maxHeartbeats 1000000 in
theorem readScalar_any (base g q : Nat) (bs : List Nat) (k : Nat) (w : World) (h : Rd w base g q bs 0) (hl8 : bs.length ≤ 140737488355328) (hk1 : 1 ≤ k) (hk4 : k ≤ 4) :
    Calls Tryz.prog 97 #[.pointer (some ⟨g, 0, none⟩), .int .i64 (k : Int)] w (RdPost base g q (mkV k [(scalar k bs).x] [(scalar k bs).t]) (bs.drop (scalar k bs).c) (scalar k bs).e w) := by
  have hg := h.lt
  obtain ⟨o1, ho1⟩ : ∃ o, o = Obj.cells #[.int .i64 0, .int .i64 0, .string ⟨#[]⟩, .slice none 0 0, .slice none 0 0] 42 := ⟨_, rfl⟩
  obtain ⟨wo, hwo⟩ : ∃ x, x = (w.alloc o1).alloc (.cells #[.int .i64 (k : Int), .int .i64 0, .string ⟨#[]⟩, .slice none 0 0, .slice none 0 0] 42) := ⟨_, rfl⟩
  have Ro : Rd wo base g q bs 0 := by
    subst hwo
    exact (h.below ((Below.refl _ _).alloc (Nat.le_refl _) _)).below ((Below.refl _ _).alloc (Nat.le_refl _) _)
  have B1 : Blk wo w.heap.size 42 #[.int .i64 0, .int .i64 0, .string ⟨#[]⟩, .slice none 0 0, .slice none 0 0] := by subst hwo ho1; exact (Blk.new _ _ _).alloc _
  have B2 : Blk wo (w.heap.size + 1) 42 #[.int .i64 (k : Int), .int .i64 0, .string ⟨#[]⟩, .slice none 0 0, .slice none 0 0] := by
    subst hwo ho1
    have := Blk.new (w.alloc (.cells #[.int .i64 0, .int .i64 0, .string ⟨#[]⟩, .slice none 0 0, .slice none 0 0] 42)) 42 #[.int .i64 (k : Int), .int .i64 0, .string ⟨#[]⟩, .slice none 0 0, .slice none 0 0]
    simpa using this
  have hO : Only (fun k => k = g) w wo := by subst hwo; exact ((Only.refl (fun k => k = g) w).alloc _).alloc _
  have HW : Hid (wo = (w.alloc (.cells #[.int .i64 0, .int .i64 0, .string ⟨#[]⟩, .slice none 0 0, .slice none 0 0] 42)).alloc (.cells #[.int .i64 (k : Int), .int .i64 0, .string ⟨#[]⟩, .slice none 0 0, .slice none 0 0] 42)) := Lib.hid (by rw [hwo, ho1])
  unfold RdPost
  by_cases h4 : k = 4
  · subst h4
    have HR := Lib.hid (readText_any base g q bs wo Ro hl8)
    unfold ScPost vTxt at HR
    have hE : (((4 : Nat) : Int)) = (4 : Int) := rfl
    rw [hE] at HW B2 ⊢
    have hmk : ∀ x t, mkV 4 [x] [t] = ⟨4, 0, t, [], []⟩ := fun x t => rfl
    have HMK := Lib.hid hmk
    obtain ⟨S, hS⟩ : ∃ S, S = scalar 4 bs := ⟨_, rfl⟩
    rw [← hS] at HR ⊢
    clear hwo ho1 h Ro hS hmk hE
    go_enter Tryz.func97, Tryz.ntmps97
    go_wp2_with fail
    rw [← HW.out]
    refine (HR.out).mono ?_
    rintro e w1 ⟨y, rfl, hy, hc⟩
    have C1 := B1.only hc (by omega)
    have C2 := B2.only hc (by omega)
    obtain ⟨x0, x1, x2, x3, x4⟩ := box_cells C2
    obtain ⟨z0, z1, z2, z3, z4⟩ := box_cells C1
    have f2 := C2.frozen 2
    have f0 := C1.frozen 0
    have f1 := C1.frozen 1
    have f3 := C1.frozen 2
    have f4 := C1.frozen 3
    have f5 := C1.frozen 4
    have hl1 := C1.lt
    have hl2 := C2.lt
    go_wp2
    refine bodyPost_ret (v := .tuple #[.agg #[.int .i64 4, .int .i64 0, .string y.t, .slice none 0 0, .slice none 0 0], .int .i64 S.e]) (by simp [results, Tryz.results97, go_sem, *]) rfl ⟨⟨4, 0, y.t, [], []⟩, none, 0, none, 0, rfl, ?_, ?_⟩
    · intro h0
      obtain ⟨rfl, R⟩ := hy h0
      rw [HMK.out]
      refine ⟨rfl, OL.nil _ _ _ _, OL.nil _ _ _ _, Rd.only R (S := fun k => k = w.heap.size ∨ k = w.heap.size + 1) (Only.set5 ((Only.refl _ _).setCell (.inl (.inr rfl)) _) (.inl (.inl rfl)) _ _ _ _ _) (by omega) (by omega)⟩
    · exact Only.set5 ((hO.trans hc (fun _ _ h => h)).setCell (.inr (by simp)) _) (.inr (Nat.le_refl _)) _ _ _ _ _
  · have HR := Lib.hid (readNumber_any base g q bs k wo Ro (by omega))
    unfold ScPost vNum at HR
    have hmk : ∀ x t, mkV k [x] [t] = ⟨k, x, .empty, [], []⟩ := fun x t => by
      unfold mkV
      rw [if_pos (by omega), if_neg (by omega), if_neg (by omega), if_neg (by omega)]
      rfl
    have HMK := Lib.hid hmk
    have hb4 : ((k : Int) == 4) = false := by rw [beq_eq_false_iff_ne]; omega
    obtain ⟨S, hS⟩ : ∃ S, S = scalar k bs := ⟨_, rfl⟩
    rw [← hS] at HR ⊢
    clear hwo ho1 h Ro hS hmk
    go_enter Tryz.func97, Tryz.ntmps97
    go_wp2_with fail
    rw [← HW.out]
    refine (HR.out).mono ?_
    rintro e w1 ⟨y, rfl, hy, hc⟩
    have C1 := B1.only hc (by omega)
    have C2 := B2.only hc (by omega)
    obtain ⟨x0, x1, x2, x3, x4⟩ := box_cells C2
    obtain ⟨z0, z1, z2, z3, z4⟩ := box_cells C1
    have f2 := C2.frozen 1
    have f0 := C1.frozen 0
    have f1 := C1.frozen 1
    have f3 := C1.frozen 2
    have f4 := C1.frozen 3
    have f5 := C1.frozen 4
    have hl1 := C1.lt
    have hl2 := C2.lt
    go_wp2
    refine bodyPost_ret (v := .tuple #[.agg #[.int .i64 (k : Int), .int .i64 y.x, .string ⟨#[]⟩, .slice none 0 0, .slice none 0 0], .int .i64 S.e]) (by simp [results, Tryz.results97, go_sem, *]) rfl ⟨⟨k, y.x, .empty, [], []⟩, none, 0, none, 0, rfl, ?_, ?_⟩
    · intro h0
      obtain ⟨rfl, R⟩ := hy h0
      rw [HMK.out]
      refine ⟨rfl, OL.nil _ _ _ _, OL.nil _ _ _ _, Rd.only R (S := fun k => k = w.heap.size ∨ k = w.heap.size + 1) (Only.set5 ((Only.refl _ _).setCell (.inl (.inr rfl)) _) (.inl (.inl rfl)) _ _ _ _ _) (by omega) (by omega)⟩
    · exact Only.set5 ((hO.trans hc (fun _ _ h => h)).setCell (.inr (by simp)) _) (.inr (Nat.le_refl _)) _ _ _ _ _

theorem keep_only {S : Nat → Prop} {w w' : World} {α : Type} {f : α → Value} {base : Nat} {t : TypeId} {v : Value} {L : List α} (h : OL f w base t v L) (ho : Only S w w') (hS : ∀ k, S k → k < base) : OL f w' base t v L :=
  h.only ho fun g hg hs => by have := (h.2.lt g hg).1; have := hS g hs; omega

end Go.Proofs.YtgpahglmhnnobaaGreatDoor
