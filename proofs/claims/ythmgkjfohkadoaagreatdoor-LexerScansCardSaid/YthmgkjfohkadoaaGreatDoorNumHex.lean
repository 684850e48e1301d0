/- Layer 5: a number in base 16, as the library writes it. -/
import Derived.Test.YthmgkjfohkadoaaGreatDoorNumA
import Derived.Test.YthmgkjfohkadoaaGreatDoorBase
import Derived.LoopTactic
import Derived.Laws.BytesArg
import Derived.Deep.Cut
namespace Go.Proofs.YthmgkjfohkadoaaGreatDoor
open Go.RowKit
set_option linter.unusedVariables false

theorem tz_and : bits .and .u64 16 (IntKind.u64.wrap (-16)) = 16 := by decide +kernel
set_option maxRecDepth 100000 in
set_option maxHeartbeats 400000 in
theorem tz64 (w : World) (h : w.cell? ⟨6, 15, none⟩ = some (.int .u8 4)) :
    Calls Tryz.prog 130 #[.int .u64 16] w fun e w' => e = .returned (.int .i64 4) ∧ w = w' := by
  have e1 := tz_and
  have e2 : IntKind.u64.wrap (16 * 285870213051353865) = 4573923408821661840 := by decide +kernel
  have e3 : IntKind.u64.wrap 4573923408821661840 = 4573923408821661840 := by decide +kernel
  go_enter Tryz.func130, Tryz.ntmps130
  go_wp2
  go_ret
  exact ⟨rfl, rfl⟩
set_option maxHeartbeats 400000 in
theorem tz (w : World) (h : w.cell? ⟨6, 15, none⟩ = some (.int .u8 4)) :
    Calls Tryz.prog 126 #[.int .u64 16] w fun e w' => e = .returned (.int .i64 4) ∧ w = w' := by
  have e4 : IntKind.u64.wrap 16 = 16 := by decide +kernel
  go_enter Tryz.func126, Tryz.ntmps126
  go_wp2_with (go_at_call 130; refine (tz64 _ h).mono ?_; rintro e w' ⟨rfl, rfl⟩)
  go_ret
  exact ⟨rfl, rfl⟩

theorem lt_of_cell {w : World} {a : Addr} {v : Value} (h : w.cell? a = some v) : a.block < w.heap.size := by
  rcases Nat.lt_or_ge a.block w.heap.size with hlt | hge
  · exact hlt
  · unfold World.cell? at h; rw [Array.getElem?_eq_none hge] at h; cases h

/-- the last cells of an array of 65 are these bytes -/
def Tail65 (C : Array Value) (l : List UInt8) : Prop := C.size = 65 ∧ l.length ≤ 65 ∧ C.toList.drop (65 - l.length) = l.map fun c => Value.int .u8 (c.toNat : Int)
theorem Tail65.cons {C : Array Value} {l : List UInt8} (h : Tail65 C l) (hl : l.length < 65) (c : UInt8) : Tail65 (C.setIfInBounds (64 - l.length) (.int .u8 (c.toNat : Int))) (c :: l) := by
  obtain ⟨h1, h2, h3⟩ := h
  refine ⟨by simp [h1], by simp; omega, ?_⟩
  have hs : C.toList.length = 65 := by simpa using h1
  rw [Array.toList_setIfInBounds, List.length_cons, show 65 - (l.length + 1) = 64 - l.length by omega,
    List.drop_eq_getElem_cons (by simp; omega), List.getElem_set_self, List.drop_set_of_lt (by omega), show 64 - l.length + 1 = 65 - l.length by omega, h3]
  rfl
theorem and15 {V : Nat} (h : V < 9007199254740992) : bits .and .u64 (V : Int) 15 = ((V % 16 : Nat) : Int) := by
  have := u64_and_nat V 15 (by omega) (by omega)
  rw [show V &&& 15 = V % 16 from Nat.and_two_pow_sub_one_eq_mod V 4] at this
  exact this

theorem dig_at_fin : ∀ D : Fin 16, ∃ h : D.val < (⟨#[48, 49, 50, 51, 52, 53, 54, 55, 56, 57, 97, 98, 99, 100, 101, 102, 103, 104, 105, 106, 107, 108, 109, 110, 111, 112, 113, 114, 115, 116, 117, 118, 119, 120, 121, 122]⟩ : ByteArray).size,
    ((⟨#[48, 49, 50, 51, 52, 53, 54, 55, 56, 57, 97, 98, 99, 100, 101, 102, 103, 104, 105, 106, 107, 108, 109, 110, 111, 112, 113, 114, 115, 116, 117, 118, 119, 120, 121, 122]⟩ : ByteArray)[D.val]'h).toNat = (hexd D.val).toNat := by decide +kernel
theorem dig_at {D : Nat} (hD : D < 16) (h : D < (⟨#[48, 49, 50, 51, 52, 53, 54, 55, 56, 57, 97, 98, 99, 100, 101, 102, 103, 104, 105, 106, 107, 108, 109, 110, 111, 112, 113, 114, 115, 116, 117, 118, 119, 120, 121, 122]⟩ : ByteArray).size) :
    ((⟨#[48, 49, 50, 51, 52, 53, 54, 55, 56, 57, 97, 98, 99, 100, 101, 102, 103, 104, 105, 106, 107, 108, 109, 110, 111, 112, 113, 114, 115, 116, 117, 118, 119, 120, 121, 122]⟩ : ByteArray)[D]'h).toNat = (hexd D).toNat := (dig_at_fin ⟨D, hD⟩).2

theorem strOfNums_map (l : List UInt8) : strOfNums (l.map fun c => (c.toNat : Int)) = ⟨l.toArray⟩ := by
  have h := strOfNums_data (l.map fun c => (c.toNat : Int))
  rw [List.map_map] at h
  have e : l.map ((fun n : Int => UInt8.ofNat n.toNat) ∘ fun c => (c.toNat : Int)) = l := by
    conv => rhs; rw [← List.map_id l]
    exact List.map_congr_left fun c _ => by simp
  rw [e] at h
  generalize strOfNums (l.map fun c => (c.toNat : Int)) = s at h
  obtain ⟨⟨m⟩⟩ := s
  simp only at h
  rw [h]
theorem Tail65.get {C : Array Value} {l : List UInt8} (h : Tail65 C l) (i : Nat) : C[65 - l.length + i]? = (l[i]?).map fun c => Value.int .u8 (c.toNat : Int) := by
  have := congrArg (fun L => L[i]?) h.2.2
  simp only [List.getElem?_drop, List.getElem?_map, Array.getElem?_toList] at this
  exact this

theorem pow2_16 : bits .and .i64 16 (16 - 1) = 0 := by decide +kernel
theorem pow2_16' : bits .and .i64 16 15 = 0 := by decide +kernel
set_option maxHeartbeats 400000 in
theorem isPow (w : World) : Calls Tryz.prog 125 #[.int .i64 16] w fun e w' => e = .returned (.bool true) ∧ w = w' := by
  have e1 := pow2_16'
  have e2 : IntKind.i64.wrap 15 = 15 := by decide +kernel
  go_enter Tryz.func125, Tryz.ntmps125
  go_wp2
  go_ret
  exact ⟨rfl, rfl⟩

set_option maxRecDepth 100000 in
set_option maxHeartbeats 1000000 in
theorem formatBits16 (U : Nat) (h1 : 4503599627370496 ≤ U) (h2 : U < 9007199254740992) (w : World) (hT : w.cell? ⟨6, 15, none⟩ = some (.int .u8 4)) :
    Calls Tryz.prog 119 #[.slice none 0 0, .int .u64 U, .int .i64 16, .bool false, .bool false] w fun e w' => e = .returned (.tuple #[.slice none 0 0, .string ⟨(hexN U 14).toArray⟩]) ∧ Below w.heap.size w w' := by
  have e4 : IntKind.u64.wrap 16 = 16 := by decide +kernel
  have e5 : IntKind.u64.wrap 15 = 15 := by decide +kernel
  have e6 : IntKind.u64.wrap 4 = 4 := by decide +kernel
  go_enter Tryz.func119, Tryz.ntmps119
  go_wp2_with fail
  obtain ⟨wo, hwo⟩ : ∃ x, x = w.alloc (.cells Tryz.zeroCells148 148) := ⟨_, rfl⟩
  rw [← hwo]
  have Bo : Blk wo w.heap.size 148 Tryz.zeroCells148 := by rw [hwo]; exact Blk.new w _ _
  have hb0 : Below w.heap.size w wo := by rw [hwo]; exact (Below.refl _ _).alloc (Nat.le_refl _) _
  have hTo := (hb0.cell (p := ⟨6, 15, none⟩) (lt_of_cell hT)).trans hT
  clear hwo
  refine (isPow _).mono ?_
  rintro e w' ⟨rfl, rfl⟩
  go_wp2_with fail
  refine (tz _ hTo).mono ?_
  rintro e w' ⟨rfl, rfl⟩
  go_wp2_with fail
  go_loopw [1, 13] (fun u i wr => ∃ j : Nat, j ≤ 13 ∧ u = .int .u64 ((U / 16 ^ j : Nat) : Int) ∧ (∃ m : Nat, m + j = 65 ∧ i = .int .i64 m) ∧ Hid (∃ C, Blk wr w.heap.size 148 C ∧ Tail65 C (hexN U j)) ∧ Below w.heap.size w wr) (fun _ i _ => (intOf i).toNat)
  case atStart => exact ⟨0, by omega, by simp, ⟨65, rfl, rfl⟩, Lib.hid ⟨_, Bo, by decide +kernel, by simp [hexN], by rw [show hexN U 0 = [] from rfl]; exact List.drop_eq_nil_of_le (by rw [Array.length_toList]; decide +kernel)⟩, hb0⟩
  case round =>
    obtain ⟨j, hj, rfl, ⟨m', hm', rfl⟩, hC, hb⟩ := hrel
    obtain ⟨m, rfl⟩ : ∃ m, m' = m + 1 := ⟨m' - 1, by omega⟩
    obtain ⟨C, BC, hTl⟩ := hC.out
    obtain ⟨V, hV⟩ : ∃ V, V = U / 16 ^ j := ⟨_, rfl⟩
    rw [← hV]
    by_cases hlt : j < 13
    · have hV1 : 16 ≤ V := by
        rw [hV, Nat.le_div_iff_mul_le (Nat.pow_pos (by omega)), Nat.mul_comm, ← Nat.pow_succ]
        exact Nat.le_trans (Nat.pow_le_pow_right (by omega) (show j + 1 ≤ 13 by omega)) (by simpa using h1)
      have hV2 : V < 9007199254740992 := by rw [hV]; exact Nat.lt_of_le_of_lt (Nat.div_le_self _ _) h2
      have HV := Lib.hid hV
      clear hV hC
      have ea := and15 hV2
      have hD : V % 16 < 16 := Nat.mod_lt _ (by omega)
      obtain ⟨D, hD'⟩ : ∃ D, D = V % 16 := ⟨_, rfl⟩
      rw [← hD'] at ea hD
      have HD := Lib.hid hD'
      clear hD'
      have hsz : C.size = 65 := hTl.1
      obtain ⟨c0, hc0⟩ : ∃ c, C[m]? = some c := ⟨_, Array.getElem?_eq_getElem (show m < C.size by omega)⟩
      have hcm := (BC.cell m).trans hc0
      have hfm := BC.frozen m
      clear hsz hc0
      go_wp2
      go_roundw
      case rel =>
        refine ⟨j + 1, by omega, ?_, ⟨m, by omega, rfl⟩, Lib.hid ⟨_, BC.set_ m _, ?_⟩, hb.setCell (Nat.le_refl _) _⟩
        · rw [HV.out, Nat.pow_succ, ← Nat.div_div_eq_div_mul]; rfl
        · rw [dig_at hD, hexN_front, ← HV.out, ← HD.out]
          have := hTl.cons (by rw [hexN_len]; omega) (hexd D)
          rw [hexN_len, show 64 - j = m by omega] at this
          exact this
      case measure => simp [intOf]
    · obtain rfl : j = 13 := by omega
      obtain rfl : m = 51 := by omega
      have hV1 : V = 1 := by rw [hV]; omega
      rw [hV1]
      have hsz : C.size = 65 := hTl.1
      obtain ⟨c0, hc0⟩ : ∃ c, C[51]? = some c := ⟨_, Array.getElem?_eq_getElem (show 51 < C.size by omega)⟩
      have hcm := (BC.cell 51).trans hc0
      have hfm := BC.frozen 51
      have HV := Lib.hid hV
      have HV1 := Lib.hid hV1
      clear hsz hc0 hV hV1 hlt hC
      go_upto_region 30 with fail
      rw [dig_at (show 1 < 16 by omega)]
      obtain ⟨wz, hwz⟩ : ∃ x, x = wr.setCell ⟨w.heap.size, 51, none⟩ (.int .u8 ((hexd 1).toNat : Int)) := ⟨_, rfl⟩
      rw [← hwz]
      have BZ : Blk wz w.heap.size 148 (C.setIfInBounds 51 (.int .u8 ((hexd 1).toNat : Int))) := by rw [hwz]; exact BC.set_ 51 _
      have hT2 := hTl.cons (by rw [hexN_len]; omega) (hexd 1)
      rw [hexN_len, show hexd 1 :: hexN U 13 = hexN U 14 by rw [hexN_front 13 U, ← HV.out, HV1.out]] at hT2
      have hbz : Below w.heap.size w wz := by rw [hwz]; exact hb.setCell (Nat.le_refl _) _
      clear hwz
      have hcv := run_convert_bytes_arg (P := Tryz.prog) wz 56 5 Tryz.underlying56 Tryz.underlying5 w.heap.size 51 14 14 ((hexN U 14).map fun c => (c.toNat : Int)) (by rw [List.length_map, hexN_len]) (fun i hi => by
        rw [BZ.cell, show 51 + i = 65 - (hexN U 14).length + i by rw [hexN_len], hT2.get]
        have hl : i < (hexN U 14).length := by rw [hexN_len]; exact hi
        simp [List.getElem?_eq_getElem hl]) 9 Tryz.underlying9
      rw [strOfNums_map] at hcv
      clear hT2 BZ hcm hfm BC
      obtain ⟨S, hS⟩ : ∃ S : ByteArray, S = ⟨(hexN U 14).toArray⟩ := ⟨_, rfl⟩
      rw [← hS] at hcv
      have HS := Lib.hid hS
      clear hS HV HV1
      go_wp2
      go_ret2
      rw [HS.out]
      exact ⟨rfl, hbz⟩

set_option maxHeartbeats 400000 in
theorem formatUintIn16 (U : Nat) (h1 : 4503599627370496 ≤ U) (h2 : U < 9007199254740992) (w : World) (hT : w.cell? ⟨6, 15, none⟩ = some (.int .u8 4)) :
    Calls Tryz.prog 110 #[.int .u64 U, .int .i64 16] w fun e w' => e = .returned (.string ⟨(hexN U 14).toArray⟩) ∧ Below w.heap.size w w' := by
  go_enter Tryz.func110, Tryz.ntmps110
  go_wp2_with (go_at_call 119; refine (formatBits16 U h1 h2 _ hT).mono ?_; rintro e w' ⟨rfl, hb⟩)
  go_ret
  exact ⟨rfl, hb⟩
set_option maxHeartbeats 400000 in
theorem formatUint16 (U : Nat) (h1 : 4503599627370496 ≤ U) (h2 : U < 9007199254740992) (w : World) (hT : w.cell? ⟨6, 15, none⟩ = some (.int .u8 4)) :
    Calls Tryz.prog 100 #[.int .u64 U, .int .i64 16] w fun e w' => e = .returned (.string ⟨(hexN U 14).toArray⟩) ∧ Below w.heap.size w w' := by
  go_enter Tryz.func100, Tryz.ntmps100
  go_wp2_with (go_at_call 110; refine (formatUintIn16 U h1 h2 _ hT).mono ?_; rintro e w' ⟨rfl, hb⟩)
  go_ret
  exact ⟨rfl, hb⟩
end Go.Proofs.YthmgkjfohkadoaaGreatDoor
