/- lexer: the scanner: take, word, number. -/
import Derived.Test.YthmgkjfohkadoaaGreatDoorLxC
import Derived.Test.YthmgkjfohkadoaaGreatDoorLxRes
namespace Go.Proofs.YthmgkjfohkadoaaGreatDoor
open Go.RowKit
set_option linter.unusedVariables false

theorem sc_piece (s : ByteArray) (p k : Nat) : s.extract p (p + k) = mkS (((lS s).drop p).take k) := by
  apply ByteArray.ext
  apply Array.toList_inj.1
  simp [mkS, lS]
theorem tw_take (f : UInt8 → Bool) (l : Bs) : l.take (l.takeWhile f).length = l.takeWhile f := by
  have h : l.takeWhile f ++ l.dropWhile f = l := List.takeWhile_append_dropWhile
  generalize l.takeWhile f = a at h ⊢
  rw [← h]
  exact List.take_left
/-- a token's cells -/
def tkC (t : Tk) : Array Value := #[.int .i64 t.k, .string (mkS t.t), .int .i64 t.n, .int .i64 (t.p : Int)]
def tkV (t : Tk) : Value := .agg (tkC t)
abbrev tkZ : Array Value := #[.int .i64 0, .string ⟨#[]⟩, .int .i64 0, .int .i64 0]
/-- take: the byte here and those behind it that belong to it -/
def TakW (S : Fp) (lst : List Ass) (w0 : World) (g : Nat) (s : ByteArray) (p : Nat) (f : UInt8 → Bool) (e : Ending) (w' : World) : Prop :=
  e = .returned (.string (mkS (((lS s).drop p).take (1 + (((lS s).drop (p + 1)).takeWhile f).length)))) ∧ St S (ScA g s (p + (1 + (((lS s).drop (p + 1)).takeWhile f).length)) :: lst) w0 w' ∧ LxK g w'
set_option maxRecDepth 100000 in
set_option maxHeartbeats 1000000 in
theorem take_word {S : Fp} {lst : List Ass} [Stable (Sep lst)] {w0 w : World} (g p : Nat) (s : ByteArray) (h : St S (ScA g s p :: lst) w0 w) (hp : p < s.size) (hs : s.size ≤ 1073741824) (hK : LxK g w) :
    Calls Tryz.prog 37 #[.pointer (some ⟨g, 0, none⟩), .func (.func 38) #[] #[]] w (TakW S lst w0 g s p lxW) := by
  unfold TakW
  obtain ⟨c0, c1, f1, g0⟩ := sc_cells h
  have HLN : Hid ((lS s).length = s.size) := Lib.hid (lS_len s)
  have HX : Hid (∀ k (h' : k < s.size), ∃ x, s[k]'h' = x ∧ (lS s).drop k = x :: (lS s).drop (k + 1)) := Lib.hid (sc_at s)
  obtain ⟨K, hK0⟩ : ∃ K, K = (((lS s).drop (p + 1)).takeWhile lxW).length := ⟨_, rfl⟩
  rw [← hK0]
  have hKn : p + 1 + K ≤ s.size := by
    have := tw_le lxW ((lS s).drop (p + 1))
    rw [List.length_drop, lS_len] at this
    omega
  have HMV : Hid (∀ q (k : Nat), k = p + 1 + K → s.extract p k = mkS (((lS s).drop p).take (1 + K)) ∧ St S (ScA g s (p + (1 + K)) :: lst) w0 ((w.drewN q).setCell ⟨g, 1, none⟩ (.int .i64 (k : Int))) ∧ LxK g ((w.drewN q).setCell ⟨g, 1, none⟩ (.int .i64 (k : Int)))) := Lib.hid fun q k hk =>
    ⟨by rw [hk, Nat.add_assoc]; exact sc_piece s p (1 + K), sc_move (h.drewN q) (p + (1 + K)) _ (by omega), (hK.drewN q).set 1 _⟩
  have HK0 := Lib.hid hK0
  clear h hK hK0
  go_enter Tryz.func37, Tryz.ntmps37
  go_wp2
  go_loopw [5] (fun i wr => ∃ k : Nat, p + 1 ≤ k ∧ k ≤ s.size ∧ i = .int .i64 k ∧ Hid (K + (p + 1) = k + (((lS s).drop k).takeWhile lxW).length) ∧ w = wr) (fun i _ => s.size - (intOf i).toNat)
  case atStart => exact ⟨p + 1, Nat.le_refl _, by omega, by go_num, Lib.hid (by rw [HK0.out]; omega), by first | rfl | trivial⟩
  case round =>
    obtain ⟨k, hk1, hk2, rfl, HT, rfl⟩ := hrel
    have FIN : Hid (((lS s).drop k).takeWhile lxW = [] → k = p + 1 + K) := Lib.hid fun h => by
      have := HT.out
      rw [h, List.length_nil] at this
      omega
    by_cases hlt : k < s.size
    · obtain ⟨x, hx, hdr⟩ := HX.out k hlt
      cases hf : lxW x with
      | true =>
        have HC : Hid (∀ w, Calls Tryz.prog 38 #[.int .u8 (x.toNat : Int)] w fun e w' => e = .returned (.bool true) ∧ w = w') := Lib.hid fun w => by
          have h := continuesWord_any x w
          rw [hf] at h
          exact h
        have HT2 : Hid (K + (p + 1) = k + 1 + (((lS s).drop (k + 1)).takeWhile lxW).length) := Lib.hid (by
          have := HT.out
          rw [hdr, List.takeWhile_cons_of_pos hf, List.length_cons] at this
          omega)
        clear hdr hf FIN HT
        go_wp2_with fail
        refine (HC.out _).mono ?_
        rintro e w' ⟨rfl, rfl⟩
        go_wp2
        go_roundw
        case rel => exact ⟨k + 1, by omega, by omega, by go_num, HT2, by first | rfl | trivial⟩
        case measure => simp [intOf]; omega
      | false =>
        have HC : Hid (∀ w, Calls Tryz.prog 38 #[.int .u8 (x.toNat : Int)] w fun e w' => e = .returned (.bool false) ∧ w = w') := Lib.hid fun w => by
          have h := continuesWord_any x w
          rw [hf] at h
          exact h
        have hke := FIN.out (by rw [hdr, List.takeWhile_cons_of_neg (by rw [hf]; decide)])
        have HKE := Lib.hid hke
        have i1 : (0 : Int) ≤ (p : Int) := by omega
        have i2 : (p : Int) ≤ (k : Int) := by omega
        have i3 : (k : Int) ≤ (s.size : Int) := by omega
        clear hdr hf FIN HT hke HX
        go_wp2_with fail
        refine (HC.out _).mono ?_
        rintro e w' ⟨rfl, rfl⟩
        go_wp2
        go_quiet (fail)
        go_wp2
        go_ret
        obtain ⟨e1, e2, e3⟩ := HMV.out _ k HKE.out
        exact ⟨congrArg (fun z => Ending.returned (.string z)) e1, e2, e3⟩
    · have hke := FIN.out (by rw [List.drop_of_length_le (by rw [HLN.out]; omega)]; rfl)
      have HKE := Lib.hid hke
      have i1 : (0 : Int) ≤ (p : Int) := by omega
      have i2 : (p : Int) ≤ (k : Int) := by omega
      have i3 : (k : Int) ≤ (s.size : Int) := by omega
      clear FIN HT hke HX
      go_wp2
      go_quiet (fail)
      go_wp2
      go_ret
      obtain ⟨e1, e2, e3⟩ := HMV.out _ k HKE.out
      exact ⟨congrArg (fun z => Ending.returned (.string z)) e1, e2, e3⟩
set_option maxRecDepth 100000 in
set_option maxHeartbeats 1000000 in
theorem take_number {S : Fp} {lst : List Ass} [Stable (Sep lst)] {w0 w : World} (g p : Nat) (s : ByteArray) (h : St S (ScA g s p :: lst) w0 w) (hp : p < s.size) (hs : s.size ≤ 1073741824) (hK : LxK g w) :
    Calls Tryz.prog 37 #[.pointer (some ⟨g, 0, none⟩), .func (.func 41) #[] #[]] w (TakW S lst w0 g s p lxN) := by
  unfold TakW
  obtain ⟨c0, c1, f1, g0⟩ := sc_cells h
  have HLN : Hid ((lS s).length = s.size) := Lib.hid (lS_len s)
  have HX : Hid (∀ k (h' : k < s.size), ∃ x, s[k]'h' = x ∧ (lS s).drop k = x :: (lS s).drop (k + 1)) := Lib.hid (sc_at s)
  obtain ⟨K, hK0⟩ : ∃ K, K = (((lS s).drop (p + 1)).takeWhile lxN).length := ⟨_, rfl⟩
  rw [← hK0]
  have hKn : p + 1 + K ≤ s.size := by
    have := tw_le lxN ((lS s).drop (p + 1))
    rw [List.length_drop, lS_len] at this
    omega
  have HMV : Hid (∀ q (k : Nat), k = p + 1 + K → s.extract p k = mkS (((lS s).drop p).take (1 + K)) ∧ St S (ScA g s (p + (1 + K)) :: lst) w0 ((w.drewN q).setCell ⟨g, 1, none⟩ (.int .i64 (k : Int))) ∧ LxK g ((w.drewN q).setCell ⟨g, 1, none⟩ (.int .i64 (k : Int)))) := Lib.hid fun q k hk =>
    ⟨by rw [hk, Nat.add_assoc]; exact sc_piece s p (1 + K), sc_move (h.drewN q) (p + (1 + K)) _ (by omega), (hK.drewN q).set 1 _⟩
  have HK0 := Lib.hid hK0
  clear h hK hK0
  go_enter Tryz.func37, Tryz.ntmps37
  go_wp2
  go_loopw [5] (fun i wr => ∃ k : Nat, p + 1 ≤ k ∧ k ≤ s.size ∧ i = .int .i64 k ∧ Hid (K + (p + 1) = k + (((lS s).drop k).takeWhile lxN).length) ∧ w = wr) (fun i _ => s.size - (intOf i).toNat)
  case atStart => exact ⟨p + 1, Nat.le_refl _, by omega, by go_num, Lib.hid (by rw [HK0.out]; omega), by first | rfl | trivial⟩
  case round =>
    obtain ⟨k, hk1, hk2, rfl, HT, rfl⟩ := hrel
    have FIN : Hid (((lS s).drop k).takeWhile lxN = [] → k = p + 1 + K) := Lib.hid fun h => by
      have := HT.out
      rw [h, List.length_nil] at this
      omega
    by_cases hlt : k < s.size
    · obtain ⟨x, hx, hdr⟩ := HX.out k hlt
      cases hf : lxN x with
      | true =>
        have HC : Hid (∀ w, Calls Tryz.prog 41 #[.int .u8 (x.toNat : Int)] w fun e w' => e = .returned (.bool true) ∧ w = w') := Lib.hid fun w => by
          have h := continuesNumber_any x w
          rw [hf] at h
          exact h
        have HT2 : Hid (K + (p + 1) = k + 1 + (((lS s).drop (k + 1)).takeWhile lxN).length) := Lib.hid (by
          have := HT.out
          rw [hdr, List.takeWhile_cons_of_pos hf, List.length_cons] at this
          omega)
        clear hdr hf FIN HT
        go_wp2_with fail
        refine (HC.out _).mono ?_
        rintro e w' ⟨rfl, rfl⟩
        go_wp2
        go_roundw
        case rel => exact ⟨k + 1, by omega, by omega, by go_num, HT2, by first | rfl | trivial⟩
        case measure => simp [intOf]; omega
      | false =>
        have HC : Hid (∀ w, Calls Tryz.prog 41 #[.int .u8 (x.toNat : Int)] w fun e w' => e = .returned (.bool false) ∧ w = w') := Lib.hid fun w => by
          have h := continuesNumber_any x w
          rw [hf] at h
          exact h
        have hke := FIN.out (by rw [hdr, List.takeWhile_cons_of_neg (by rw [hf]; decide)])
        have HKE := Lib.hid hke
        have i1 : (0 : Int) ≤ (p : Int) := by omega
        have i2 : (p : Int) ≤ (k : Int) := by omega
        have i3 : (k : Int) ≤ (s.size : Int) := by omega
        clear hdr hf FIN HT hke HX
        go_wp2_with fail
        refine (HC.out _).mono ?_
        rintro e w' ⟨rfl, rfl⟩
        go_wp2
        go_quiet (fail)
        go_wp2
        go_ret
        obtain ⟨e1, e2, e3⟩ := HMV.out _ k HKE.out
        exact ⟨congrArg (fun z => Ending.returned (.string z)) e1, e2, e3⟩
    · have hke := FIN.out (by rw [List.drop_of_length_le (by rw [HLN.out]; omega)]; rfl)
      have HKE := Lib.hid hke
      have i1 : (0 : Int) ≤ (p : Int) := by omega
      have i2 : (p : Int) ≤ (k : Int) := by omega
      have i3 : (k : Int) ≤ (s.size : Int) := by omega
      clear FIN HT hke HX
      go_wp2
      go_quiet (fail)
      go_wp2
      go_ret
      obtain ⟨e1, e2, e3⟩ := HMV.out _ k HKE.out
      exact ⟨congrArg (fun z => Ending.returned (.string z)) e1, e2, e3⟩
end Go.Proofs.YthmgkjfohkadoaaGreatDoor
