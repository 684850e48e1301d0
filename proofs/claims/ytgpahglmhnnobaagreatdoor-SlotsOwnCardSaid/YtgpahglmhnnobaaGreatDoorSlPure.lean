/- slots: what is packed. No function of the program is named here. -/
import Derived.Test.YtgpahglmhnnobaaGreatDoorSlBase
namespace Go.Proofs.YtgpahglmhnnobaaGreatDoor
open Go.RowKit
set_option linter.unusedVariables false

/-- how many slots so many bytes take with a key -/
def need (n : Nat) : Nat := (n + 9) / 8
theorem need_room (n : Nat) : n + 2 ≤ 8 * need n ∧ 8 * need n < n + 10 := by unfold need; omega
/-- what the packer holds -/
structure Pk where
  sl : List Nat
  ov : List Nat
  left : Nat
  key : Int
def keyB (x : Kv) : List Nat := enc 2 (x.k + 1).toNat
/-- a property in place -/
def inB (x : Kv) : List Nat := keyB x ++ encB x.v ++ List.replicate (need (encB x.v).length * 8 - 2 - (encB x.v).length) 0
/-- a property beside -/
def outB (x : Kv) : List Nat := keyB x ++ enc 2 (encB x.v).length ++ encB x.v
def needK (x : Kv) : Nat := need (encB x.v).length
def pkPut (p : Pk) (x : Kv) : Pk := if needK x ≤ p.left then ⟨p.sl ++ inB x, p.ov, p.left - needK x, x.k⟩ else ⟨p.sl, p.ov ++ outB x, p.left, x.k⟩
/-- what is wrong with the next property -/
def pkErr (key : Int) (x : Kv) : Int := if x.k < 0 ∨ 200 ≤ x.k then 110 else if x.k ≤ key then 6 else chk x.v
def pkRun : Pk → List Kv → Pk × Int
  | p, [] => (p, 0)
  | p, x :: L => if pkErr p.key x = 0 then pkRun (pkPut p x) L else (p, pkErr p.key x)
def pk0 (room : Nat) : Pk := ⟨[], [], room, -1⟩
def packE (L : List Kv) (room : Int) : Int := if room < 0 ∨ 16 < room then 2 else if 16 < L.length then 64 else (pkRun (pk0 room.toNat) L).2
def packS (L : List Kv) (room : Int) : List Nat := if packE L room = 0 then (pkRun (pk0 room.toNat) L).1.sl ++ List.replicate (8 * (pkRun (pk0 room.toNat) L).1.left) 0 else []
def packO (L : List Kv) (room : Int) : List Nat := if packE L room = 0 then (pkRun (pk0 room.toNat) L).1.ov else []
theorem pkPut_in {p : Pk} {x : Kv} (h : needK x ≤ p.left) : pkPut p x = ⟨p.sl ++ inB x, p.ov, p.left - needK x, x.k⟩ := if_pos h
theorem pkPut_out {p : Pk} {x : Kv} (h : ¬ needK x ≤ p.left) : pkPut p x = ⟨p.sl, p.ov ++ outB x, p.left, x.k⟩ := if_neg h
theorem pkRun_ok {p : Pk} {x : Kv} {L : List Kv} (h : pkErr p.key x = 0) : pkRun p (x :: L) = pkRun (pkPut p x) L := by rw [pkRun, if_pos h]
theorem pkRun_no {p : Pk} {x : Kv} {L : List Kv} (h : pkErr p.key x ≠ 0) : pkRun p (x :: L) = (p, pkErr p.key x) := by rw [pkRun, if_neg h]
theorem pkErr_tok {key : Int} {x : Kv} (h : x.k < 0 ∨ 200 ≤ x.k) : pkErr key x = 110 := if_pos h
theorem pkErr_ord {key : Int} {x : Kv} (h : ¬ (x.k < 0 ∨ 200 ≤ x.k)) (h2 : x.k ≤ key) : pkErr key x = 6 := by unfold pkErr; rw [if_neg h, if_pos h2]
theorem pkErr_chk {key : Int} {x : Kv} (h : ¬ (x.k < 0 ∨ 200 ≤ x.k)) (h2 : ¬ x.k ≤ key) : pkErr key x = chk x.v := by unfold pkErr; rw [if_neg h, if_neg h2]
theorem pkErr_zero {key : Int} {x : Kv} (h : pkErr key x = 0) : 0 ≤ x.k ∧ x.k < 200 ∧ key < x.k ∧ chk x.v = 0 := by
  unfold pkErr at h
  split at h
  · omega
  · split at h
    · omega
    · exact ⟨by omega, by omega, by omega, h⟩
theorem inB_len (x : Kv) : (inB x).length = 8 * needK x := by
  have h := need_room (encB x.v).length
  unfold inB keyB needK
  rw [List.length_append, List.length_append, enc_length, List.length_replicate]
  omega
theorem outB_len (x : Kv) : (outB x).length = 4 + (encB x.v).length := by
  unfold outB keyB
  rw [List.length_append, List.length_append, enc_length, enc_length]
theorem encB_small {v : Vv} (h : chk v = 0) : (encB v).length ≤ 40402 := encB_le ((right_iff v).1 h)
theorem outB_le {x : Kv} (h : chk x.v = 0) : (outB x).length ≤ 40406 := by rw [outB_len]; have := encB_small h; omega
/-- what a packer that has begun with so many slots holds -/
structure PkOk (room : Nat) (n : Nat) (p : Pk) : Prop where
  sl : p.sl.length + 8 * p.left = 8 * room
  ov : p.ov.length ≤ 40406 * n
  key : -1 ≤ p.key ∧ p.key < 200
theorem PkOk.put {room n : Nat} {p : Pk} {x : Kv} (h : PkOk room n p) (he : pkErr p.key x = 0) : PkOk room (n + 1) (pkPut p x) := by
  obtain ⟨k1, k2, k3, k4⟩ := pkErr_zero he
  obtain ⟨h1, h2, h3⟩ := h
  by_cases hn : needK x ≤ p.left
  · rw [pkPut_in hn]
    refine ⟨?_, ?_, ⟨by show -1 ≤ x.k; omega, k2⟩⟩
    · show (p.sl ++ inB x).length + 8 * (p.left - needK x) = 8 * room
      rw [List.length_append, inB_len]
      omega
    · show p.ov.length ≤ 40406 * (n + 1)
      omega
  · rw [pkPut_out hn]
    refine ⟨h1, ?_, ⟨by show -1 ≤ x.k; omega, k2⟩⟩
    show (p.ov ++ outB x).length ≤ 40406 * (n + 1)
    rw [List.length_append]
    have := outB_le (x := x) k4
    omega
theorem PkOk.start (room : Nat) : PkOk room 0 (pk0 room) := ⟨by simp [pk0], by simp [pk0], by simp [pk0]⟩
end Go.Proofs.YtgpahglmhnnobaaGreatDoor
