/- slots: what is packed is unpacked again. No function of the program is named here. -/
import Derived.Test.YtgpahglmhnnobaaGreatDoorSlPure3
import Derived.Test.YtgpahglmhnnobaaGreatDoorSlOver
namespace Go.Proofs.YtgpahglmhnnobaaGreatDoor
open Go.RowKit
set_option linter.unusedVariables false
set_option linter.unusedSimpArgs false

def inP : Pk → List Kv → List Kv
  | _, [] => []
  | p, x :: L => if needK x ≤ p.left then x :: inP (pkPut p x) L else inP (pkPut p x) L
def outP : Pk → List Kv → List Kv
  | _, [] => []
  | p, x :: L => if needK x ≤ p.left then outP (pkPut p x) L else x :: outP (pkPut p x) L
theorem run_parts : ∀ (L : List Kv) (p : Pk), (pkRun p L).2 = 0 → (pkRun p L).1.sl = p.sl ++ (inP p L).flatMap inB ∧ (pkRun p L).1.ov = p.ov ++ (outP p L).flatMap outB ∧ (inP p L ++ outP p L).Perm L ∧ ∀ x ∈ L, 0 ≤ x.k ∧ x.k < 200 ∧ chk x.v = 0
  | [], p, _ => ⟨by simp [pkRun, inP], by simp [pkRun, outP], by simp [inP, outP], fun x hx => nomatch hx⟩
  | x :: L, p, h => by
    by_cases he : pkErr p.key x = 0
    · rw [pkRun_ok he] at h ⊢
      obtain ⟨h1, h2, h3, h4⟩ := run_parts L (pkPut p x) h
      obtain ⟨k1, k2, _, k4⟩ := pkErr_zero he
      have hall : ∀ y ∈ x :: L, 0 ≤ y.k ∧ y.k < 200 ∧ chk y.v = 0 := fun y hy => by
        rcases List.mem_cons.1 hy with rfl | hy
        · exact ⟨k1, k2, k4⟩
        · exact h4 y hy
      rw [h1, h2]
      by_cases hn : needK x ≤ p.left
      · have e1 : inP p (x :: L) = x :: inP (pkPut p x) L := if_pos hn
        have e2 : outP p (x :: L) = outP (pkPut p x) L := if_pos hn
        rw [e1, e2]
        refine ⟨?_, ?_, h3.cons x, hall⟩
        · rw [pkPut_in hn, List.flatMap_cons, List.append_assoc]
        · rw [pkPut_in hn]
      · have e1 : inP p (x :: L) = inP (pkPut p x) L := if_neg hn
        have e2 : outP p (x :: L) = x :: outP (pkPut p x) L := if_neg hn
        rw [e1, e2]
        refine ⟨?_, ?_, List.perm_middle.trans (h3.cons x), hall⟩
        · rw [pkPut_out hn]
        · rw [pkPut_out hn, List.flatMap_cons, List.append_assoc]
    · rw [pkRun_no he] at h
      exact absurd h he
/-- what a right property is -/
structure KvGood (x : Kv) : Prop where
  k : 0 ≤ x.k ∧ x.k < 200
  c : chk x.v = 0
  o : Vok x.v
theorem be_key {x : Kv} (h : KvGood x) : be (keyB x) = (x.k + 1).toNat := by
  unfold keyB
  have := h.k
  exact be_enc' (by have h1 : (256 : Nat) ^ 2 = 65536 := by decide
                    omega)
theorem keyB_len (x : Kv) : (keyB x).length = 2 := by unfold keyB; rw [enc_length]
theorem zeros_nth (n j : Nat) : nth (List.replicate n 0) j = 0 := by
  unfold nth
  rw [List.getD_eq_getElem?_getD, List.getElem?_replicate]
  split <;> rfl
theorem allZ_zeros (n : Nat) : allZ (List.replicate n 0) = true := allZ_yes fun j _ => zeros_nth n j
theorem be_zeros : ∀ n, be (List.replicate n 0) = 0 := by
  intro n
  induction n with
  | zero => rfl
  | succ n ih => rw [List.replicate_succ]; unfold be at *; exact ih
theorem inS_zeros (z : Nat) : inS (List.replicate (8 * z) 0) = some [] := by
  by_cases h : z = 0
  · subst h
    exact inS_nil (by simp)
  · have h0 : (List.replicate (8 * z) 0).length ≠ 0 := by rw [List.length_replicate]; omega
    rw [inS_zero h0 (by unfold slN; rw [List.take_replicate]; exact be_zeros _), if_pos (allZ_zeros _)]
theorem inS_cat : ∀ (A : List Kv) (z : Nat), (∀ x ∈ A, KvGood x) → inS (A.flatMap inB ++ List.replicate (8 * z) 0) = some A
  | [], z, _ => by simpa using inS_zeros z
  | x :: A, z, h => by
    have hx := h x (List.mem_cons_self ..)
    have ih := inS_cat A z fun y hy => h y (List.mem_cons_of_mem _ hy)
    obtain ⟨R, hR⟩ : ∃ R, R = A.flatMap inB ++ List.replicate (8 * z) 0 := ⟨_, rfl⟩
    have hb : (x :: A).flatMap inB ++ List.replicate (8 * z) 0 = inB x ++ R := by rw [List.flatMap_cons, List.append_assoc, hR]
    rw [hb]
    rw [← hR] at ih
    obtain ⟨n, hn⟩ : ∃ n, n = (encB x.v).length := ⟨_, rfl⟩
    obtain ⟨Z, hZ⟩ : ∃ Z, Z = List.replicate (need n * 8 - 2 - n) 0 := ⟨_, rfl⟩
    have hin : inB x ++ R = keyB x ++ (encB x.v ++ (Z ++ R)) := by
      unfold inB
      rw [← hn, ← hZ, List.append_assoc, List.append_assoc]
    have hl := inB_len x
    have hnr := need_room n
    have e1 : slN (inB x ++ R) = (x.k + 1).toNat := by
      unfold slN
      rw [hin, List.take_append_of_le_length (by rw [keyB_len]; omega), List.take_of_length_le (by rw [keyB_len]; omega), be_key hx]
    have e2 : slT (inB x ++ R) = encB x.v ++ (Z ++ R) := by
      unfold slT
      rw [hin, List.drop_left' (keyB_len x)]
    obtain ⟨p1, p2, p3⟩ := pref_there ((right_iff x.v).1 hx.c) hx.o (Z ++ R)
    have e3 : slW (inB x ++ R) = (inB x).length := by
      unfold slW
      rw [e2, p3, hl]
      rfl
    have e4 : allZ (slPad (inB x ++ R)) = true := by
      have : slPad (inB x ++ R) = Z := by
        unfold slPad
        rw [e3, List.take_left, e2, p3, ← hn]
        unfold inB
        rw [← hn, ← hZ]
        exact List.drop_left' (by rw [List.length_append, keyB_len, hn])
      rw [this, hZ]
      exact allZ_zeros _
    have hk := hx.k
    have e5 : ((slN (inB x ++ R) : Nat) : Int) - 1 = x.k := by rw [e1]; omega
    have hok : slOk (inB x ++ R) = true := by
      unfold slOk
      rw [e5, isTok_yes hk, e2, p1, e4]
      rfl
    have hkv : slKv (inB x ++ R) = x := by
      unfold slKv
      rw [e5, e2, p2]
    have h0 : (inB x ++ R).length ≠ 0 := by
      rw [List.length_append, hl]
      have := need_pos (encB x.v).length
      unfold needK
      omega
    rw [inS_ok h0 (by rw [e1]; omega) hok, e3, List.drop_left, ih, hkv]
    rfl
theorem inO_cat : ∀ (A : List Kv), (∀ x ∈ A, KvGood x) → inO (A.flatMap outB) = some A
  | [], _ => inO_nil rfl
  | x :: A, h => by
    have hx := h x (List.mem_cons_self ..)
    have ih := inO_cat A fun y hy => h y (List.mem_cons_of_mem _ hy)
    obtain ⟨R, hR⟩ : ∃ R, R = A.flatMap outB := ⟨_, rfl⟩
    rw [← hR] at ih
    rw [List.flatMap_cons, ← hR]
    obtain ⟨n, hn⟩ : ∃ n, n = (encB x.v).length := ⟨_, rfl⟩
    have hsm := encB_small hx.c
    rw [← hn] at hsm
    have hin : outB x ++ R = keyB x ++ (enc 2 n ++ (encB x.v ++ R)) := by
      unfold outB
      rw [← hn, List.append_assoc, List.append_assoc]
    have hl : (outB x ++ R).length = 4 + n + R.length := by rw [List.length_append, outB_len, hn]
    have e1 : ovN (outB x ++ R) = (x.k + 1).toNat := by
      unfold ovN
      rw [hin, List.take_append_of_le_length (by rw [keyB_len]; omega), List.take_of_length_le (by rw [keyB_len]; omega), be_key hx]
    have e2 : ovL (outB x ++ R) = n := by
      unfold ovL
      rw [hin, List.drop_left' (keyB_len x), List.take_append_of_le_length (by rw [enc_length]; omega), List.take_of_length_le (by rw [enc_length]; omega)]
      exact be_enc' (by have h1 : (256 : Nat) ^ 2 = 65536 := by decide
                        omega)
    have e3 : ovD (outB x ++ R) = encB x.v := by
      unfold ovD
      rw [e2, hin, ← List.append_assoc, List.drop_left' (by rw [List.length_append, keyB_len, enc_length]), List.take_append_of_le_length (by omega), List.take_of_length_le (by omega)]
    obtain ⟨p1, p2, p3⟩ := pref_there ((right_iff x.v).1 hx.c) hx.o []
    rw [List.append_nil] at p1 p2 p3
    obtain ⟨d1, d2⟩ := dec_ok p1 (by rw [p3]; omega)
    have hk := hx.k
    have e5 : ((ovN (outB x ++ R) : Nat) : Int) - 1 = x.k := by rw [e1]; omega
    have hok : ovOk (outB x ++ R) = true := by
      unfold ovOk
      rw [e5, isTok_yes hk, e3, d1, e2, hl, decide_eq_true (show 4 ≤ 4 + n + R.length by omega), decide_eq_true (show 4 + n ≤ 4 + n + R.length by omega)]
      rfl
    have hkv : ovKv (outB x ++ R) = x := by
      unfold ovKv
      rw [e5, e3, d2, p2]
    have hd : (outB x ++ R).drop (4 + ovL (outB x ++ R)) = R := by
      rw [e2]
      exact List.drop_left' (by rw [outB_len, hn])
    rw [inO_ok (by rw [hl]; omega) hok, hd, ih, hkv]
    rfl
theorem run_ok : ∀ (L : List Kv) (p : Pk) (room n : Nat), PkOk room n p → (pkRun p L).2 = 0 → PkOk room (n + L.length) (pkRun p L).1
  | [], p, room, n, h, _ => h
  | x :: L, p, room, n, h, he => by
    by_cases hx : pkErr p.key x = 0
    · rw [pkRun_ok hx] at he ⊢
      have := run_ok L (pkPut p x) room (n + 1) (h.put hx) he
      rw [List.length_cons, show n + (L.length + 1) = n + 1 + L.length by omega]
      exact this
    · rw [pkRun_no hx] at he
      exact absurd he hx
/-- a list that is packed, and what is packed of it -/
theorem pack_facts {L : List Kv} {room : Int} (h : packE L room = 0) : 0 ≤ room ∧ room ≤ 16 ∧ L.length ≤ 16 ∧ (pkRun (pk0 room.toNat) L).2 = 0 ∧ (packS L room).length = 8 * room.toNat := by
  have h0 := h
  unfold packE at h
  split at h
  · omega
  · split at h
    · omega
    · have hok := (run_ok L _ _ 0 (PkOk.start room.toNat) h).sl
      refine ⟨by omega, by omega, by omega, h, ?_⟩
      unfold packS
      rw [if_pos h0, List.length_append, List.length_replicate]
      omega
theorem unp_there {L : List Kv} {room : Int} (h : packE L room = 0) (hv : ∀ x ∈ L, Vok x.v) : unpR (packS L room) (packO L room) = (0, L) := by
  obtain ⟨r0, r1, hl, hrun, hsl⟩ := pack_facts h
  obtain ⟨h1, h2, h3, h4⟩ := run_parts L _ hrun
  have hS : packS L room = (inP (pk0 room.toNat) L).flatMap inB ++ List.replicate (8 * (pkRun (pk0 room.toNat) L).1.left) 0 := by
    unfold packS
    rw [if_pos h, h1]
    rfl
  have hO : packO L room = (outP (pk0 room.toNat) L).flatMap outB := by
    unfold packO
    rw [if_pos h, h2]
    rfl
  have hg : ∀ x ∈ L, KvGood x := fun x hx => ⟨⟨(h4 x hx).1, (h4 x hx).2.1⟩, (h4 x hx).2.2, hv x hx⟩
  have hi := inS_cat (inP (pk0 room.toNat) L) (pkRun (pk0 room.toNat) L).1.left fun x hx => hg x (h3.subset (List.mem_append.2 (.inl hx)))
  have ho := inO_cat (outP (pk0 room.toNat) L) fun x hx => hg x (h3.subset (List.mem_append.2 (.inr hx)))
  rw [← hS] at hi
  rw [← hO] at ho
  have hlen := h3.length_eq
  rw [List.length_append] at hlen
  rw [unp_fits (by rw [hsl]; omega) hi ho (by omega)]
  have hperm := (srtK_perm (inP (pk0 room.toNat) L ++ outP (pk0 room.toNat) L)).trans h3
  have he : L = srtK (inP (pk0 room.toNat) L ++ outP (pk0 room.toNat) L) := asc_eq hperm.symm (pack_asc h) (srtK_asc _)
  rw [← he]
  have hroom : (((packS L room).length / 8 : Nat) : Int) = room := by rw [hsl, Nat.mul_div_cancel_left _ (by decide)]; omega
  have hf : fitsB L (packS L room) (packO L room) = true := by
    unfold fitsB
    rw [hroom, h]
    simp
  rw [if_pos hf]
end Go.Proofs.YtgpahglmhnnobaaGreatDoor
