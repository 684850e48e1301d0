/- recfile: what the law There needs: a masked number, made zeros, the count that keeps the objects, a step of the script. -/
import Derived.Test.YtcclcecjidlojaaDoorRfBack
import Derived.Test.YtcclcecjidlojaaDoorRfOps
import Derived.OwnWalk
namespace Go.Proofs.YtcclcecjidlojaaDoor
open Go.RowKit
set_option linter.unusedVariables false

theorem ofInt_i64 (a : Nat) (ha : a < 9223372036854775808) : (BitVec.ofInt 64 (a : Int)).toNat = a := by
  rw [BitVec.ofInt_natCast, BitVec.toNat_ofNat]; exact Nat.mod_eq_of_lt (by omega)
theorem mask_of (a : Int) (m : Nat) (hm : m ≤ 255) : ∃ n : Nat, n ≤ m ∧ bits .and .i64 a (m : Int) = (n : Int) := by
  refine ⟨(BitVec.ofInt 64 a).toNat &&& m, Nat.and_le_right, ?_⟩
  have hx : (BitVec.ofInt 64 a).toNat &&& m ≤ m := Nat.and_le_right
  show IntKind.i64.wrap ((BitVec.ofInt 64 a &&& BitVec.ofInt 64 (m : Int)).toNat : Int) = _
  rw [BitVec.toNat_and, ofInt_i64 m (by omega), IntKind.wrap_i64]
  omega
theorem made_zeros (n : Nat) : (madeCells (Value.int .u8 0).cells (n * 1)).toList = cells8 (List.replicate n 0) := by
  rw [show (Value.int .u8 0).cells = #[Value.int .u8 0] from rfl, Nat.mul_one, toList_madeCells_one]
  simp [cells8]
theorem OB.zeros {w : World} {base : Nat} {e : TypeId} {v : Value} {n : Nat} (h : w.ownsRow base e 1 v n (madeCells (Value.int .u8 0).cells (n * 1)).toList) : OB w base e v (List.replicate n 0) := by
  refine ⟨fun x hx => by rw [(List.mem_replicate.1 hx).2]; omega, ?_⟩
  rw [made_zeros] at h
  rw [List.length_replicate]
  exact h
theorem headCells {S : Fp} {l : List Ass} {w0 w : World} {g t : Nat} {K V Z : Int} (h : St S (BlkA g t #[.int .i64 K, .int .i64 V, .int .i64 Z] :: l) w0 w) :
    w.cell? ⟨g, 0, none⟩ = some (.int .i64 K) ∧ w.cell? ⟨g, 1, none⟩ = some (.int .i64 V) ∧ w.cell? ⟨g, 2, none⟩ = some (.int .i64 Z) := by
  have := h.blk.cell
  exact ⟨by rw [this]; rfl, by rw [this]; rfl, by rw [this]; rfl⟩
theorem rfCount_st {S0 : Fp} {l : List Ass} {w0 w : World} [Stable (Sep l)] {g s n : Nat} {K V lv lo : Int} {R : List Nat} (h : St S0 (RfA g K V (s : Int) R lv lo :: l) w0 w) (hs : 0 < s) (hR : R.length = n * s) (hn : n ≤ 65536) :
    Calls Tryd.prog 26 #[.pointer (some ⟨g, 0, none⟩)] w fun e w' => e = .returned (.int .i64 (n : Int)) ∧ St S0 (RfA g K V (s : Int) R lv lo :: l) w0 w' := by
  obtain ⟨A, cap, hr⟩ := rf_read h
  refine (rfCount_any hr hs hR (by omega)).mono ?_
  rintro e w' ⟨rfl, q, rfl⟩
  exact ⟨rfl, h.drewN q⟩
theorem put_step {R : List Nat} {s n lw id z : Nat} (hw : RW R s n lw) (hz : Zr R s) (hs : 2 ≤ s) (hid : id < 65536) (hzs : z + 1 = s) :
    RW (layB (takenR R s n id) (id * s + 1) (List.replicate z 0)) s (putN R s n id) lw ∧ Zr (layB (takenR R s n id) (id * s + 1) (List.replicate z 0)) s ∧
      takenL R s n id (liveN R s n : Nat) = (liveN (layB (takenR R s n id) (id * s + 1) (List.replicate z 0)) s (putN R s n id) : Nat) := by
  obtain ⟨h1, h2, h3⟩ := hw.taken (id := id) (by omega) hid
  obtain ⟨h4, h5⟩ := h1.laid (D := List.replicate z 0) (by omega) h3 (by simpa using hzs)
  refine ⟨h4, ?_, by rw [h5]; exact h2⟩
  have hzt : Zr (takenR R s n id) s := by
    unfold takenR
    split
    · exact hz
    · exact (hz.grow _).flag id
  refine hzt.lay _ _ ?_
  have hl := h1.len
  have hm : (id + 1) * s ≤ putN R s n id * s := Nat.mul_le_mul_right s h3
  rw [Nat.add_mul, Nat.one_mul] at hm
  omega
theorem free_step {R : List Nat} {s n id : Nat} (hR : R.length = n * s) (hz : Zr R s) (hid : id < n) : Zr (layB R (id * s) (List.replicate s 0)) s := by
  refine hz.lay _ _ ?_
  have hm : (id + 1) * s ≤ n * s := Nat.mul_le_mul_right s hid
  rw [Nat.add_mul, Nat.one_mul] at hm
  omega
theorem there_len {R : List Nat} {k v s n : Nat} (hR : R.length = n * s) (hn : n ≤ 65536) (hs : s ≤ 255) : (rfBytes k v s n R).length = 16 + n * s ∧ n * s ≤ 16711680 := by
  refine ⟨by rw [rfBytes_len, hR], ?_⟩
  exact Nat.le_trans (Nat.mul_le_mul hn hs) (by decide)
theorem newErr_ok {k v s : Nat} (hk : k < 256) (hv : v < 256) (h2 : 2 ≤ s) (hs : s ≤ 255) : newErr (k : Int) (v : Int) (s : Int) = 0 := by
  unfold newErr
  rw [if_pos, if_pos]
  · simp only [Bool.and_eq_true, decide_eq_true_eq]; omega
  · simp only [Bool.and_eq_true, decide_eq_true_eq]; omega
theorem wadd2 {m s : Nat} (hm : m ≤ 63) (h : s = m + 2) : wrap64 (2 + (m : Int)) = (s : Int) := by rw [rfwrap (by omega) (by omega)]; omega
theorem wadd1 {m z : Nat} (hm : m ≤ 63) (h : z = m + 1) : wrap64 (1 + (m : Int)) = (z : Int) := by rw [rfwrap (by omega) (by omega)]; omega
theorem there_facts {k v m s z : Nat} (hk : k ≤ 255) (hv : v ≤ 255) (hm : m ≤ 63) (hs : s = m + 2) (hz : z = m + 1) : 2 ≤ s ∧ s ≤ 255 ∧ z + 1 = s ∧ k < 256 ∧ v < 256 := by omega
theorem used_nat {R : List Nat} {s n x : Nat} (h : usedB R s n (x : Int) = true) : x < n ∧ nth R (x * s) = 1 := by
  obtain ⟨i, hi, h1, h2⟩ := usedB_lt' h
  have : x = i := by omega
  subst this
  exact ⟨h1, h2⟩
theorem opCells {S : Fp} {l : List Ass} {w0 w : World} {g t : Nat} {a b : Int} {x : Value} (h : St S (BlkA g t #[.int .i64 a, .int .i64 b, x] :: l) w0 w) : w.cell? ⟨g, 1, none⟩ = some (.int .i64 b) := by
  have := h.blk.cell
  rw [this]; rfl
/-- what Bytes gave is opened -/
theorem thereOpen {S0 : Fp} {l : List Ass} {w0 w : World} [Stable (Sep l)] {k v s n : Nat} {R F : List Nat} {A : Option Addr} {c : Nat} (hF : F = rfBytes k v s n R) (hk : k < 256) (hv : v < 256) (h2 : 2 ≤ s) (hs : s ≤ 255) (hn : n ≤ 65536) (hR : R.length = n * s) (hz : Zr R s)
    (h : St S0 (ObA 5 (.slice A F.length c) F :: l) w0 w) (hT : TabW w) :
    Calls Tryd.prog 19 #[.slice A F.length c] w fun e w' => ∃ g, e = .returned (.tuple #[.pointer (some ⟨g, 0, none⟩), .int .i64 0]) ∧ St S0 (RfA g (k : Int) (v : Int) (s : Int) R (liveN R s n : Nat) ((0 : Nat) : Int) :: ObA 5 (.slice A F.length c) F :: l) w0 w' := by
  have hl := there_len (k := k) (v := v) hR hn hs
  have hg : 16 ≤ F.length ∧ hdErr F = 0 ∧ openErr F = 0 := by
    rw [hF]
    exact ⟨by rw [hl.1]; omega, hdErr_back k v s n R hk hv h2 hs, openErr_back k v s n R hk hv h2 hs hn hR fun j _ => hz.good h2 j⟩
  have hFl : F.length ≤ 140737488355328 := by rw [hF, hl.1]; omega
  have ho := lowOpen_yes hg h h.ob.reads.2.1 hT hFl h.ob.reads.2.2.1
  have e1 : hd F 4 1 = k := by rw [hF]; exact hd_k k v s n R hk
  have e2 : hd F 5 1 = v := by rw [hF]; exact hd_v k v s n R hv
  have e3 : hd F 6 2 = s := by rw [hF]; exact hd_s k v s n R hs
  have e4 : hd F 8 4 = n := by rw [hF]; exact hd_n k v s n R hn
  have e5 : F.drop 16 = R := by rw [hF]; exact rfBytes_drop k v s n R
  rw [e1, e2, e3, e4, e5] at ho
  exact ho
/-- make([]T, n) within a drawn region -/
theorem step_make_full {P : Program} (w : World) {ops : Array Oper} {o : Oper} {a : Act} {K : Act → World → Prop} {Q : Exit → Act → World → Prop} {E : Prop} (hgd : o.guard = none) (l c : Operand) (t : TypeId) (hop : o.op = Op.makeSlice t l c)
    (base : Nat) (e : TypeId) (i : TypeInfo) (z : Value) (size : Nat) (h1 : P.underlying t = some (.slice e)) (h2 : P.info? e = some i) (h3 : i.zero = some z) (h4 : i.size = size)
    (n : Nat) (hl : a.eval l = .int .i64 (n : Int)) (hc : a.eval c = .int .i64 (n : Int)) (b2 : i.bytes * n ≤ 281474976710656) (b3 : n ≤ maxLen) (b4 : base ≤ w.heap.size) (N : Nat) (hN : w.heap.size = N)
    (hK : ∀ w', w'.ownsRow base e size (.slice (some ⟨N, 0, none⟩) n n) n (madeCells z.cells (n * size)).toList → w.grownBy w' none → K (a.put o.dst (.slice (some ⟨N, 0, none⟩) n n)) w') :
    if Region.wanted o (yielded ops a.tmps) = true then Oper.wp P o a w K Q else E := by
  subst hN
  have hw : Region.wanted o (yielded ops a.tmps) = true := by simp [Region.wanted, hgd]
  rw [if_pos hw]
  obtain ⟨w', hrun, r1, r2⟩ := run_make_full (P := P) w base t e i z size h1 h2 h3 h4 .i64 .i64 n b2 b3 b4
  unfold Oper.wp
  simp [execOp, hop, hl, hc, hrun, Result.andThen]
  exact hK w' r1 r2
theorem wadd1w {m z : Nat} (hm : m ≤ 63) (h : z = m + 1) : IntKind.i64.wrap (1 + (m : Int)) = (z : Int) := by rw [IntKind.wrap_i64]; omega
end Go.Proofs.YtcclcecjidlojaaDoor
