/- The labels of a record: slices.Repeat of one number, withoutEnd, ascend, Labels. -/
import Derived.Test.YtpoaokkmmoeekaaRcCo
import Derived.Laws.CopyOwn
import Derived.Deep.OwnRows
namespace Go.Proofs.Ytpoaokkmmoeekaa
open Go.RowKit
set_option linter.unusedVariables false

set_option maxHeartbeats 1000000 in
theorem Mul64_18 (w : World) : Calls Try.prog 76 #[.int .u64 1, .int .u64 8] w fun e w' => e = .returned (.tuple #[.int .u64 0, .int .u64 8]) ∧ w = w' := by
  go_enter Try.func76, Try.ntmps76
  go_wp2
  go_ret2
  exact ⟨rfl, rfl⟩
set_option maxHeartbeats 1000000 in
theorem Mul_18 (w : World) : Calls Try.prog 72 #[.int .u64 1, .int .u64 8] w fun e w' => e = .returned (.tuple #[.int .u64 0, .int .u64 8]) ∧ w = w' := by
  have H := Lib.hid (Mul64_18 w)
  go_enter Try.func72, Try.ntmps72
  go_wp2_with (go_at_call 76; refine (H.out).mono ?_; rintro e w1 ⟨rfl, rfl⟩)
  go_ret2
  exact ⟨rfl, rfl⟩

/-- withoutEnd: how many stay -/
def cutLen (L : List Int) : Nat → Nat
  | 0 => 0
  | k + 1 => if nthI L k = -1 then cutLen L k else k + 1
theorem cutLen_le (L : List Int) (k : Nat) : cutLen L k ≤ k := by
  induction k with
  | zero => exact Nat.le_refl _
  | succ k ih => unfold cutLen; split <;> omega
set_option maxHeartbeats 1000000 in
theorem withoutEnd_any (A : Option Addr) (n cap B : Nat) (L : List Int) (w : World) (h : RL ivl w B A L) (hn : L.length = n) (hc : n ≤ cap) (hm : cap ≤ maxLen) :
    Calls Try.prog 67 #[.slice A n cap] w fun e w' => e = .returned (.slice A (cutLen L n) cap) ∧ ∃ m, w' = w.drewN m := by
  subst hn
  unfold maxLen at hm
  go_enter Try.func67, Try.ntmps67
  go_wp2
  go_loopw [0] (fun v wr => ∃ k : Nat, k ≤ L.length ∧ v = .slice A k cap ∧ cutLen L k = cutLen L L.length ∧ ∃ m, wr = w.drewN m) (fun v _ => match v with | .slice _ n _ => n | _ => 0)
  case atStart => exact ⟨L.length, Nat.le_refl _, rfl, rfl, 0, rfl⟩
  case round =>
    obtain ⟨k, hk, rfl, heq, m, rfl⟩ := hrel
    cases k with
    | zero =>
      go_wp2
      go_ret
      exact ⟨by rw [← heq]; rfl, m, rfl⟩
    | succ k =>
      obtain ⟨b, off, rfl, hb, hcell⟩ := h.allI (by omega)
      have hc1 := hcell k (by omega)
      clear hcell
      obtain ⟨q, hq⟩ : ∃ q, q = k + 1 := ⟨_, rfl⟩
      rw [← hq] at hk heq ⊢
      have hp : (q : Int) - 1 = (k : Int) := by omega
      have hpos : decide ((0 : Int) < (q : Int)) = true := decide_eq_true (by omega)
      have hpos' : decide (0 < q) = true := decide_eq_true (by omega)
      have hz0 : 0 < q := by omega
      have hkq : k < q := by omega
      by_cases hx : nthI L k = -1
      · have Hn : Hid (cutLen L k = cutLen L L.length) := Lib.hid (by rw [← heq, hq, cutLen, if_pos hx])
        have Hk : Hid (k ≤ L.length) := Lib.hid (by omega)
        have Hlt : Hid (k < q) := Lib.hid hkq
        rw [hx] at hc1
        clear heq hq hx
        go_wp2
        go_roundw
        case rel => exact ⟨k, Hk.out, rfl, Hn.out, m, rfl⟩
        case measure => exact Hlt.out
      · have Hn : Hid (q = cutLen L L.length) := Lib.hid (by rw [← heq, hq, cutLen, if_neg hx])
        obtain ⟨x, hx'⟩ : ∃ x, x = nthI L k := ⟨_, rfl⟩
        rw [← hx'] at hx hc1
        have hb1 : (x == -1) = false := by simpa using hx
        clear heq hq hx hx'
        go_wp2
        go_ret
        exact ⟨by rw [← Hn.out]; rfl, m, rfl⟩

/-- ascend -/
def asc (p : Int) : List Int → Bool
  | [] => true
  | x :: r => decide (p < x) && asc x r
set_option maxHeartbeats 1000000 in
theorem ascend_any (A : Option Addr) (n cap B : Nat) (L : List Int) (w : World) (h : RL ivl w B A L) (hn : L.length = n) (hc : n ≤ cap) (hm : cap ≤ maxLen) :
    Calls Try.prog 68 #[.slice A n cap] w fun e w' => e = .returned (.bool (asc (-1) L)) ∧ w = w' := by
  subst hn
  unfold maxLen at hm
  go_enter Try.func68, Try.ntmps68
  go_wp2
  go_loopw [3, 8] (fun p i wr => ∃ (k : Nat) (q : Int), k ≤ L.length ∧ i = .int .i64 k ∧ p = .int .i64 q ∧ asc q (L.drop k) = asc (-1) L ∧ wr = w) (fun _ i _ => L.length - (intOf i).toNat)
  case atStart => exact ⟨0, -1, Nat.zero_le _, rfl, rfl, rfl, rfl⟩
  case round =>
    obtain ⟨k, q, hk, rfl, rfl, heq, rfl⟩ := hrel
    by_cases hlt : k < L.length
    · obtain ⟨b, off, rfl, hb, hcell⟩ := h.allI (by omega)
      have hc1 := hcell k hlt
      clear hcell
      rw [dropI hlt, asc] at heq
      obtain ⟨x, hx⟩ : ∃ x, x = nthI L k := ⟨_, rfl⟩
      rw [← hx] at hc1 heq
      clear hx
      by_cases hq : x ≤ q
      · have Hn : Hid (false = asc (-1) L) := Lib.hid (by rw [← heq, decide_eq_false (by omega)]; rfl)
        clear heq
        go_wp2
        go_ret
        exact ⟨ret_bool Hn.out, by first | rfl | trivial⟩
      · have Hn : Hid (asc x (L.drop (k + 1)) = asc (-1) L) := Lib.hid (by rw [← heq, decide_eq_true (by omega)]; rfl)
        clear heq
        go_wp2
        go_roundw
        case rel => exact ⟨k + 1, x, by omega, by go_num, rfl, Hn.out, trivial⟩
        case measure => simp [intOf]; omega
    · have Hn : Hid (true = asc (-1) L) := Lib.hid (by rw [← heq, List.drop_of_length_le (by omega)]; rfl)
      clear heq
      go_wp2
      go_ret
      exact ⟨ret_bool Hn.out, rfl⟩

/-! ### Repeat -/
def rep8 (k : Nat) : List Value := List.replicate k (.int .i64 (-1)) ++ List.replicate (8 - k) (.int .i64 0)
theorem rep8_splice (k : Nat) (h : k = 1 ∨ k = 2 ∨ k = 4) : splice (rep8 k) k (List.replicate k (.int .i64 (-1))) = rep8 (2 * k) := by
  rcases h with rfl | rfl | rfl <;> rfl
theorem rep8_src {w : World} {g k : Nat} {t : TypeId} (hk : k ≤ 8) (h : w.heap[g]? = some (.cells (rep8 k).toArray t (0, 0))) (j : Nat) (v : Value) (hj : (List.replicate k (Value.int .i64 (-1)))[j]? = some v) : w.cell? ((⟨g, 0, none⟩ : Addr).add j) = some v := by
  rw [add_none, Nat.zero_add, cell_of_row w g j _ t (0, 0) h]
  unfold rep8
  have hlt : j < k := by
    by_cases hl : j < k
    · exact hl
    · rw [List.getElem?_eq_none (by simp; omega)] at hj; cases hj
  rw [List.getElem?_toArray, List.getElem?_append_left (by simpa using hlt)]
  exact hj

theorem int_sz : (Try.prog.info? 3).map (·.size) = some 1 := by kernel_rfl
/-- a copy of k numbers behind the first k *)-/
theorem copy8 {w w2 : World} {N o k m : Nat} {ad : Addr} {dl sl sc : Nat} {kv : Int} (hkv : kv = (k : Int)) (ho : o = m) (hg : w2.heap[N]? = some (.cells (rep8 m).toArray 3 (0, 0))) (hb : Below N w w2)
    (hs : ∀ j v, (List.replicate k (Value.int .i64 (-1)))[j]? = some v → w2.cell? (ad.add j) = some v) (hk : k = Nat.min sl dl) (hfit : o + k ≤ 8) (hm : m ≤ 8) (he : splice (rep8 m) o (List.replicate k (.int .i64 (-1))) = rep8 (o + k)) :
    ∃ w3, (Builtin.copy_ #[22, 22] 3 #[.slice (some ⟨N, o, none⟩) dl dl, .slice (some ad) sl sc]).run Try.prog w2 = .ok (.int .i64 kv) w3 ∧ w3.heap[N]? = some (.cells (rep8 (o + k)).toArray 3 (0, 0)) ∧ Below N w w3 := by
  have hl : (rep8 m).length = 8 := by simp [rep8]; omega
  have h := run_copy_row (P := Try.prog) w2 22 22 3 3 N o dl dl ad sl sc (rep8 m).toArray 3 (List.replicate k (.int .i64 (-1))) Try.underlying22 int_sz hg (by simpa using hk) hs (by simpa [hl] using hfit) (by intro v hv; obtain ⟨-, rfl⟩ := List.mem_replicate.1 hv; rfl)
  rw [List.length_replicate] at h
  refine ⟨_, h.trans (by rw [hkv]; rfl), ?_, below_setRow hb (Nat.le_refl _) _⟩
  rw [← he]
  have := setRow_heap w2 N _ ((rep8 m).toArray.toList.take o ++ List.replicate k (Value.int .i64 (-1)) ++ (rep8 m).toArray.toList.drop (o + k)).toArray 3 _ hg
  simpa [splice] using this

set_option maxRecDepth 100000 in
set_option maxHeartbeats 2000000 in
theorem Repeat_any (w : World) (b : Nat) (hx : w.cell? ⟨b, 0, none⟩ = some (.int .i64 (-1))) (hb : b < w.heap.size) :
    Calls Try.prog 66 #[.slice (some ⟨b, 0, none⟩) 1 1, .int .i64 8] w fun e w' => ∃ g, e = .returned (.slice (some ⟨g, 0, none⟩) 8 8) ∧ g = w.heap.size ∧ Blk w' g 3 (rep8 8).toArray ∧ Below w.heap.size w w' := by
  have H := Lib.hid (Mul_18 w)
  have hm : (Instr.makeSlice 22 (.int .i64 8) (.int .i64 8)).run Try.prog w = .ok (.slice (some ⟨w.heap.size, 0, none⟩) 8 8) (w.alloc (.cells (rep8 0).toArray 3)) := by
    have h := run_make_row' (P := Try.prog) 22 3 (.int .i64 0) 8 Try.underlying22 (by kernel_rfl) rfl .i64 .i64 8 (by omega) (by omega) w
    rwa [show madeCells #[Value.int .i64 0] 8 = (rep8 0).toArray from by kernel_rfl] at h
  have hsz : (Try.prog.info? 3).map (·.size) = some 1 := by kernel_rfl
  obtain ⟨w2, hw2⟩ : ∃ w2, w2 = w.alloc (.cells (rep8 0).toArray 3) := ⟨_, rfl⟩
  obtain ⟨N, hN⟩ : ∃ N, N = w.heap.size := ⟨_, rfl⟩
  have hg0 : w2.heap[N]? = some (.cells (rep8 0).toArray 3 (0, 0)) := by rw [hw2, hN]; exact heap_alloc_new w _
  have hb0 : Below N w w2 := by rw [hw2, hN]; exact (Below.refl _ _).alloc (Nat.le_refl _) _
  have hs0 : ∀ j v, ([Value.int .i64 (-1)] : List Value)[j]? = some v → w2.cell? ((⟨b, 0, none⟩ : Addr).add j) = some v := by
    intro j v hj
    have hj0 : j = 0 := by
      rcases j with _ | j
      · rfl
      · cases hj
    subst hj0
    have : v = .int .i64 (-1) := by injection hj with hj; exact hj.symm
    subst this
    rw [add_none, hw2, World.cell?_alloc_lt w _ _ hb]
    exact hx
  rw [← hw2, ← hN] at hm
  have HG := Lib.hid hg0
  have HB := Lib.hid hb0
  have HS := Lib.hid hs0
  have HN := Lib.hid hN
  clear hw2 hg0 hb0 hs0 hN hx hb
  obtain ⟨w3, hc3, hg3, hb3⟩ := copy8 (w := w) (w2 := w2) (N := N) (kv := 1) (o := 0) (k := 1) (m := 0) (ad := ⟨b, 0, none⟩) (dl := 8) (sl := 1) (sc := 1) rfl rfl HG.out HB.out HS.out rfl (by omega) (by omega) rfl
  have HG3 := Lib.hid hg3
  have HB3 := Lib.hid hb3
  clear hg3 hb3
  go_enter Try.func66, Try.ntmps66
  go_wp2_with (go_at_call 72; refine (H.out).mono ?_; rintro e w1 ⟨rfl, rfl⟩)
  go_loopw [8] (fun v wr => ∃ k : Nat, (k = 1 ∨ k = 2 ∨ k = 4 ∨ k = 8) ∧ v = .int .i64 k ∧ Hid (wr.heap[N]? = some (.cells (rep8 k).toArray 3 (0, 0))) ∧ Hid (Below N w wr)) (fun v _ => 8 - (intOf v).toNat)
  case atStart => exact ⟨1, .inl rfl, rfl, HG3, HB3⟩
  case round =>
    obtain ⟨k, hk, rfl, hg, hb⟩ := hrel
    rcases hk with rfl | rfl | rfl | rfl
    · obtain ⟨w5, hc5, hg5, hb5⟩ := copy8 (w := w) (w2 := wr.drew) (N := N) (kv := 1) (o := 1) (k := 1) (m := 1) (ad := ⟨N, 0, none⟩) (dl := 7) (sl := 1) (sc := 8) rfl rfl hg.out hb.out.drew (rep8_src (w := wr.drew) (by omega) hg.out) rfl (by omega) (by omega) rfl
      have HG5 := Lib.hid hg5
      have HB5 := Lib.hid hb5
      clear hg5 hb5
      go_wp2
      go_region
      go_wp2
      go_roundw
      case rel => exact ⟨2, by omega, rfl, HG5, HB5⟩
      case measure => decide
    · obtain ⟨w5, hc5, hg5, hb5⟩ := copy8 (w := w) (w2 := wr.drew) (N := N) (kv := 2) (o := 2) (k := 2) (m := 2) (ad := ⟨N, 0, none⟩) (dl := 6) (sl := 2) (sc := 8) rfl rfl hg.out hb.out.drew (rep8_src (w := wr.drew) (by omega) hg.out) rfl (by omega) (by omega) rfl
      have HG5 := Lib.hid hg5
      have HB5 := Lib.hid hb5
      clear hg5 hb5
      go_wp2
      go_region
      go_wp2
      go_roundw
      case rel => exact ⟨4, by omega, rfl, HG5, HB5⟩
      case measure => decide
    · obtain ⟨w5, hc5, hg5, hb5⟩ := copy8 (w := w) (w2 := wr.drew) (N := N) (kv := 4) (o := 4) (k := 4) (m := 4) (ad := ⟨N, 0, none⟩) (dl := 4) (sl := 4) (sc := 8) rfl rfl hg.out hb.out.drew (rep8_src (w := wr.drew) (by omega) hg.out) rfl (by omega) (by omega) rfl
      have HG5 := Lib.hid hg5
      have HB5 := Lib.hid hb5
      clear hg5 hb5
      go_wp2
      go_region
      go_wp2
      go_roundw
      case rel => exact ⟨8, by omega, rfl, HG5, HB5⟩
      case measure => decide
    · go_wp2
      go_ret
      exact ⟨N, rfl, HN.out, hg.out, by rw [← HN.out]; exact hb.out⟩

/-! ### Labels -/
def Cs.len (s : Cs) : Nat := match s with
  | .w bs => bs.length
  | .r _ _ => 0
def Cs.isw (s : Cs) : Bool := match s with
  | .w _ => true
  | .r _ _ => false
theorem fits_of {s : Cs} (h : s.len ≤ 1000000) : s.fits := by
  cases s
  · exact h
  · trivial
theorem putNum_len (width : Int) (n : Nat) : (putNum width n).length ≤ 8 := by
  by_cases h : isW width = true
  · rw [putNum_yes h, enc_length]
    have : width = 1 ∨ width = 2 ∨ width = 4 ∨ width = 8 := of_decide_eq_true h
    omega
  · rw [putNum_no (by simpa using h)]; simp
theorem aft_len (s : Cs) (width : Int) (n : Nat) : (s.aft width n).len ≤ s.len + 8 := by
  cases s
  · simp only [Cs.aft, Cs.len, List.length_append]
    have := putNum_len width n
    omega
  · simp [Cs.aft, Cs.len]
theorem aft_isw (s : Cs) (width : Int) (n : Nat) : (s.aft width n).isw = s.isw := by cases s <;> rfl
theorem go_len (s : Cs) (width least x : Int) : (s.go width least x).len ≤ s.len + 8 := aft_len _ _ _
theorem go_isw (s : Cs) (width least x : Int) : (s.go width least x).isw = s.isw := aft_isw _ _ _

def labS (s : Cs) (P : List Int) : Nat → Cs
  | 0 => s
  | k + 1 => (labS s P k).go 1 (-1) (nthI P k)
def labV (s : Cs) (P : List Int) (k : Nat) : Int := (labS s P k).val 1 (-1) (nthI P k)
def labW (s : Cs) (wr : Bool) (P : List Int) : Nat → Bool
  | 0 => wr
  | k + 1 => labW s wr P k || !inR (-1) 200 (labV s P k)
def labL (s : Cs) (P : List Int) (k : Nat) : List Int := (List.range k).map (labV s P)
theorem labL_succ (s : Cs) (P : List Int) (k : Nat) : labL s P (k + 1) = labL s P k ++ [labV s P k] := by unfold labL; rw [List.range_succ, List.map_append]; rfl
theorem labL_length (s : Cs) (P : List Int) (k : Nat) : (labL s P k).length = k := by simp [labL]
theorem labS_len (s : Cs) (P : List Int) (k : Nat) : (labS s P k).len ≤ s.len + 8 * k := by
  induction k with
  | zero => exact Nat.le_refl _
  | succ k ih => have := go_len (labS s P k) 1 (-1) (nthI P k); unfold labS; omega
theorem labS_isw (s : Cs) (P : List Int) (k : Nat) : (labS s P k).isw = s.isw := by
  induction k with
  | zero => rfl
  | succ k ih => unfold labS; rw [go_isw, ih]
/-- the places -/
def pl8 (L : List Int) : List Int := L.take 8 ++ List.replicate (8 - L.length) (-1)
theorem pl8_length (L : List Int) : (pl8 L).length = 8 := by simp [pl8]; omega
def icells (L : List Int) : Array Value := (L.map ivl).toArray

theorem copyL {w : World} {g B cap : Nat} {A : Option Addr} {L : List Int} (hg : Blk w g 3 (rep8 8).toArray) (h : RL ivl w B A L) :
    ∃ w3 v, (Builtin.copy_ #[22, 22] 3 #[.slice (some ⟨g, 0, none⟩) 8 8, .slice A L.length cap]).run Try.prog w = .ok (.int .i64 v) w3 ∧ Blk w3 g 3 (icells (pl8 L)) ∧ Only (fun k => k = g) w w3 := by
  by_cases h0 : L.length = 0
  · have hL : L = [] := List.length_eq_zero_iff.1 h0
    subst hL
    exact ⟨w, 0, run_copy_none (P := Try.prog) w 22 22 3 3 _ A 8 8 0 cap Try.underlying22 int_sz (by simp), hg, Only.refl _ _⟩
  · obtain ⟨b, off, rfl, hb, hc⟩ := h.allI (by omega)
    have hl : ((L.take 8).map ivl).length = Nat.min L.length 8 := by simp [Nat.min_comm]
    obtain ⟨cur, hcur⟩ : ∃ cur, cur = (rep8 8).toArray := ⟨_, rfl⟩
    have hs8 : cur.size = 8 := by rw [hcur]; rfl
    have h8 : cur.toList = List.replicate 8 (Value.int .i64 (-1)) := by rw [hcur]; rfl
    rw [← hcur] at hg
    clear hcur
    have hr := run_copy_row (P := Try.prog) w 22 22 3 3 g 0 8 8 ⟨b, off, none⟩ L.length cap cur 3 ((L.take 8).map ivl) Try.underlying22 int_sz hg hl (by
      intro j v hj
      rw [add_none]
      have hlt : j < (L.take 8).length := by
        by_cases hl : j < (L.take 8).length
        · exact hl
        · rw [List.getElem?_eq_none (by simpa using hl)] at hj; cases hj
      have hlt2 : j < L.length := by rw [List.length_take] at hlt; omega
      rw [hc j hlt2, nthI_lt hlt2]
      rw [List.getElem?_eq_getElem (by simpa using hlt)] at hj
      injection hj with hj
      rw [← hj]
      simp) (by rw [hs8, hl]; have : Nat.min L.length 8 ≤ 8 := Nat.min_le_right _ _; omega) (by intro v hv; obtain ⟨x, -, rfl⟩ := List.mem_map.1 hv; rfl)
    refine ⟨_, _, hr, ?_, ?_⟩
    · have := setRow_heap w g _ (cur.toList.take 0 ++ (L.take 8).map ivl ++ cur.toList.drop (0 + ((L.take 8).map ivl).length)).toArray 3 _ hg
      have he : (cur.toList.take 0 ++ (L.take 8).map ivl ++ cur.toList.drop (0 + ((L.take 8).map ivl).length)).toArray = icells (pl8 L) := by
        have hm8 : 8 - Nat.min L.length 8 = 8 - L.length := by show 8 - min L.length 8 = _; omega
        rw [hl, h8, List.drop_replicate, Nat.zero_add, hm8, List.take_zero, List.nil_append]
        unfold icells pl8
        rw [List.map_append, List.map_replicate]
      exact this.trans (by rw [he])
    · exact ⟨rfl, rfl, rfl, by simp [World.setRow], fun k _ hk => setRow_other w g k _ hk⟩
end Go.Proofs.Ytpoaokkmmoeekaa
