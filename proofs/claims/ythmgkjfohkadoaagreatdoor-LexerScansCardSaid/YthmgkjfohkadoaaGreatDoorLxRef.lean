/- lexer: the document's reader and Quote, the openers and the laid world in one text (a claim holds at most 60 files): LxP LxQ LxRA LxRB LxRC LxRS LxRT LxRU LxRV LxRW LxOpen LxLaid. -/
import Derived.Test.YthmgkjfohkadoaaGreatDoorLxS
import Derived.Laws.BytesArg
import Derived.Deep.QuietTactic
import Derived.BigQuiet
import Derived.Test.YthmgkjfohkadoaaGreatDoorNumRefD
import Derived.Maps.AppendAt
import Derived.Test.YthmgkjfohkadoaaGreatDoorOpen
import Derived.Test.YthmgkjfohkadoaaGreatDoorBulk
import Derived.Test.YthmgkjfohkadoaaGreatDoorRows
import Derived.Test.YthmgkjfohkadoaaGreatDoorCards
import Derived.Test.YthmgkjfohkadoaaGreatDoorTie
import Derived.Test.YthmgkjfohkadoaaGreatDoorLxC
import Derived.LaidLaws
import Derived.Stop.LaidErr
import Derived.Deep.DeepLaidRun
import Derived.Deep.DeepHandedRow
import Derived.Lib.LaidTab
import Derived.Shelf.Vars
import Derived.KernelRfl
/- lexer: the places of a script's tokens and of its error lie in it. No function of the program is named but All. -/
namespace Go.Proofs.YthmgkjfohkadoaaGreatDoor
open Go.RowKit
set_option linter.unusedVariables false

theorem txt_at : ∀ (n : Nat) (l : Bs), l.length = n → ∀ (p0 i : Nat) (acc : Bs) (e : Nat × Int), txtG p0 i acc l = .error e → e.1 = p0 ∨ e.1 ≤ i + l.length := by
  intro n
  induction n using Nat.strongRecOn with
  | _ n ih =>
    intro l hn p0 i acc e h
    cases l with
    | nil =>
      rw [txtG] at h
      injection h with h
      exact .inl (by rw [← h])
    | cons x r =>
      rw [List.length_cons]
      rw [txtG] at h
      split at h
      · cases h
      · split at h
        · injection h with h
          exact .inr (by rw [← h]; show i ≤ _; omega)
        · split at h
          · split at h
            · injection h with h
              exact .inr (by rw [← h]; show i ≤ _; omega)
            · by_cases hk : (escR r).2 ≤ r.length
              · rcases ih _ (by rw [← hn, List.length_drop, List.length_cons]; omega) _ rfl _ _ _ _ h with h2 | h2
                · exact .inl h2
                · rw [List.length_drop] at h2
                  exact .inr (by omega)
              · rw [List.drop_of_length_le (by omega), txtG] at h
                injection h with h
                exact .inl (by rw [← h])
          · rcases ih _ (by rw [← hn, List.length_cons]; omega) _ rfl _ _ _ _ h with h2 | h2
            · exact .inl h2
            · exact .inr (by omega)
theorem tok_at {at_ : Nat} {l : Bs} {e : Nat × Int} (h : tokG at_ l = .error e) : e.1 ≤ at_ + l.length := by
  cases l with
  | nil =>
    simp only [tokG] at h
    injection h with h
    rw [← h]
    exact Nat.le_add_right _ _
  | cons c r =>
    rw [List.length_cons]
    simp only [tokG] at h
    split at h
    · split at h
      · rename_i e' hj
        injection h with h
        have h5 := txt_at _ _ rfl _ _ _ _ hj
        subst h
        omega
      · cases h
    · split at h
      · cases h
      · split at h
        · split at h
          · split at h
            · cases h
            · injection h with h
              rw [← h]
              exact Nat.le_add_right _ _
          · split at h
            · cases h
            · injection h with h
              rw [← h]
              exact Nat.le_add_right _ _
        · split at h
          · cases h
          · split at h
            · cases h
            · injection h with h
              rw [← h]
              exact Nat.le_add_right _ _
theorem toks_at : ∀ (n : Nat) (l : Bs), l.length = n → ∀ p, (∀ t ∈ (toksG p l).1, t.p ≤ p + l.length) ∧ ∀ e, (toksG p l).2 = some e → e.1 ≤ p + l.length := by
  intro n
  induction n using Nat.strongRecOn with
  | _ n ih =>
    intro l hn p
    rw [toksG]
    split
    · exact ⟨by simp, by simp⟩
    · rename_i h
      have h1 : 0 < (l.drop (gapC false l)).length := List.length_pos_iff.2 h
      have hg := gapC_le false l
      split
      · rename_i e' hk
        have h3 := tok_at hk
        rw [List.length_drop] at h1 h3
        refine ⟨by simp, fun e h2 => ?_⟩
        injection h2 with h2
        subst h2
        omega
      · rename_i t k hk
        obtain ⟨h3, h4, h5⟩ := tok_len hk
        rw [List.length_drop] at h1 h4
        obtain ⟨q1, q2⟩ := ih ((l.drop (gapC false l)).drop (max k 1)).length (by simp only [List.length_drop]; omega) _ rfl (p + gapC false l + k)
        simp only [List.length_drop] at q1 q2
        refine ⟨fun t' ht => ?_, fun e he => ?_⟩
        · rcases List.mem_cons.1 ht with rfl | ht
          · omega
          · have := q1 t' ht
            omega
        · have := q2 e he
          omega
theorem lxR_at (l : Bs) : (∀ t ∈ (lxR l).1, t.p ≤ l.length) ∧ ∀ e, (lxR l).2 = some e → e.1 ≤ l.length := by
  unfold lxR
  split
  · refine ⟨by simp, fun e h => ?_⟩
    injection h with h
    rw [← h]
    exact Nat.zero_le _
  · have := toks_at _ l rfl 0
    simpa using this
/-- the tokens lie there to be read -/
def TkS (A : Option Addr) (X : List Tk) (w : World) : Prop := ∀ k x, X[k]? = some x → ∃ g, A = some ⟨g, 0, none⟩ ∧ g < w.heap.size ∧
  w.cell? ⟨g, k * 4, none⟩ = some (.int .i64 x.k) ∧ w.cell? ⟨g, k * 4 + 1, none⟩ = some (.string (mkS x.t)) ∧ w.cell? ⟨g, k * 4 + 2, none⟩ = some (.int .i64 x.n) ∧ w.cell? ⟨g, k * 4 + 3, none⟩ = some (.int .i64 (x.p : Int))
theorem TkS.below {A : Option Addr} {X : List Tk} {w w' : World} (h : TkS A X w) (hb : Below w.heap.size w w') : TkS A X w' := by
  intro k x hx
  obtain ⟨g, h1, h2, h3, h4, h5, h6⟩ := h k x hx
  exact ⟨g, h1, Nat.lt_of_lt_of_le h2 hb.size, by rw [hb.cell (p := ⟨g, _, none⟩) h2, h3], by rw [hb.cell (p := ⟨g, _, none⟩) h2, h4], by rw [hb.cell (p := ⟨g, _, none⟩) h2, h5], by rw [hb.cell (p := ⟨g, _, none⟩) h2, h6]⟩
theorem all_tks (s : ByteArray) (w : World) (hW : LxW w) : Calls Tryz.prog 10 #[.string s] w fun e w' => ∃ A c, e = .returned (.tuple #[.slice A (lxA (lS s)).1.length c, .int .i64 ((lxA (lS s)).2.1 : Int), .int .i64 (lxA (lS s)).2.2]) ∧ TkS A (lxA (lS s)).1 w' ∧ Below w.heap.size w w' := by
  refine (All_any s w hW).mono ?_
  rintro e w' ⟨v, rfl, h⟩
  have hb := h.bel
  by_cases h0 : 0 < (lxA (lS s)).1.length
  · obtain ⟨g, cap, rfl, h1, h2, h3, h4⟩ := h.tkAt h0
    refine ⟨_, _, rfl, fun k x hx => ?_, hb⟩
    obtain ⟨q0, q1, q2, q3⟩ := h4 k x hx
    exact ⟨g, rfl, h3, q0, q1, q2, q3⟩
  · obtain ⟨A, cap, rfl, h1, h2, h3⟩ := h.owForm
    refine ⟨_, _, rfl, fun k x hx => ?_, hb⟩
    have := (List.getElem?_eq_some_iff.1 hx).1
    omega
end Go.Proofs.YthmgkjfohkadoaaGreatDoor

/- lexer: the document's Quote. By tools/mklxq.py. -/
namespace Go.Proofs.YthmgkjfohkadoaaGreatDoor
open Go.RowKit
set_option linter.unusedVariables false
set_option linter.unusedSimpArgs false

def strOf (bs : List Nat) : ByteArray := ⟨(bs.map UInt8.ofNat).toArray⟩
section
variable {P : Program} {w : World}
/-- bytes made a string -/
theorem run_bytes_str {B : Nat} {A : Option Addr} {bs : List Nat} (src dst e : TypeId) (c : Nat) (hs : P.underlying src = some (.slice e)) (he : P.underlying e = some (.int .u8)) (hd : P.underlying dst = some .string)
    (h : RB w B A bs) : (convert src dst (.slice A bs.length c)).run P w = .ok (.string (strOf bs)) w := by
  rcases A with _ | ad
  · have hm : bs.length = 0 := by
      rcases Nat.eq_zero_or_pos bs.length with h0 | h0
      · exact h0
      · obtain ⟨_, h, _⟩ := h.2.2 h0
        cases h
    have hn : bs = [] := List.length_eq_zero_iff.1 hm
    subst hn
    exact run_convert_bytes_nil (w := w) src e hs he _ _ dst hd
  · rcases Nat.eq_zero_or_pos bs.length with h0 | h0
    · have hn : bs = [] := List.length_eq_zero_iff.1 h0
      subst hn
      rw [run_convert_bytes_string w src dst e _ _ c hs he hd]
      have hl := run_loadCells_list (P := P) w ad [] (fun j v hj => by simp at hj)
      rw [run_bytesToString w ad _ c [] (by simpa using hl)]
      rfl
    · obtain ⟨b, off, hA, _, hc⟩ := h.all h0
      injection hA with hA
      subst hA
      have := run_convert_bytes_arg (P := P) w src e hs he b off bs.length c (bs.map fun n : Nat => (n : Int)) (by simp) (fun i hi => by
        rw [hc i hi, nth_lt hi]
        simp [List.getD_eq_getElem?_getD, List.getElem?_eq_getElem hi]) dst hd
      rw [this]
      congr 2
      unfold strOfNums strOf
      congr 2
      simp
end
theorem u8_info : (Tryz.prog.info? 5).map (fun i => (i.zero, i.size, i.bytes)) = some (some (.int .u8 0), 1, 1) := by kernel_rfl
/-- bytes as numbers -/
def nb (l : Bs) : List Nat := l.map UInt8.toNat
theorem nb_app (a b : Bs) : nb (a ++ b) = nb a ++ nb b := by simp [nb]
theorem nb_len (a : Bs) : (nb a).length = a.length := by simp [nb]
theorem strOf_nb (l : Bs) : strOf (nb l) = mkS l := by
  unfold strOf nb mkS
  rw [List.map_map]
  congr 2
  have : (UInt8.ofNat ∘ UInt8.toNat) = id := by
    funext x
    simp
  rw [this, List.map_id]
/-- append(s, x...) of bytes, at a step of a region that draws its order -/
theorem step_append_bytes {P : Program} (w : World) {ops : Array Oper} {o : Oper} {a : Act} {K : Act → World → Prop} {Q : Exit → Act → World → Prop} {E : Prop} (hgd : o.guard = none) (s x : Operand) (t : TypeId)
    (ho : o.op = .call { callee := .builtin .append, args := #[s, x], argTypes := #[t, t] })
    (base : Nat) (e : TypeId) (i : TypeInfo) (ht : P.underlying t = some (.slice e)) (hi : P.info? e = some i) (hz : i.zero = some (.int .u8 0)) (hsize : i.size = 1) (hby : i.bytes = 1)
    (v : Value) (bs : List Nat) (hs : a.eval s = v) (hown : OB w base e v bs)
    (A : Option Addr) (cp B : Nat) (news : List Nat) (m : Nat) (hm : news.length = m) (hx : a.eval x = .slice A m cp) (hr : RB w B A news)
    (hlen : bs.length + m ≤ 140737488355328) (hbase : base ≤ w.heap.size)
    (h : ∀ v' w', OB w' base e v' (bs ++ news) → w.grownBy w' v.ownBlock → (v'.ownBlock = v.ownBlock ∨ v'.ownBlock = some w.heap.size) → K (a.put o.dst v') w') :
    if Region.wanted o (yielded ops a.tmps) = true then Oper.wp P o a w K Q else E := by
  subst hm
  have hw : Region.wanted o (yielded ops a.tmps) = true := by simp [Region.wanted, hgd]
  rw [if_pos hw]
  obtain ⟨v', w', hrun, h2, h3, h4⟩ := run_append_bytes (P := P) w t o.type base e i ht hi hz hsize hby v bs hown A cp B news hr hlen hbase
  unfold Oper.wp execOp
  simp only [ho, resolve, invoke, builtin, Sem.run_bind, Sem.run_pure, Result.andThen_ok, List.map_toArray, List.map_cons, List.map_nil, hs, hx, hrun]
  exact h v' w' h2 h3 h4

theorem lxP_no {x : UInt8} (h : lxP x = false) : (x.toNat : Int) < 32 ∨ (126 : Int) < (x.toNat : Int) := by
  unfold lxP at h
  rw [decide_eq_false_iff_not] at h
  have e1 : (32 ≤ x) ↔ 32 ≤ x.toNat := UInt8.le_iff_toNat_le
  have e2 : (x ≤ 126) ↔ x.toNat ≤ 126 := UInt8.le_iff_toNat_le
  rw [e1, e2] at h
  omega
theorem lxP_yes {x : UInt8} (h : lxP x = true) : ¬ ((x.toNat : Int) < 32) ∧ ¬ ((126 : Int) < (x.toNat : Int)) := by
  unfold lxP at h
  rw [decide_eq_true_eq] at h
  have e1 : (32 ≤ x) ↔ 32 ≤ x.toNat := UInt8.le_iff_toNat_le
  have e2 : (x ≤ 126) ↔ x.toNat ≤ 126 := UInt8.le_iff_toNat_le
  rw [e1, e2] at h
  omega
theorem lit_own (w : World) (n : Nat) (hn : n < 256) : St Zf [ObA 5 (.slice (some ⟨w.heap.size, 0, none⟩) 1 1) [n]] w (w.alloc (.cells #[.int .u8 n] 5)) := by
  have ho := World.ownsRow_lit (base := w.heap.size) (e := 5) (size := 1) w #[.int .u8 n] 1 (Nat.le_refl _) (by decide) rfl
  exact (St.start Zf w).newOb ⟨by intro y hy; rw [List.mem_singleton] at hy; omega, ho⟩ ((Below.refl _ _).alloc (Nat.le_refl _) _)
end Go.Proofs.YthmgkjfohkadoaaGreatDoor

/- lexer: the document's digit, letter, hex, gap, escape. -/
namespace Go.Proofs.YthmgkjfohkadoaaGreatDoor
open Go.RowKit
set_option linter.unusedVariables false
set_option linter.unusedSimpArgs false

theorem refDigit_any (x : UInt8) (w : World) :
    Calls Tryz.prog 31 #[.int .u8 (x.toNat : Int)] w fun e w' => e = .returned (.bool (lxD x)) ∧ w = w' := by
  rw [lxD_nat]
  generalize x.toNat = c
  have hc : c < 48 ∨ (48 ≤ c ∧ c ≤ 57) ∨ 57 < c := by omega
  rcases hc with h | h | h
  all_goals
    go_enter Tryz.func31, Tryz.ntmps31
    go_wp2
    go_ret
    exact ⟨ret_boolL (by first | (rw [Bool.eq_iff_iff]; done) | (rw [Bool.eq_iff_iff]; simp; done) | (rw [Bool.eq_iff_iff]; simp; omega)), rfl⟩
set_option maxHeartbeats 1000000 in
theorem refLetter_any (x : UInt8) (w : World) :
    Calls Tryz.prog 30 #[.int .u8 (x.toNat : Int)] w fun e w' => e = .returned (.bool (lxL x)) ∧ w = w' := by
  rw [lxL_nat]
  generalize x.toNat = c
  have hc : (97 ≤ c ∧ c ≤ 122) ∨ (65 ≤ c ∧ c ≤ 90) ∨ c = 95 ∨ (122 < c) ∨ (c < 65) ∨ (90 < c ∧ c < 97 ∧ c ≠ 95) := by omega
  rcases hc with h | h | rfl | h | h | h
  case inr.inr.inl =>
    go_enter Tryz.func30, Tryz.ntmps30
    go_wp2
    go_ret
    exact ⟨ret_boolL (by first | (rw [Bool.eq_iff_iff]; done) | (rw [Bool.eq_iff_iff]; simp; done) | (rw [Bool.eq_iff_iff]; simp; omega)), rfl⟩
  all_goals
    have e95 : ((c : Int) == 95) = false := by rw [beq_eq_false_iff_ne]; omega
    go_enter Tryz.func30, Tryz.ntmps30
    go_wp2
    go_ret
    exact ⟨ret_boolL (by first | (rw [Bool.eq_iff_iff]; done) | (rw [Bool.eq_iff_iff]; simp; done) | (rw [Bool.eq_iff_iff]; simp; omega)), rfl⟩
/-- a hexadecimal digit's value, or -1 -/
def hxJ (x : UInt8) : Int := match hxV x with | some n => (n : Int) | none => -1
theorem hxJ_dig {x : UInt8} (h : lxD x = true) : hxJ x = (x.toNat : Int) - 48 ∧ 48 ≤ x.toNat ∧ x.toNat ≤ 57 := by
  have h2 := h
  rw [lxD_nat, decide_eq_true_eq] at h2
  unfold hxJ hxV
  rw [if_pos h]
  dsimp only
  omega
theorem hxJ_low {x : UInt8} (h : lxD x = false) (h2 : 97 ≤ x.toNat ∧ x.toNat ≤ 102) : hxJ x = (x.toNat : Int) - 87 := by
  unfold hxJ hxV
  rw [if_neg (by rw [h]; decide), if_pos (by rw [UInt8.le_iff_toNat_le, UInt8.le_iff_toNat_le]; exact h2)]
  dsimp only
  omega
theorem hxJ_no {x : UInt8} (h : lxD x = false) (h2 : ¬ (97 ≤ x.toNat ∧ x.toNat ≤ 102)) : hxJ x = -1 := by
  unfold hxJ hxV
  rw [if_neg (by rw [h]; decide), if_neg (by rw [UInt8.le_iff_toNat_le, UInt8.le_iff_toNat_le]; exact h2)]
theorem refHex_any (x : UInt8) (w : World) :
    Calls Tryz.prog 61 #[.int .u8 (x.toNat : Int)] w fun e w' => e = .returned (.int .i64 (hxJ x)) ∧ w = w' := by
  have HD := Lib.hid (refDigit_any x w)
  cases hd : lxD x with
  | true =>
    obtain ⟨h1, h2, h3⟩ := hxJ_dig hd
    rw [hd] at HD
    rw [h1]
    have e1 : IntKind.u8.wrap ((x.toNat : Int) - 48) = (x.toNat : Int) - 48 := by rw [IntKind.wrap_u8]; omega
    have e2 : IntKind.i64.wrap ((x.toNat : Int) - 48) = (x.toNat : Int) - 48 := by rw [IntKind.wrap_i64]; omega
    go_enter Tryz.func61, Tryz.ntmps61
    go_wp2_with fail
    refine HD.out.mono ?_
    rintro e w' ⟨rfl, rfl⟩
    go_wp2
    go_ret
    exact ⟨by first | rfl | simp [e1, e2], rfl⟩
  | false =>
    rw [hd] at HD
    by_cases h2 : 97 ≤ x.toNat ∧ x.toNat ≤ 102
    · rw [hxJ_low hd h2]
      obtain ⟨h3, h4⟩ := h2
      have h5 : (97 : Int) ≤ (x.toNat : Int) := by omega
      have h6 : (x.toNat : Int) ≤ 102 := by omega
      have e1 : IntKind.u8.wrap ((x.toNat : Int) - 97) = (x.toNat : Int) - 97 := by rw [IntKind.wrap_u8]; omega
      have e2 : IntKind.i64.wrap ((x.toNat : Int) - 97) = (x.toNat : Int) - 97 := by rw [IntKind.wrap_i64]; omega
      have e3 : wrap64 ((x.toNat : Int) - 97 + 10) = (x.toNat : Int) - 87 := by unfold wrap64; omega
      clear hd h3 h4
      go_enter Tryz.func61, Tryz.ntmps61
      go_wp2_with fail
      refine HD.out.mono ?_
      rintro e w' ⟨rfl, rfl⟩
      go_wp2
      go_ret
      exact ⟨by first | rfl | (simp [e1, e2, e3]; done) | (show Ending.returned (Value.int _ _) = _; congr 2; omega), rfl⟩
    · rw [hxJ_no hd h2]
      have h3 : x.toNat < 97 ∨ 102 < x.toNat := by omega
      clear hd h2
      rcases h3 with h3 | h3
      · have h5 : ¬ (97 : Int) ≤ (x.toNat : Int) := by omega
        go_enter Tryz.func61, Tryz.ntmps61
        go_wp2_with fail
        refine HD.out.mono ?_
        rintro e w' ⟨rfl, rfl⟩
        go_wp2
        go_ret
        exact ⟨rfl, rfl⟩
      · have h5 : (97 : Int) ≤ (x.toNat : Int) := by omega
        have h6 : ¬ (x.toNat : Int) ≤ 102 := by omega
        go_enter Tryz.func61, Tryz.ntmps61
        go_wp2_with fail
        refine HD.out.mono ?_
        rintro e w' ⟨rfl, rfl⟩
        go_wp2
        go_ret
        exact ⟨rfl, rfl⟩
theorem u8_eq_int (x : UInt8) (n : UInt8) : ((x.toNat : Int) == (n.toNat : Int)) = decide (x = n) := by
  rw [Bool.eq_iff_iff, beq_iff_eq, decide_eq_true_eq]
  exact ⟨fun h => UInt8.toNat_inj.1 (by omega), fun h => by rw [h]⟩
theorem drop_at {s : ByteArray} {k : Nat} (h : k < s.size) : (lS s).drop k = s[k]'h :: (lS s).drop (k + 1) := by
  have h1 : (lS s)[k]? = some (s[k]'h) := byte_at s k h
  have hk : k < (lS s).length := by rw [lS_len]; exact h
  rw [List.drop_eq_getElem_cons hk]
  rw [List.getElem?_eq_getElem hk] at h1
  injection h1 with h1
  rw [h1]
set_option maxRecDepth 100000 in
set_option maxHeartbeats 1000000 in
theorem refGap_any (s : ByteArray) (p : Nat) (w : World) (hp : p ≤ s.size) (hs : s.size ≤ 1073741824) :
    Calls Tryz.prog 12 #[.string s, .int .i64 (p : Int)] w fun e w' => e = .returned (.int .i64 ((nxt (lS s) p : Nat) : Int)) ∧ w = w' := by
  obtain ⟨N, hN⟩ : ∃ N, N = nxt (lS s) p := ⟨_, rfl⟩
  rw [← hN]
  have HX : Hid (∀ k (h : k < s.size), (lS s).drop k = s[k]'h :: (lS s).drop (k + 1)) := Lib.hid fun k h => drop_at h
  have H0 : Hid (p + gapC false ((lS s).drop p) = N) := Lib.hid (by rw [hN]; rfl)
  clear hN
  go_enter Tryz.func12, Tryz.ntmps12
  go_wp2
  go_loopw [1, 5, 6] (fun i f _ wr => ∃ (k : Nat) (b : Bool), k ≤ s.size ∧ i = .int .i64 k ∧ f = .bool b ∧ Hid (k + gapC b ((lS s).drop k) = N) ∧ w = wr) (fun i _ _ _ => s.size - (intOf i).toNat)
  case atStart => exact ⟨p, false, hp, rfl, rfl, H0, rfl⟩
  case round =>
    obtain ⟨k, b, hk, rfl, rfl, HG, rfl⟩ := hrel
    clear H0 hp
    by_cases hlt : k < s.size
    · have hks : k < s.size := hlt
      have hd := HX.out k hks
      obtain ⟨x, hx⟩ : ∃ x, x = s[k]'hks := ⟨_, rfl⟩
      rw [← hx] at hd
      have hx' := hx.symm
      have hg := HG.out
      rw [hd] at hg
      have e10 := u8_eq_int x 10
      have e47 := u8_eq_int x 47
      rw [show (((10 : UInt8).toNat : Nat) : Int) = 10 from rfl] at e10
      rw [show (((47 : UInt8).toNat : Nat) : Int) = 47 from rfl] at e47
      clear hx HG
      cases b with
      | true =>
        have HG2 : Hid (k + 1 + gapC (x != 10) ((lS s).drop (k + 1)) = N) := Lib.hid (by
          have : gapC true (x :: (lS s).drop (k + 1)) = gapC (x != 10) ((lS s).drop (k + 1)) + 1 := rfl
          omega)
        have e10' : ((x.toNat : Int) != 10) = (x != 10) := by
          rw [bne, e10, bne]
          congr 1
        clear hg hd e47 e10
        go_wp2
        go_roundw
        case rel => exact ⟨k + 1, x != 10, by omega, by go_num, by first | rfl | (rw [← e10']), HG2, by first | rfl | trivial⟩
        case measure => simp [intOf]; omega
      | false =>
        have HST : ∀ (hb : lxB x = false) (h2 : ¬ (x = 47 ∧ ((lS s).drop (k + 1)).head? = some 47)), N = k := fun hb h2 => by rw [gap_stop _ hb h2] at hg; omega
        have HBL : ∀ (hb : lxB x = true), k + 1 + gapC false ((lS s).drop (k + 1)) = N := fun hb => by rw [gap_blank _ hb] at hg; omega
        have HHD : Hid (∀ h : k + 1 < s.size, ((lS s).drop (k + 1)).head? = some (s[k + 1]'h)) := Lib.hid fun h => by rw [HX.out _ h]; rfl
        have e13 := u8_eq_int x 13
        have e32 := u8_eq_int x 32
        have e9 := u8_eq_int x 9
        rw [show (((13 : UInt8).toNat : Nat) : Int) = 13 from rfl] at e13
        rw [show (((32 : UInt8).toNat : Nat) : Int) = 32 from rfl] at e32
        rw [show (((9 : UInt8).toNat : Nat) : Int) = 9 from rfl] at e9
        by_cases h47 : x = 47
        · rw [show decide (x = 47) = true from by simpa using h47] at e47
          have f1 : decide (x = 32) = false := by rw [h47]; decide
          have f2 : decide (x = 9) = false := by rw [h47]; decide
          have f3 : decide (x = 10) = false := by rw [h47]; decide
          have f4 : decide (x = 13) = false := by rw [h47]; decide
          rw [f1] at e32
          rw [f2] at e9
          rw [f3] at e10
          rw [f4] at e13
          have n32 : ((x.toNat : Int) != 32) = true := by rw [bne, e32]; rfl
          have n9 : ((x.toNat : Int) != 9) = true := by rw [bne, e9]; rfl
          have n10 : ((x.toNat : Int) != 10) = true := by rw [bne, e10]; rfl
          have n13 : ((x.toNat : Int) != 13) = true := by rw [bne, e13]; rfl
          clear f1 f2 f3 f4
          have hb : lxB x = false := by rw [h47]; decide
          by_cases hl2 : k + 1 < s.size
          · obtain ⟨y, hy⟩ : ∃ y, y = s[k + 1]'hl2 := ⟨_, rfl⟩
            have hhd := HHD.out hl2
            rw [← hy] at hhd
            have hy' := hy.symm
            have y47 := u8_eq_int y 47
            rw [show (((47 : UInt8).toNat : Nat) : Int) = 47 from rfl] at y47
            have hw : wrap64 ((k : Int) + 1) = (k : Int) + 1 := by unfold wrap64; omega
            by_cases h2 : y = 47
            · rw [show decide (y = 47) = true from by simpa using h2] at y47
              have HG2 : Hid (k + 1 + gapC true ((lS s).drop (k + 1)) = N) := Lib.hid (by
                have : gapC false (x :: (lS s).drop (k + 1)) = gapC true ((lS s).drop (k + 1)) + 1 := by
                  show (if x = 47 ∧ _ then _ else _) = _
                  rw [if_pos ⟨h47, by rw [hhd, h2]⟩]
                omega)
              clear HST HBL hg hd hhd h47 h2 HHD hy hb
              go_wp2
              go_roundw
              case rel => exact ⟨k + 1, true, by omega, by go_num, rfl, HG2, by first | rfl | trivial⟩
              case measure => simp [intOf]; omega
            · rw [show decide (y = 47) = false from by simpa using h2] at y47
              have HE : Hid (N = k) := Lib.hid (HST hb fun h => h2 (by rw [hhd] at h; injection h.2))
              clear HST HBL hg hd hhd h47 h2 HHD hy hb
              go_wp2
              go_ret
              exact ⟨by rw [HE.out]; rfl, rfl⟩
          · have HE : Hid (N = k) := Lib.hid (HST hb fun h => by
              have := h.2
              rw [List.drop_of_length_le (by rw [lS_len]; omega)] at this
              cases this)
            have hw : wrap64 ((k : Int) + 1) = (k : Int) + 1 := by unfold wrap64; omega
            clear HST HBL hg hd h47 HHD hb
            go_wp2
            go_ret
            exact ⟨by rw [HE.out]; rfl, rfl⟩
        · rw [show decide (x = 47) = false from by simpa using h47] at e47
          by_cases hb : lxB x = true
          · have HG2 := Lib.hid (HBL hb)
            have hb4 : x = 32 ∨ x = 9 ∨ x = 10 ∨ x = 13 := by
              unfold lxB at hb
              simp only [Bool.or_eq_true, beq_iff_eq] at hb
              rcases hb with ((h | h) | h) | h
              · exact .inl h
              · exact .inr (.inl h)
              · exact .inr (.inr (.inl h))
              · exact .inr (.inr (.inr h))
            clear HST HBL hg hd HHD hb h47
            rcases hb4 with h | h | h | h
            all_goals
              subst h
              simp only [show decide ((32 : UInt8) = 32) = true from by decide, show decide ((9 : UInt8) = 32) = false from by decide, show decide ((9 : UInt8) = 9) = true from by decide, show decide ((10 : UInt8) = 32) = false from by decide, show decide ((10 : UInt8) = 9) = false from by decide, show decide ((10 : UInt8) = 10) = true from by decide, show decide ((13 : UInt8) = 32) = false from by decide, show decide ((13 : UInt8) = 9) = false from by decide, show decide ((13 : UInt8) = 10) = false from by decide, show decide ((13 : UInt8) = 13) = true from by decide] at e32 e9 e10 e13
              go_wp2
              go_roundw
              case rel => exact ⟨k + 1, false, by omega, by go_num, rfl, HG2, by first | rfl | trivial⟩
              case measure => simp [intOf]; omega
          · have hb' : lxB x = false := by simpa using hb
            have HE : Hid (N = k) := Lib.hid (HST hb' fun h => h47 h.1)
            have f1 : decide (x = 32) = false := by simp; rintro rfl; exact absurd hb' (by decide)
            have f2 : decide (x = 9) = false := by simp; rintro rfl; exact absurd hb' (by decide)
            have f3 : decide (x = 10) = false := by simp; rintro rfl; exact absurd hb' (by decide)
            have f4 : decide (x = 13) = false := by simp; rintro rfl; exact absurd hb' (by decide)
            rw [f1] at e32
            rw [f2] at e9
            rw [f3] at e10
            rw [f4] at e13
            have n32 : ((x.toNat : Int) != 32) = true := by rw [bne, e32]; rfl
            have n9 : ((x.toNat : Int) != 9) = true := by rw [bne, e9]; rfl
            have n10 : ((x.toNat : Int) != 10) = true := by rw [bne, e10]; rfl
            have n13 : ((x.toNat : Int) != 13) = true := by rw [bne, e13]; rfl
            clear HST HBL hg hd HHD hb hb' f1 f2 f3 f4 h47
            go_wp2
            go_ret
            exact ⟨by rw [HE.out]; rfl, rfl⟩
    · obtain rfl : k = s.size := by omega
      have HE : Hid (N = s.size) := Lib.hid (by
        have := HG.out
        rw [List.drop_of_length_le (by rw [lS_len]; omega)] at this
        cases b <;> simpa [gapC] using this.symm)
      clear HG
      go_wp2
      go_ret
      exact ⟨by rw [HE.out]; rfl, rfl⟩
end Go.Proofs.YthmgkjfohkadoaaGreatDoor

/- lexer: the document's escape. By tools/mklxrb.py. -/
namespace Go.Proofs.YthmgkjfohkadoaaGreatDoor
open Go.RowKit
set_option linter.unusedVariables false
set_option linter.unusedSimpArgs false

theorem hxJ_some {x : UInt8} {n : Nat} (h : hxV x = some n) : hxJ x = (n : Int) := by unfold hxJ; rw [h]
theorem hxJ_none {x : UInt8} (h : hxV x = none) : hxJ x = -1 := by unfold hxJ; rw [h]
theorem hxV_ltR {x : UInt8} {n : Nat} (h : hxV x = some n) : n < 16 := by
  unfold hxV at h
  split at h
  · rename_i hd
    rw [lxD_nat, decide_eq_true_eq] at hd
    injection h with h
    omega
  · split at h
    · rename_i hd
      rw [UInt8.le_iff_toNat_le, UInt8.le_iff_toNat_le] at hd
      injection h with h
      have h1 : x.toNat ≤ 102 := hd.2
      omega
    · cases h
theorem esc_hexR {a b : UInt8} {r : Bs} {m n : Nat} (ha : hxV a = some m) (hb : hxV b = some n) : escR (120 :: a :: b :: r) = (UInt8.ofNat (m * 16 + n), 3) := by
  show (match hxV a, hxV b with | some i, some j => (UInt8.ofNat (i * 16 + j), 3) | _, _ => ((0 : UInt8), 0)) = _
  rw [ha, hb]
theorem esc_hexA {a b : UInt8} {r : Bs} (ha : hxV a = none) : escR (120 :: a :: b :: r) = (0, 0) := by
  show (match hxV a, hxV b with | some i, some j => (UInt8.ofNat (i * 16 + j), 3) | _, _ => ((0 : UInt8), 0)) = _
  rw [ha]
theorem esc_hexB {a b : UInt8} {r : Bs} (hb : hxV b = none) : escR (120 :: a :: b :: r) = (0, 0) := by
  show (match hxV a, hxV b with | some i, some j => (UInt8.ofNat (i * 16 + j), 3) | _, _ => ((0 : UInt8), 0)) = _
  rw [hb]
  cases hxV a <;> rfl
theorem esc_short {r : Bs} (h : r.length < 2) : escR (120 :: r) = (0, 0) := by
  rcases r with _ | ⟨a, _ | ⟨b, r⟩⟩
  · rfl
  · rfl
  · simp only [List.length_cons] at h
    omega
theorem esc_other {c : UInt8} {r : Bs} (h1 : c ≠ 92) (h2 : c ≠ 39) (h3 : c ≠ 110) (h4 : c ≠ 114) (h5 : c ≠ 116) (h6 : c ≠ 120) : escR (c :: r) = (0, 0) := by
  show (if c = 92 ∨ c = 39 then (c, 1) else if c = 110 then _ else if c = 114 then _ else if c = 116 then _ else if c = 120 then _ else (0, 0)) = _
  rw [if_neg (fun h => h.elim h1 h2), if_neg h3, if_neg h4, if_neg h5, if_neg h6]
theorem u8_ne_int {x n : UInt8} (h : x ≠ n) : ((x.toNat : Int) == (n.toNat : Int)) = false := by rw [u8_eq_int]; simpa using h
def EscF (l : Bs) (w : World) (e : Ending) (w' : World) : Prop := e = .returned (.tuple #[.int .u8 ((escR l).1.toNat : Int), .int .i64 ((escR l).2 : Int)]) ∧ Below w.heap.size w w'
set_option maxRecDepth 100000 in
set_option maxHeartbeats 1000000 in
theorem refEscape_any (s : ByteArray) (p : Nat) (w : World) (hp : p ≤ s.size) (hs : s.size ≤ 1073741824) :
    Calls Tryz.prog 48 #[.string s, .int .i64 (p : Int)] w (EscF ((lS s).drop p) w) := by
  unfold EscF
  have HREF := Lib.hid (Below.refl w.heap.size w)
  by_cases hlt : p < s.size
  · have hd := drop_at hlt
    obtain ⟨x, hx⟩ : ∃ x, x = s[p]'hlt := ⟨_, rfl⟩
    rw [← hx] at hd
    have hx' := hx.symm
    have hks : p < s.size := hlt
    rw [hd]
    clear hx
    by_cases h5 : x = 92 ∨ x = 39 ∨ x = 110 ∨ x = 114 ∨ x = 116
    · clear hd
      rcases h5 with h | h | h | h | h
      all_goals
        subst h
        go_enter Tryz.func48, Tryz.ntmps48
        go_wp2
        go_ret2
        exact ⟨rfl, HREF.out⟩
    · have n92 : ((x.toNat : Int) == 92) = false := u8_ne_int (n := 92) fun h => h5 (.inl h)
      have n39 : ((x.toNat : Int) == 39) = false := u8_ne_int (n := 39) fun h => h5 (.inr (.inl h))
      have n110 : ((x.toNat : Int) == 110) = false := u8_ne_int (n := 110) fun h => h5 (.inr (.inr (.inl h)))
      have n114 : ((x.toNat : Int) == 114) = false := u8_ne_int (n := 114) fun h => h5 (.inr (.inr (.inr (.inl h))))
      have n116 : ((x.toNat : Int) == 116) = false := u8_ne_int (n := 116) fun h => h5 (.inr (.inr (.inr (.inr h))))
      by_cases h6 : x = 120
      · subst h6
        clear h5 n92 n39 n110 n114 n116
        have hw2 : wrap64 ((p : Int) + 2) = (p : Int) + 2 := by unfold wrap64; omega
        have hw1 : wrap64 ((p : Int) + 1) = (p : Int) + 1 := by unfold wrap64; omega
        by_cases hl2 : p + 2 < s.size
        · have hl1 : p + 1 < s.size := by omega
          obtain ⟨a, ha⟩ : ∃ a, a = s[p + 1]'hl1 := ⟨_, rfl⟩
          obtain ⟨b, hb⟩ : ∃ b, b = s[p + 2]'hl2 := ⟨_, rfl⟩
          have hd2 : (lS s).drop (p + 1) = a :: b :: (lS s).drop (p + 3) := by rw [drop_at hl1, drop_at hl2, ha, hb]
          rw [hd2]
          have ha' := ha.symm
          have hb' := hb.symm
          have HA := Lib.hid fun w => refHex_any a w
          have HB := Lib.hid fun w => refHex_any b w
          have hi2 : (p : Int) + 2 < (s.size : Int) := by omega
          clear hd hd2 ha hb
          cases va : hxV a with
          | none =>
            have hesc := esc_hexA (b := b) (r := (lS s).drop (p + 3)) va
            rw [hxJ_none va] at HA
            clear va
            go_enter Tryz.func48, Tryz.ntmps48
            go_wp2_with fail
            refine (HA.out _).mono ?_
            rintro e w2 ⟨rfl, rfl⟩
            go_wp2
            go_ret2
            exact ⟨by first | rfl | (rw [hesc]; rfl), HREF.out⟩
          | some m =>
            have hm := hxV_ltR va
            cases vb : hxV b with
            | none =>
              have hesc := esc_hexB (a := a) (r := (lS s).drop (p + 3)) vb
              rw [hxJ_some va] at HA
              rw [hxJ_none vb] at HB
              clear va vb
              go_enter Tryz.func48, Tryz.ntmps48
              go_wp2_with fail
              refine (HA.out _).mono ?_
              rintro e w2 ⟨rfl, rfl⟩
              go_wp2_with fail
              refine (HB.out _).mono ?_
              rintro e w2 ⟨rfl, rfl⟩
              go_wp2
              go_ret2
              exact ⟨by first | rfl | (rw [hesc]; rfl), HREF.out⟩
            | some n =>
              have hn := hxV_ltR vb
              have hesc := esc_hexR (r := (lS s).drop (p + 3)) va vb
              have e1 : wrap64 ((m : Int) * 16) = (m : Int) * 16 := by unfold wrap64; omega
              have e2 : wrap64 ((m : Int) * 16 + (n : Int)) = (m : Int) * 16 + (n : Int) := by unfold wrap64; omega
              have e3 : IntKind.u8.wrap ((m : Int) * 16 + (n : Int)) = (m : Int) * 16 + (n : Int) := by rw [IntKind.wrap_u8]; omega
              have e4 : (((UInt8.ofNat (m * 16 + n)).toNat : Nat) : Int) = (m : Int) * 16 + (n : Int) := by
                rw [UInt8.toNat_ofNat', Nat.mod_eq_of_lt (by omega)]
                omega
              rw [hxJ_some va] at HA
              rw [hxJ_some vb] at HB
              have iw1 : IntKind.i64.wrap ((p : Int) + 1) = (p : Int) + 1 := by rw [IntKind.wrap_i64]; omega
              have iw2 : IntKind.i64.wrap ((p : Int) + 2) = (p : Int) + 2 := by rw [IntKind.wrap_i64]; omega
              have iw3 : IntKind.i64.wrap ((m : Int) * 16) = (m : Int) * 16 := by rw [IntKind.wrap_i64]; omega
              have iw4 : IntKind.i64.wrap ((m : Int) * 16 + (n : Int)) = (m : Int) * 16 + (n : Int) := by rw [IntKind.wrap_i64]; omega
              have t1 : ((p : Int) + 1).toNat = p + 1 := by omega
              have t2 : ((p : Int) + 2).toNat = p + 2 := by omega
              have z1 : 0 ≤ (p : Int) + 1 := by omega
              have z2 : 0 ≤ (p : Int) + 2 := by omega
              have z3 : (p : Int) + 1 < (s.size : Int) := by omega
              have HDR : Hid (Below w.heap.size w w.drew) := Lib.hid ((Below.refl _ _).drew)
              rw [hesc]
              rw [e4]
              clear va vb hesc e4
              go_enter Tryz.func48, Tryz.ntmps48
              go_wp2_with fail
              refine (HA.out _).mono ?_
              rintro e w2 ⟨rfl, rfl⟩
              go_wp2_with fail
              refine (HB.out _).mono ?_
              rintro e w2 ⟨rfl, rfl⟩
              go_wp2_with fail
              refine wp_region_held_drew (S := (fun _ => True)) (by kernel_rfl) (by (try dsimp only); done) (fun hHeld => ?_)
              refine wpAnyH_take (i := 0) (v := ?_) rfl (by kernel_rfl) (by kernel_rfl) (by kernel_rfl) (fun _ _ _ h => h) (Or.inl ⟨by rfl, ?_⟩) (by assumption) ?_
              rotate_left
              · (intro w hSw; (try dsimp only at hSw); go_simp; try with_reducible rfl)
              try simp only [Act.put, List.getElem_toArray, List.getElem_cons_zero, List.getElem_cons_succ, List.setIfInBounds_toArray, List.set_cons_zero, List.set_cons_succ]
              refine wpAnyH_take (i := 1) (v := ?_) rfl (by kernel_rfl) (by kernel_rfl) (by kernel_rfl) (fun _ _ _ h => h) (Or.inl ⟨by rfl, ?_⟩) (by assumption) ?_
              rotate_left
              · (intro w hSw; (try dsimp only at hSw); go_simp; try with_reducible rfl)
              try simp only [Act.put, List.getElem_toArray, List.getElem_cons_zero, List.getElem_cons_succ, List.setIfInBounds_toArray, List.set_cons_zero, List.set_cons_succ]
              refine wpAnyH_take (i := 2) (v := ?_) rfl (by kernel_rfl) (by kernel_rfl) (by kernel_rfl) (fun _ _ _ h => h) (Or.inl ⟨by rfl, ?_⟩) (by assumption) ?_
              rotate_left
              · (intro w hSw; (try dsimp only at hSw); go_simp; try with_reducible rfl)
              try simp only [Act.put, List.getElem_toArray, List.getElem_cons_zero, List.getElem_cons_succ, List.setIfInBounds_toArray, List.set_cons_zero, List.set_cons_succ]
              refine wpAnyH_take (i := 3) (v := ?_) rfl (by kernel_rfl) (by kernel_rfl) (by kernel_rfl) (fun _ _ _ h => h) (Or.inl ⟨by rfl, ?_⟩) (by assumption) ?_
              rotate_left
              · (intro w hSw; (try dsimp only at hSw); go_simp; try with_reducible rfl)
              try simp only [Act.put, List.getElem_toArray, List.getElem_cons_zero, List.getElem_cons_succ, List.setIfInBounds_toArray, List.set_cons_zero, List.set_cons_succ]
              refine wpAnyH_take (i := 6) (v := ?_) rfl (by kernel_rfl) (by kernel_rfl) (by kernel_rfl) (fun _ _ _ h => h) (Or.inl ⟨by rfl, ?_⟩) (by assumption) ?_
              rotate_left
              · (intro w hSw; (try dsimp only at hSw); go_simp; try with_reducible rfl)
              try simp only [Act.put, List.getElem_toArray, List.getElem_cons_zero, List.getElem_cons_succ, List.setIfInBounds_toArray, List.set_cons_zero, List.set_cons_succ]
              refine wpAnyH_take (i := 7) (v := ?_) rfl (by kernel_rfl) (by kernel_rfl) (by kernel_rfl) (fun _ _ _ h => h) (Or.inl ⟨by rfl, ?_⟩) (by assumption) ?_
              rotate_left
              · (intro w hSw; (try dsimp only at hSw); go_simp; try with_reducible rfl)
              try simp only [Act.put, List.getElem_toArray, List.getElem_cons_zero, List.getElem_cons_succ, List.setIfInBounds_toArray, List.set_cons_zero, List.set_cons_succ]
              refine wpAnyH_take (i := 8) (v := ?_) rfl (by kernel_rfl) (by kernel_rfl) (by kernel_rfl) (fun _ _ _ h => h) (Or.inl ⟨by rfl, ?_⟩) (by assumption) ?_
              rotate_left
              · (intro w hSw; (try dsimp only at hSw); go_simp; try with_reducible rfl)
              try simp only [Act.put, List.getElem_toArray, List.getElem_cons_zero, List.getElem_cons_succ, List.setIfInBounds_toArray, List.set_cons_zero, List.set_cons_succ]
              refine wpAnyH_take (i := 9) (v := ?_) rfl (by kernel_rfl) (by kernel_rfl) (by kernel_rfl) (fun _ _ _ h => h) (Or.inl ⟨by rfl, ?_⟩) (by assumption) ?_
              rotate_left
              · (intro w hSw; (try dsimp only at hSw); go_simp; try with_reducible rfl)
              try simp only [Act.put, List.getElem_toArray, List.getElem_cons_zero, List.getElem_cons_succ, List.setIfInBounds_toArray, List.set_cons_zero, List.set_cons_succ]
              refine wpAnyH_ready (rs := [4]) (by kernel_rfl) (by simp) ?_
              refine AllReadyH.cons rfl (fun K hK => ?_) AllReadyH.nil
              go_simp
              go_at_call 61
              refine (HA.out _).mono ?_
              rintro e w2 ⟨rfl, rfl⟩
              refine hK.out _ _ (by (try dsimp only); done) (fun hHeld => ?_)
              clear hK K
              try simp only [Act.put, List.getElem_toArray, List.getElem_cons_zero, List.getElem_cons_succ, List.setIfInBounds_toArray, List.set_cons_zero, List.set_cons_succ]
              refine wpAnyH_take (i := 5) (v := ?_) rfl (by kernel_rfl) (by kernel_rfl) (by kernel_rfl) (fun _ _ _ h => h) (Or.inl ⟨by rfl, ?_⟩) (by assumption) ?_
              rotate_left
              · (intro w hSw; (try dsimp only at hSw); go_simp; try with_reducible rfl)
              try simp only [Act.put, List.getElem_toArray, List.getElem_cons_zero, List.getElem_cons_succ, List.setIfInBounds_toArray, List.set_cons_zero, List.set_cons_succ]
              refine wpAnyH_ready (rs := [10]) (by kernel_rfl) (by simp) ?_
              refine AllReadyH.cons rfl (fun K hK => ?_) AllReadyH.nil
              go_simp
              go_at_call 61
              refine (HB.out _).mono ?_
              rintro e w2 ⟨rfl, rfl⟩
              refine hK.out _ _ (by (try dsimp only); done) (fun hHeld => ?_)
              clear hK K
              try simp only [Act.put, List.getElem_toArray, List.getElem_cons_zero, List.getElem_cons_succ, List.setIfInBounds_toArray, List.set_cons_zero, List.set_cons_succ]
              refine wpAnyH_take (i := 11) (v := ?_) rfl (by kernel_rfl) (by kernel_rfl) (by kernel_rfl) (fun _ _ _ h => h) (Or.inl ⟨by rfl, ?_⟩) (by assumption) ?_
              rotate_left
              · (intro w hSw; (try dsimp only at hSw); go_simp; try with_reducible rfl)
              try simp only [Act.put, List.getElem_toArray, List.getElem_cons_zero, List.getElem_cons_succ, List.setIfInBounds_toArray, List.set_cons_zero, List.set_cons_succ]
              refine wpAnyH_take (i := 12) (v := ?_) rfl (by kernel_rfl) (by kernel_rfl) (by kernel_rfl) (fun _ _ _ h => h) (Or.inl ⟨by rfl, ?_⟩) (by assumption) ?_
              rotate_left
              · (intro w hSw; (try dsimp only at hSw); go_simp; try with_reducible rfl)
              try simp only [Act.put, List.getElem_toArray, List.getElem_cons_zero, List.getElem_cons_succ, List.setIfInBounds_toArray, List.set_cons_zero, List.set_cons_succ]
              refine wpAnyH_take (i := 13) (v := ?_) rfl (by kernel_rfl) (by kernel_rfl) (by kernel_rfl) (fun _ _ _ h => h) (Or.inl ⟨by rfl, ?_⟩) (by assumption) ?_
              rotate_left
              · (intro w hSw; (try dsimp only at hSw); go_simp; try with_reducible rfl)
              try simp only [Act.put, List.getElem_toArray, List.getElem_cons_zero, List.getElem_cons_succ, List.setIfInBounds_toArray, List.set_cons_zero, List.set_cons_succ]
              refine wpAnyH_take (i := 14) (v := ?_) rfl (by kernel_rfl) (by kernel_rfl) (by kernel_rfl) (fun _ _ _ h => h) (Or.inl ⟨by rfl, ?_⟩) (by assumption) ?_
              rotate_left
              · (intro w hSw; (try dsimp only at hSw); go_simp; try with_reducible rfl)
              try simp only [Act.put, List.getElem_toArray, List.getElem_cons_zero, List.getElem_cons_succ, List.setIfInBounds_toArray, List.set_cons_zero, List.set_cons_succ]
              refine wpAnyH_done (by kernel_rfl) ?_ _
              go_wp2
              go_ret2
              exact ⟨by first | rfl | (simp [e3]; done), HDR.out⟩
        · have hesc : escR (120 :: (lS s).drop (p + 1)) = (0, 0) := esc_short (by rw [List.length_drop, lS_len]; omega)
          have hi2 : ¬ (p : Int) + 2 < (s.size : Int) := by omega
          clear hd
          go_enter Tryz.func48, Tryz.ntmps48
          go_wp2
          go_ret2
          exact ⟨by first | rfl | (rw [hesc]; rfl), HREF.out⟩
      · have n120 : ((x.toNat : Int) == 120) = false := u8_ne_int (n := 120) h6
        have hesc := esc_other (r := (lS s).drop (p + 1)) (fun h => h5 (.inl h)) (fun h => h5 (.inr (.inl h))) (fun h => h5 (.inr (.inr (.inl h)))) (fun h => h5 (.inr (.inr (.inr (.inl h))))) (fun h => h5 (.inr (.inr (.inr (.inr h))))) h6
        clear h5 h6 hd
        go_enter Tryz.func48, Tryz.ntmps48
        go_wp2
        go_ret2
        exact ⟨by first | rfl | (rw [hesc]; rfl), HREF.out⟩
  · have hesc : escR ((lS s).drop p) = (0, 0) := by rw [List.drop_of_length_le (by rw [lS_len]; omega)]; rfl
    rw [hesc]
    go_enter Tryz.func48, Tryz.ntmps48
    go_wp2
    go_ret2
    exact ⟨rfl, HREF.out⟩
end Go.Proofs.YthmgkjfohkadoaaGreatDoor

/- lexer: the document's text. By tools/mklxrc.py. -/
namespace Go.Proofs.YthmgkjfohkadoaaGreatDoor
open Go.RowKit
set_option linter.unusedVariables false
set_option linter.unusedSimpArgs false

/-- what the document's readers of a token answer -/
def RTokF (p : Nat) (r : Except (Nat × Int) (Tk × Nat)) (w : World) (e : Ending) (w' : World) : Prop :=
  match r with
  | .error x => e = .returned (.tuple #[tkV (tk0 x.1), .int .i64 0, .int .i64 x.2]) ∧ Below w.heap.size w w'
  | .ok x => e = .returned (.tuple #[tkV x.1, .int .i64 ((p + x.2 : Nat) : Int), .int .i64 0]) ∧ Below w.heap.size w w'
noncomputable def txtR (p : Nat) (s : ByteArray) : Except (Nat × Int) (Tk × Nat) := match txtG p (p + 1) [] ((lS s).drop (p + 1)) with | .error e => .error e | .ok (t, i) => .ok (⟨4, t, 0, p⟩, i - p)
theorem txtR_bad {p : Nat} {s : ByteArray} {e : Nat × Int} (h : txtG p (p + 1) [] ((lS s).drop (p + 1)) = .error e) : txtR p s = .error e := by unfold txtR; rw [h]
theorem txtR_ok {p : Nat} {s : ByteArray} {t : Bs} {i : Nat} (h : txtG p (p + 1) [] ((lS s).drop (p + 1)) = .ok (t, i)) : txtR p s = .ok (⟨4, t, 0, p⟩, i - p) := by unfold txtR; rw [h]
theorem txt_x39 {p i : Nat} {acc r : Bs} : txtG p i acc (39 :: r) = .ok (acc, i + 1) := by rw [txtG, if_pos rfl]
theorem txt_xno {p i : Nat} {acc r : Bs} {x : UInt8} (h : x ≠ 39) (h2 : lxP x = false) : txtG p i acc (x :: r) = .error (i, 240) := by rw [txtG, if_neg h, if_pos h2]
theorem txt_xes0 {p i : Nat} {acc r : Bs} (h : (escR r).2 = 0) : txtG p i acc (92 :: r) = .error (i, 242) := by rw [txtG, if_neg (by decide), if_neg (by decide), if_pos rfl, if_pos h]
theorem txt_xes {p i : Nat} {acc r : Bs} (h : (escR r).2 ≠ 0) : txtG p i acc (92 :: r) = txtG p (i + 1 + (escR r).2) (acc ++ [(escR r).1]) (r.drop (escR r).2) := by rw [txtG, if_neg (by decide), if_neg (by decide), if_pos rfl, if_neg h]
theorem txt_xany {p i : Nat} {acc r : Bs} {x : UInt8} (h : x ≠ 39) (h2 : lxP x = true) (h3 : x ≠ 92) : txtG p i acc (x :: r) = txtG p (i + 1) (acc ++ [x]) r := by rw [txtG, if_neg h, if_neg (by rw [h2]; decide), if_neg h3]
theorem esc_le {r : Bs} (h : (escR r).2 ≠ 0) : (escR r).2 ≤ r.length := (esc_app r [] h).2
theorem w64_small {a : Int} (h1 : 0 ≤ a) (h2 : a ≤ 4294967296) : wrap64 a = a := by unfold wrap64; omega
theorem rtok_bad {p : Nat} {r : Except (Nat × Int) (Tk × Nat)} {w w' : World} {x : Nat} {E : Int} (h : r = .error (x, E)) (hb : Below w.heap.size w w') :
    RTokF p r w (.returned (.tuple #[.agg #[.int .i64 0, .string ⟨#[]⟩, .int .i64 0, .int .i64 (x : Int)], .int .i64 0, .int .i64 E])) w' := by
  rw [h]
  exact ⟨rfl, hb⟩
theorem rtok_ok {p n : Nat} {r : Except (Nat × Int) (Tk × Nat)} {w w' : World} {t : Tk} {d : ByteArray} {e k m q : Int} (h : r = .ok (t, n)) (hb : Below w.heap.size w w') (hd : d = mkS t.t) (hk : k = t.k) (hm : m = t.n) (hq : q = (t.p : Int)) (he : e = ((p + n : Nat) : Int)) :
    RTokF p r w (.returned (.tuple #[.agg #[.int .i64 k, .string d, .int .i64 m, .int .i64 q], .int .i64 e, .int .i64 0])) w' := by
  subst hd hk hm hq he
  rw [h]
  exact ⟨rfl, hb⟩
set_option maxRecDepth 100000 in
set_option maxHeartbeats 400000 in
theorem refText_any (s : ByteArray) (p : Nat) (w : World) (hp : p < s.size) (hs : s.size ≤ 1073741824) :
    Calls Tryz.prog 29 #[.string s, .int .i64 (p : Int)] w (RTokF p (txtR p s) w) := by
  obtain ⟨N, hN⟩ : ∃ N, N = w.heap.size := ⟨_, rfl⟩
  have H0 : Hid (St Zf [ObA 5 (.slice (some ⟨w.heap.size + 1, 0, none⟩) 0 0) [], BlkA w.heap.size 30 tkZ] w ((w.alloc (.cells tkZ 30)).alloc (.cells #[] 5))) := Lib.hid (((St.start Zf w).newBlk 30 tkZ).newNilB 5 (by simp))
  rw [← hN] at H0
  have HN := Lib.hid hN
  have HX : Hid (∀ k (h : k < s.size), (lS s).drop k = s[k]'h :: (lS s).drop (k + 1)) := Lib.hid fun k h => drop_at h
  have HE : Hid (∀ k w', k ≤ s.size → Calls Tryz.prog 48 #[.string s, .int .i64 (k : Int)] w' (EscF ((lS s).drop k) w')) := Lib.hid fun k w' h => refEscape_any s k w' h hs
  have HL : Hid ((lS s).length = s.size) := Lib.hid (lS_len s)
  obtain ⟨i0, hi, hz0, hz1, hz2⟩ := info_parts u8_info
  have hpw : wrap64 ((p : Int) + 1) = (p : Int) + 1 := by unfold wrap64; omega
  go_enter Tryz.func29, Tryz.ntmps29
  go_wp2
  rw [← hN]
  clear hN
  go_loopw [7, 8, 9, 10, 11] (fun v i _ _ _ wr => ∃ (k : Nat) (A : Option Addr) (c : Nat) (O : List Nat) (acc : Bs), k ≤ s.size ∧ v = .slice A O.length c ∧ i = .int .i64 k ∧ Hid (O = nb acc) ∧ Hid (acc.length ≤ k) ∧ p < k ∧ Hid (txtG p (p + 1) [] ((lS s).drop (p + 1)) = txtG p k acc ((lS s).drop k)) ∧ Hid (St Zf [ObA 5 (.slice A O.length c) O, BlkA N 30 tkZ] w wr)) (fun _ i _ _ _ _ => s.size - (intOf i).toNat)
  case atStart => exact ⟨p + 1, _, _, [], [], by omega, rfl, by go_num, Lib.hid rfl, Lib.hid (Nat.zero_le _), by omega, Lib.hid rfl, H0⟩
  case round =>
    obtain ⟨k, A, c, O, acc, hk, rfl, rfl, HO, HA, hpk, HT, HST⟩ := hrel
    clear H0 hpw
    have HLn : Hid (O.length + 1 ≤ 140737488355328) := Lib.hid (by have := HA.out; rw [HO.out, nb_len]; omega)
    obtain ⟨⟨d0, d1, d2, d3⟩, f0, l1⟩ := blk4 HST.out.swap
    have F0 := f0 0
    have F1 := f0 1
    have F2 := f0 2
    have F3 := f0 3
    clear f0
    have hkw : wrap64 ((k : Int) + 1) = (k : Int) + 1 := by unfold wrap64; omega
    have hkw2 : wrap64 ((k : Int) + 1 - 1) = (k : Int) := by unfold wrap64; omega
    by_cases hlt : k < s.size
    · have hks : k < s.size := hlt
      have hd := HX.out k hks
      obtain ⟨x, hx⟩ : ∃ x, x = s[k]'hks := ⟨_, rfl⟩
      rw [← hx] at hd
      have hx' := hx.symm
      have hx255 := x.toNat_lt
      have ht := HT.out
      rw [hd] at ht
      clear hx HT hd
      by_cases h39 : x = 39
      · subst h39
        rw [txt_x39] at ht
        have HR := Lib.hid (txtR_ok ht)
        have hcv := run_bytes_str (P := Tryz.prog) (w := wr) 56 9 5 c Tryz.underlying56 Tryz.underlying5 Tryz.underlying9 HST.out.ob.reads.2.1
        clear ht
        go_wp2_with fail
        have HF := Lib.hid ((((HST.out.swap.setBlk 0 (.int .i64 4)).setBlk 1 (.string (strOf O))).setBlk 2 (.int .i64 0)).setBlk 3 (.int .i64 (p : Int)))
        have HF2 := HF.out
        simp only [List.setIfInBounds_toArray, List.set_cons_zero, List.set_cons_succ] at HF2
        refine bodyPost_ret (results_agg3 rfl _ _ N 30 _ _ rfl HF2.blk Tryz.underlying30 rfl (by kernel_rfl)) rfl ?_
        exact rtok_ok HR.out HF.out.bel (by rw [HO.out, strOf_nb]) rfl rfl rfl (by show (k : Int) + 1 = _; omega)
      · have n39 : ((x.toNat : Int) == 39) = false := u8_ne_int (n := 39) h39
        cases hP : lxP x with
        | false =>
          rw [txt_xno h39 hP] at ht
          have HR := Lib.hid (txtR_bad ht)
          have hsm := lxP_no hP
          clear ht h39 hP
          rcases hsm with hsm | hsm
          · go_wp2_with fail
            have HF := Lib.hid ((((HST.out.swap.setBlk 0 (.int .i64 0)).setBlk 1 (.string ⟨#[]⟩)).setBlk 2 (.int .i64 0)).setBlk 3 (.int .i64 (k : Int)))
            have HF2 := HF.out
            simp only [List.setIfInBounds_toArray, List.set_cons_zero, List.set_cons_succ] at HF2
            refine bodyPost_ret (results_agg3 rfl _ _ N 30 _ _ rfl HF2.blk Tryz.underlying30 rfl (by kernel_rfl)) rfl ?_
            exact rtok_bad HR.out HF.out.bel
          · have hsm2 : ¬ ((x.toNat : Int) < 32) := by omega
            go_wp2_with fail
            have HF := Lib.hid ((((HST.out.swap.setBlk 0 (.int .i64 0)).setBlk 1 (.string ⟨#[]⟩)).setBlk 2 (.int .i64 0)).setBlk 3 (.int .i64 (k : Int)))
            have HF2 := HF.out
            simp only [List.setIfInBounds_toArray, List.set_cons_zero, List.set_cons_succ] at HF2
            refine bodyPost_ret (results_agg3 rfl _ _ N 30 _ _ rfl HF2.blk Tryz.underlying30 rfl (by kernel_rfl)) rfl ?_
            exact rtok_bad HR.out HF.out.bel
        | true =>
          obtain ⟨g1, g2⟩ := lxP_yes hP
          by_cases h92 : x = 92
          · have n92 : ((x.toNat : Int) == 92) = true := by rw [h92]; decide
            rw [h92] at ht
            clear h92
            have HEC := Lib.hid (HE.out (k + 1) wr (by omega))
            unfold EscF at HEC
            have hcast : ((k + 1 : Nat) : Int) = (k : Int) + 1 := by omega
            rw [hcast] at HEC
            have HDD : Hid (∀ n, ((lS s).drop (k + 1)).drop n = (lS s).drop (k + 1 + n)) := Lib.hid fun n => List.drop_drop
            have HLL : Hid (((lS s).drop (k + 1)).length = s.size - (k + 1)) := Lib.hid (by rw [List.length_drop, HL.out])
            generalize (lS s).drop (k + 1) = l at ht HEC HDD HLL
            obtain ⟨ec, en, hes⟩ : ∃ ec en, escR l = (ec, en) := ⟨_, _, rfl⟩
            have hes2 : (escR l).2 = en := by rw [hes]
            rw [hes] at HEC
            dsimp only at HEC
            by_cases hn0 : en = 0
            · have ht2 : txtG p k acc (92 :: l) = .error (k, 242) := txt_xes0 (hes2.trans hn0)
              have HR := Lib.hid (txtR_bad (ht.trans ht2))
              rw [hn0] at HEC
              clear ht2 hes2
              clear ht h39 hP hes hn0
              go_wp2_with fail
              refine HEC.out.mono ?_
              rintro e w2 ⟨rfl, b2⟩
              have HST2 := Lib.hid (HST.out.below b2)
              obtain ⟨⟨e0, e1, e2, e3⟩, f0, l2⟩ := blk4 HST2.out.swap
              have G0 := f0 0
              have G1 := f0 1
              have G2 := f0 2
              have G3 := f0 3
              clear f0 b2
              go_wp2_with fail
              have HF := Lib.hid ((((HST2.out.swap.setBlk 0 (.int .i64 0)).setBlk 1 (.string ⟨#[]⟩)).setBlk 2 (.int .i64 0)).setBlk 3 (.int .i64 (k : Int)))
              have HF2 := HF.out
              simp only [List.setIfInBounds_toArray, List.set_cons_zero, List.set_cons_succ] at HF2
              refine bodyPost_ret (results_agg3 rfl _ _ N 30 _ _ rfl HF2.blk Tryz.underlying30 rfl (by kernel_rfl)) rfl ?_
              exact rtok_bad HR.out HF.out.bel
            · have hne : (escR l).2 ≠ 0 := fun h => hn0 (hes2.symm.trans h)
              have ht2 := txt_xes (p := p) (i := k) (acc := acc) hne
              have hle := esc_le hne
              rw [hes] at ht2 hle
              dsimp only at ht2 hle
              rw [HLL.out] at hle
              rw [HDD.out] at ht2
              have HT := Lib.hid (ht.trans ht2)
              clear hne ht2 hes2
              have hc255 := ec.toNat_lt
              have hn0' : ((en : Int) == 0) = false := by rw [beq_eq_false_iff_ne]; omega
              have hle2 : k + 1 + en ≤ s.size := by clear hkw hkw2 hcast; omega
              have hkw3 : wrap64 ((k : Int) + 1 + (en : Int)) = (k : Int) + 1 + (en : Int) := by clear hkw hkw2 hcast; exact w64_small (by omega) (by omega)
              have HK3 := Lib.hid (And.intro hkw3 (And.intro hn0' (And.intro hle2 hc255)))
              clear ht h39 hP hes hn0 hle hkw3 hn0' hle2 hc255 hcast
              go_wp2_with fail
              refine HEC.out.mono ?_
              rintro e w2 ⟨rfl, b2⟩
              have HST2 := Lib.hid (HST.out.below b2)
              clear b2 d0 d1 d2 d3 F0 F1 F2 F3 l1
              obtain ⟨hkw3, hn0', hle2, hc255⟩ := HK3.out
              go_wp2_with (at_builtin; refine wpList_append_lit8 _ rfl _ _ 56 rfl 0 5 i0 Tryz.underlying56 hi hz0 hz1 hz2 _ O ec.toNat (by rfl) HST2.out.ob (by rfl) ec.toNat rfl hc255 HLn.out (Nat.zero_le _) ?_; intro va wa howna hga hata; have ha := HST2.out.grewOb howna hga hata (Nat.le_succ _); obtain ⟨Oa, hOa⟩ : ∃ P, P = O ++ [ec.toNat] := ⟨_, rfl⟩; rw [← hOa] at howna ha; obtain ⟨Aa, ca, rfl, -, -, -, -⟩ := howna.form; have Ha := Lib.hid ha; have HOa := Lib.hid hOa; clear howna hga hata ha hOa)
              go_roundw
              case rel => exact ⟨k + 1 + en, _, _, Oa, acc ++ [ec], hle2, rfl, by go_num, Lib.hid (by rw [HOa.out, HO.out, nb_app]; rfl), Lib.hid (by have := HA.out; rw [List.length_append, List.length_singleton]; omega), by omega, HT, Ha⟩
              case measure => simp [intOf]; omega
          · rw [txt_xany h39 hP h92] at ht
            have n92 : ((x.toNat : Int) == 92) = false := u8_ne_int (n := 92) h92
            have HT := Lib.hid ht
            clear ht h39 h92 hP
            go_wp2_with (at_builtin; refine wpList_append_lit8 _ rfl _ _ 56 rfl 0 5 i0 Tryz.underlying56 hi hz0 hz1 hz2 _ O x.toNat (by rfl) HST.out.ob (by rfl) x.toNat rfl hx255 HLn.out (Nat.zero_le _) ?_; intro va wa howna hga hata; have ha := HST.out.grewOb howna hga hata (Nat.le_succ _); obtain ⟨Oa, hOa⟩ : ∃ P, P = O ++ [x.toNat] := ⟨_, rfl⟩; rw [← hOa] at howna ha; obtain ⟨Aa, ca, rfl, -, -, -, -⟩ := howna.form; have Ha := Lib.hid ha; have HOa := Lib.hid hOa; clear howna hga hata ha hOa)
            go_roundw
            case rel => exact ⟨k + 1, _, _, Oa, acc ++ [x], by omega, rfl, by go_num, Lib.hid (by rw [HOa.out, HO.out, nb_app]; rfl), Lib.hid (by have := HA.out; rw [List.length_append, List.length_singleton]; omega), by omega, HT, Ha⟩
            case measure => simp [intOf]; omega
    · have HR : Hid (txtR p s = .error (p, 241)) := Lib.hid (by
        have ht := HT.out
        have hdk : (lS s).drop k = [] := List.drop_of_length_le (by rw [HL.out]; exact Nat.le_of_not_lt hlt)
        rw [hdk] at ht
        rw [show txtG p k acc [] = .error (p, 241) from by rw [txtG]] at ht
        exact txtR_bad ht)
      go_wp2_with fail
      have HF := Lib.hid ((((HST.out.swap.setBlk 0 (.int .i64 0)).setBlk 1 (.string ⟨#[]⟩)).setBlk 2 (.int .i64 0)).setBlk 3 (.int .i64 (p : Int)))
      have HF2 := HF.out
      simp only [List.setIfInBounds_toArray, List.set_cons_zero, List.set_cons_succ] at HF2
      refine bodyPost_ret (results_agg3 rfl _ _ N 30 _ _ rfl HF2.blk Tryz.underlying30 rfl (by kernel_rfl)) rfl ?_
      exact rtok_bad HR.out HF.out.bel
end Go.Proofs.YthmgkjfohkadoaaGreatDoor

/- lexer: the document's Same, of two lists that are alike. -/
namespace Go.Proofs.YthmgkjfohkadoaaGreatDoor
open Go.RowKit
set_option linter.unusedVariables false
set_option linter.unusedSimpArgs false

end Go.Proofs.YthmgkjfohkadoaaGreatDoor

/- lexer: the document's token. By tools/mklxrt.py. -/
namespace Go.Proofs.YthmgkjfohkadoaaGreatDoor
open Go.RowKit
set_option linter.unusedVariables false
set_option linter.unusedSimpArgs false

theorem tokG_text {p : Nat} {s : ByteArray} (hp : p < s.size) (h : s[p]'hp = 39) : tokG p ((lS s).drop p) = txtR p s := by
  rw [drop_at hp, h, tok_text]
  unfold txtR
  cases txtG p (p + 1) [] ((lS s).drop (p + 1)) <;> rfl
/-- the box of the answer, filled with what another reader answered -/
theorem tok_box {w0 w : World} {N : Nat} (h : St Zf [BlkA N 30 tkZ] w0 w) (t : Tk) : St Zf [BlkA N 30 (tkC t)] w0 ((((w.setCell ⟨N, 0, none⟩ (.int .i64 t.k)).setCell ⟨N, 1, none⟩ (.string (mkS t.t))).setCell ⟨N, 2, none⟩ (.int .i64 t.n)).setCell ⟨N, 3, none⟩ (.int .i64 (t.p : Int))) := by
  have H := (((h.setBlk 0 (.int .i64 t.k)).setBlk 1 (.string (mkS t.t))).setBlk 2 (.int .i64 t.n)).setBlk 3 (.int .i64 (t.p : Int))
  simp only [List.setIfInBounds_toArray, List.set_cons_zero, List.set_cons_succ] at H
  exact H
set_option maxRecDepth 100000 in
set_option maxHeartbeats 400000 in
theorem refTok_text (s : ByteArray) (p : Nat) (w : World) (hp : p < s.size) (hs : s.size ≤ 1073741824) (hx' : s[p]'hp = 39) :
    Calls Tryz.prog 13 #[.string s, .int .i64 (p : Int)] w (RTokF p (tokG p ((lS s).drop p)) w) := by
  rw [tokG_text hp hx']
  have H0 : Hid (St Zf [BlkA w.heap.size 30 tkZ] w (w.alloc (.cells tkZ 30))) := Lib.hid ((St.start Zf w).newBlk 30 tkZ)
  have HT := Lib.hid fun w' => refText_any s p w' hp hs
  cases hr : txtR p s with
  | error e =>
    obtain ⟨a, E⟩ := e
    rw [hr] at HT
    unfold RTokF at HT ⊢
    dsimp only at HT ⊢
    clear hr
    go_enter Tryz.func13, Tryz.ntmps13
    go_wp2_with fail
    refine (HT.out _).mono ?_
    rintro e w2 ⟨rfl, b2⟩
    have H2 := Lib.hid (H0.out.below b2)
    obtain ⟨⟨d0, d1, d2, d3⟩, f0, l1⟩ := blk4 H2.out
    have F0 := f0 0
    have F1 := f0 1
    have F2 := f0 2
    have F3 := f0 3
    have HF := Lib.hid (tok_box H2.out (tk0 a))
    clear f0 b2
    simp only [tkV, tkC, tk0] at HF ⊢
    go_wp2_with fail
    refine bodyPost_ret (results_agg3 rfl _ _ w.heap.size 30 _ _ rfl HF.out.blk Tryz.underlying30 rfl (by kernel_rfl)) rfl ?_
    exact ⟨rfl, HF.out.bel⟩
  | ok x =>
    obtain ⟨t, n⟩ := x
    rw [hr] at HT
    unfold RTokF at HT ⊢
    dsimp only at HT ⊢
    clear hr
    go_enter Tryz.func13, Tryz.ntmps13
    go_wp2_with fail
    refine (HT.out _).mono ?_
    rintro e w2 ⟨rfl, b2⟩
    have H2 := Lib.hid (H0.out.below b2)
    obtain ⟨⟨d0, d1, d2, d3⟩, f0, l1⟩ := blk4 H2.out
    have F0 := f0 0
    have F1 := f0 1
    have F2 := f0 2
    have F3 := f0 3
    have HF := Lib.hid (tok_box H2.out t)
    clear f0 b2
    simp only [tkV, tkC] at HF ⊢
    go_wp2_with fail
    refine bodyPost_ret (results_agg3 rfl _ _ w.heap.size 30 _ _ rfl HF.out.blk Tryz.underlying30 rfl (by kernel_rfl)) rfl ?_
    exact ⟨rfl, HF.out.bel⟩
set_option maxRecDepth 100000 in
set_option maxHeartbeats 400000 in
theorem refTok_word (s : ByteArray) (p : Nat) (w : World) (hp : p < s.size) (hs : s.size ≤ 1073741824) (x : UInt8) (hx' : s[p]'hp = x) (hL : lxL x = true) :
    Calls Tryz.prog 13 #[.string s, .int .i64 (p : Int)] w (RTokF p (tokG p ((lS s).drop p)) w) := by
  have HX : Hid (∀ k (h : k < s.size), (lS s).drop k = s[k]'h :: (lS s).drop (k + 1)) := Lib.hid fun k h => drop_at h
  have hd := HX.out p hp
  rw [hx'] at hd
  rw [hd, tok_word hL]
  have h39 : ((x.toNat : Int) == 39) = false := u8_ne_int (n := 39) (L_not39 hL)
  have H0 : Hid (St Zf [BlkA w.heap.size 30 tkZ] w (w.alloc (.cells tkZ 30))) := Lib.hid ((St.start Zf w).newBlk 30 tkZ)
  have HL := Lib.hid fun (y : UInt8) w' => refLetter_any y w'
  have HD := Lib.hid fun (y : UInt8) w' => refDigit_any y w'
  have HLx : Hid (∀ w', Calls Tryz.prog 30 #[.int .u8 (x.toNat : Int)] w' fun e w2 => e = .returned (.bool true) ∧ w' = w2) := Lib.hid fun w' => by
    have h := refLetter_any x w'
    rw [hL] at h
    exact h
  obtain ⟨E, hE⟩ : ∃ E, E = p + (1 + (((lS s).drop (p + 1)).takeWhile lxW).length) := ⟨_, rfl⟩
  have HE : Hid (p + (((lS s).drop p).takeWhile lxW).length = E) := Lib.hid (by
    rw [hd, List.takeWhile_cons_of_pos (by unfold lxW; rw [hL]; rfl), List.length_cons, hE]
    omega)
  have hEs : E ≤ s.size := by
    have h1 := tw_le lxW ((lS s).drop (p + 1))
    rw [List.length_drop, lS_len] at h1
    omega
  have HP : Hid (s.extract p E = mkS (x :: ((lS s).drop (p + 1)).takeWhile lxW)) := Lib.hid (by
    rw [hE, sc_piece, hd, Nat.add_comm 1, List.take_succ_cons]
    have : ∀ l : Bs, l.take (l.takeWhile lxW).length = l.takeWhile lxW := fun l => by
      have h1 := List.takeWhile_append_dropWhile (p := lxW) (l := l)
      have h2 : l.take (l.takeWhile lxW).length = ((l.takeWhile lxW) ++ (l.dropWhile lxW)).take (l.takeWhile lxW).length := by rw [h1]
      rw [h2, List.take_left]
    rw [this])
  have HR : Hid (∀ w', Below w.heap.size w w' → RTokF p (.ok (⟨1, x :: ((lS s).drop (p + 1)).takeWhile lxW, 0, p⟩, 1 + (((lS s).drop (p + 1)).takeWhile lxW).length)) w (.returned (.tuple #[.agg #[.int .i64 1, .string (s.extract p E), .int .i64 0, .int .i64 (p : Int)], .int .i64 (E : Int), .int .i64 0])) w') := Lib.hid fun w' hb => by
    refine rtok_ok rfl hb HP.out rfl rfl rfl ?_
    rw [hE]
  have hpE : p ≤ E := by omega
  clear hd hL hE HP
  generalize (RTokF p (.ok (⟨1, x :: ((lS s).drop (p + 1)).takeWhile lxW, 0, p⟩, 1 + (((lS s).drop (p + 1)).takeWhile lxW).length)) w) = Q at *
  go_enter Tryz.func13, Tryz.ntmps13
  go_wp2_with fail
  refine (HLx.out _).mono ?_
  rintro e w2 ⟨rfl, rfl⟩
  go_wp2
  go_loopw [8] (fun i wr => ∃ k : Nat, k ≤ E ∧ p ≤ k ∧ i = .int .i64 k ∧ Hid (k + (((lS s).drop k).takeWhile lxW).length = E) ∧ Hid (St Zf [BlkA w.heap.size 30 tkZ] w wr)) (fun i _ => E - (intOf i).toNat)
  case atStart => exact ⟨p, hpE, Nat.le_refl _, rfl, HE, H0⟩
  case round =>
    obtain ⟨k, hkE, hpk, rfl, HK, HST⟩ := hrel
    clear H0 HE HLx h39 hx'
    by_cases hlt : k < s.size
    · have hks : k < s.size := hlt
      obtain ⟨y, hy⟩ : ∃ y, y = s[k]'hks := ⟨_, rfl⟩
      have hy' := hy.symm
      have hdk := HX.out k hks
      rw [hy'] at hdk
      have hk2 := HK.out
      rw [hdk] at hk2
      have HLy := Lib.hid (HL.out y wr)
      have HDy := Lib.hid (HD.out y wr)
      clear hy hdk HK
      cases hl : lxL y with
      | true =>
        rw [hl] at HLy
        have HG : Hid (k + 1 ≤ E ∧ k + 1 + (((lS s).drop (k + 1)).takeWhile lxW).length = E) := Lib.hid (by
          rw [List.takeWhile_cons_of_pos (by unfold lxW; rw [hl]; rfl), List.length_cons] at hk2
          omega)
        clear hk2 hl
        go_wp2_with fail
        refine HLy.out.mono ?_
        rintro e w2 ⟨rfl, rfl⟩
        go_wp2
        go_roundw
        case rel => exact ⟨k + 1, HG.out.1, by omega, by go_num, Lib.hid HG.out.2, HST⟩
        case measure => have := HG.out; simp [intOf]; omega
      | false =>
        rw [hl] at HLy
        cases hdg : lxD y with
        | true =>
          rw [hdg] at HDy
          have HG : Hid (k + 1 ≤ E ∧ k + 1 + (((lS s).drop (k + 1)).takeWhile lxW).length = E) := Lib.hid (by
            rw [List.takeWhile_cons_of_pos (by unfold lxW; rw [hl, hdg]; rfl), List.length_cons] at hk2
            omega)
          clear hk2 hl hdg
          go_wp2_with fail
          refine HLy.out.mono ?_
          rintro e w2 ⟨rfl, rfl⟩
          go_wp2_with fail
          refine HDy.out.mono ?_
          rintro e w2 ⟨rfl, rfl⟩
          go_wp2
          go_roundw
          case rel => exact ⟨k + 1, HG.out.1, by omega, by go_num, Lib.hid HG.out.2, HST⟩
          case measure => have := HG.out; simp [intOf]; omega
        | false =>
          rw [hdg] at HDy
          have hke : k = E := by
            rw [List.takeWhile_cons_of_neg (by unfold lxW; rw [hl, hdg]; decide), List.length_nil] at hk2
            omega
          clear hk2 hl hdg
          subst hke
          obtain ⟨⟨d0, d1, d2, d3⟩, f0, l1⟩ := blk4 HST.out
          have F0 := f0 0
          have F1 := f0 1
          have F2 := f0 2
          have F3 := f0 3
          clear f0
          go_wp2_with fail
          refine HLy.out.mono ?_
          rintro e w2 ⟨rfl, rfl⟩
          go_wp2_with fail
          refine HDy.out.mono ?_
          rintro e w2 ⟨rfl, rfl⟩
          go_wp2_with fail
          have HF := Lib.hid ((((HST.out.setBlk 0 (.int .i64 1)).setBlk 1 (.string (s.extract p k))).setBlk 2 (.int .i64 0)).setBlk 3 (.int .i64 (p : Int)))
          have HF2 := HF.out
          simp only [List.setIfInBounds_toArray, List.set_cons_zero, List.set_cons_succ] at HF2
          refine bodyPost_ret (results_agg3 rfl _ _ w.heap.size 30 _ _ rfl HF2.blk Tryz.underlying30 rfl (by kernel_rfl)) rfl ?_
          exact HR.out _ HF.out.bel
    · obtain rfl : k = E := by omega
      obtain ⟨⟨d0, d1, d2, d3⟩, f0, l1⟩ := blk4 HST.out
      have F0 := f0 0
      have F1 := f0 1
      have F2 := f0 2
      have F3 := f0 3
      clear f0
      go_wp2_with fail
      have HF := Lib.hid ((((HST.out.setBlk 0 (.int .i64 1)).setBlk 1 (.string (s.extract p k))).setBlk 2 (.int .i64 0)).setBlk 3 (.int .i64 (p : Int)))
      have HF2 := HF.out
      simp only [List.setIfInBounds_toArray, List.set_cons_zero, List.set_cons_succ] at HF2
      refine bodyPost_ret (results_agg3 rfl _ _ w.heap.size 30 _ _ rfl HF2.blk Tryz.underlying30 rfl (by kernel_rfl)) rfl ?_
      exact HR.out _ HF.out.bel
end Go.Proofs.YthmgkjfohkadoaaGreatDoor

/- lexer: the document's token: numbers, the arrow, marks. By tools/mklxru.py. -/
namespace Go.Proofs.YthmgkjfohkadoaaGreatDoor
open Go.RowKit
set_option linter.unusedVariables false
set_option linter.unusedSimpArgs false

theorem tok_arrow {p : Nat} {x : UInt8} {r : Bs} (h : x = 45) (h2 : r.head? = some 62) : tokG p (x :: r) = .ok (⟨5, [45, 62], 0, p⟩, 2) := by
  simp only [tokG]
  rw [if_neg (show ¬ x = 39 by rw [h]; decide), if_neg (show ¬ lxL x = true by rw [h]; decide), if_neg (by
    rw [h2]
    intro hh
    rcases hh with hh | ⟨-, hh⟩
    · rw [h] at hh
      exact absurd hh (by decide)
    · exact absurd hh (by decide)), if_pos ⟨h, h2⟩]
set_option maxRecDepth 100000 in
set_option maxHeartbeats 800000 in
theorem refTok_numD (s : ByteArray) (p : Nat) (w : World) (hp : p < s.size) (hs : s.size ≤ 1073741824) (x : UInt8) (hx' : s[p]'hp = x) (hL : lxL x = false) (hB : bgN ((lS s).drop p) = true)
    (HNum : ∀ w', Calls Tryz.prog 32 #[.string s, .int .i64 (p : Int), .int .i64 ((p + 1 + (((lS s).drop (p + 1)).takeWhile lxN).length : Nat) : Int)] w' (RTokF p (numX p (x :: ((lS s).drop (p + 1)).takeWhile lxN) (1 + (((lS s).drop (p + 1)).takeWhile lxN).length)) w')) (hdx : lxD x = true) :
    Calls Tryz.prog 13 #[.string s, .int .i64 (p : Int)] w (RTokF p (tokG p ((lS s).drop p)) w) := by
  have HX : Hid (∀ k (h : k < s.size), (lS s).drop k = s[k]'h :: (lS s).drop (k + 1)) := Lib.hid fun k h => drop_at h
  have hd := HX.out p hp
  rw [hx'] at hd
  have hR : tokG p ((lS s).drop p) = numX p (x :: ((lS s).drop (p + 1)).takeWhile lxN) (1 + (((lS s).drop (p + 1)).takeWhile lxN).length) := by
    rw [hd, tok_num hL (by rw [hd] at hB; exact hB)]
  rw [hR]
  have H0 : Hid (St Zf [BlkA w.heap.size 30 tkZ] w (w.alloc (.cells tkZ 30))) := Lib.hid ((St.start Zf w).newBlk 30 tkZ)
  have HL := Lib.hid fun (y : UInt8) w' => refLetter_any y w'
  have HD := Lib.hid fun (y : UInt8) w' => refDigit_any y w'
  have HLx : Hid (∀ w', Calls Tryz.prog 30 #[.int .u8 (x.toNat : Int)] w' fun e w2 => e = .returned (.bool false) ∧ w' = w2) := Lib.hid fun w' => by
    have h := refLetter_any x w'
    rw [hL] at h
    exact h
  have hEs : p + 1 + (((lS s).drop (p + 1)).takeWhile lxN).length ≤ s.size := by
    have h1 := tw_le lxN ((lS s).drop (p + 1))
    rw [List.length_drop, lS_len] at h1
    omega
  have HN := Lib.hid HNum
  have hpE : p + 1 ≤ p + 1 + (((lS s).drop (p + 1)).takeWhile lxN).length := Nat.le_add_right _ _
  have hpw : wrap64 ((p : Int) + 1) = (p : Int) + 1 := w64_small (by omega) (by omega)
  generalize numX p (x :: ((lS s).drop (p + 1)).takeWhile lxN) (1 + (((lS s).drop (p + 1)).takeWhile lxN).length) = R at *
  generalize hE : p + 1 + (((lS s).drop (p + 1)).takeWhile lxN).length = E at HN hpE hEs
  have HE : Hid (p + 1 + (((lS s).drop (p + 1)).takeWhile lxN).length = E) := Lib.hid hE
  clear hd hL hE hR HNum hB
  have n39 : ((x.toNat : Int) == 39) = false := u8_ne_int (n := 39) (by rintro rfl; exact absurd hdx (by decide))
  have n45 : ((x.toNat : Int) == 45) = false := u8_ne_int (n := 45) (by rintro rfl; exact absurd hdx (by decide))
  have HDx := Lib.hid fun w' => refDigit_any x w'
  rw [hdx] at HDx
  clear hdx
  cases R with
  | error e =>
    obtain ⟨a, E0⟩ := e
    unfold RTokF at HN ⊢
    dsimp only at HN ⊢
    go_enter Tryz.func13, Tryz.ntmps13
    go_wp2_with fail
    refine (HLx.out _).mono ?_
    rintro e w2 ⟨rfl, rfl⟩
    go_wp2_with fail
    refine (HDx.out _).mono ?_
    rintro e w2 ⟨rfl, rfl⟩
    go_wp2
    go_loopw [10] (fun i wr => ∃ k : Nat, k ≤ E ∧ p < k ∧ i = .int .i64 k ∧ Hid (k + (((lS s).drop k).takeWhile lxN).length = E) ∧ Hid (St Zf [BlkA w.heap.size 30 tkZ] w wr)) (fun i _ => E - (intOf i).toNat)
    case atStart => exact ⟨p + 1, hpE, Nat.lt_succ_self _, by go_num, HE, H0⟩
    case round =>
      obtain ⟨k, hkE, hpk, rfl, HK, HST⟩ := hrel
      clear H0 HE HLx HDx
      by_cases hlt : k < s.size
      · have hks : k < s.size := hlt
        obtain ⟨y, hy⟩ : ∃ y, y = s[k]'hks := ⟨_, rfl⟩
        have hy' := hy.symm
        have hdk := HX.out k hks
        rw [hy'] at hdk
        have hk2 := HK.out
        rw [hdk] at hk2
        have HLy := Lib.hid (HL.out y wr)
        have HDy := Lib.hid (HD.out y wr)
        clear hy hdk HK
        cases hl : lxL y with
        | true =>
          rw [hl] at HLy
          have HG : Hid (k + 1 ≤ E ∧ k + 1 + (((lS s).drop (k + 1)).takeWhile lxN).length = E) := Lib.hid (by
            rw [List.takeWhile_cons_of_pos (by unfold lxN lxW; rw [hl]; rfl), List.length_cons] at hk2
            omega)
          clear hk2 hl
          go_wp2_with fail
          refine HLy.out.mono ?_
          rintro e w2 ⟨rfl, rfl⟩
          go_wp2
          go_roundw
          case rel => exact ⟨k + 1, HG.out.1, by omega, by go_num, Lib.hid HG.out.2, HST⟩
          case measure => have := HG.out; simp [intOf]; omega
        | false =>
          rw [hl] at HLy
          cases hdg : lxD y with
          | true =>
            rw [hdg] at HDy
            have HG : Hid (k + 1 ≤ E ∧ k + 1 + (((lS s).drop (k + 1)).takeWhile lxN).length = E) := Lib.hid (by
              rw [List.takeWhile_cons_of_pos (by unfold lxN lxW; rw [hl, hdg]; rfl), List.length_cons] at hk2
              omega)
            clear hk2 hl hdg
            go_wp2_with fail
            refine HLy.out.mono ?_
            rintro e w2 ⟨rfl, rfl⟩
            go_wp2_with fail
            refine HDy.out.mono ?_
            rintro e w2 ⟨rfl, rfl⟩
            go_wp2
            go_roundw
            case rel => exact ⟨k + 1, HG.out.1, by omega, by go_num, Lib.hid HG.out.2, HST⟩
            case measure => have := HG.out; simp [intOf]; omega
          | false =>
            rw [hdg] at HDy
            by_cases h46 : y = 46
            · have n46 : ((y.toNat : Int) == 46) = true := by rw [h46]; decide
              have HG : Hid (k + 1 ≤ E ∧ k + 1 + (((lS s).drop (k + 1)).takeWhile lxN).length = E) := Lib.hid (by
                rw [List.takeWhile_cons_of_pos (by unfold lxN lxW; rw [hl, hdg, h46]; rfl), List.length_cons] at hk2
                omega)
              clear hk2 hl hdg h46
              go_wp2_with fail
              refine HLy.out.mono ?_
              rintro e w2 ⟨rfl, rfl⟩
              go_wp2_with fail
              refine HDy.out.mono ?_
              rintro e w2 ⟨rfl, rfl⟩
              go_wp2
              go_roundw
              case rel => exact ⟨k + 1, HG.out.1, by omega, by go_num, Lib.hid HG.out.2, HST⟩
              case measure => have := HG.out; simp [intOf]; omega
            · have n46 : ((y.toNat : Int) == 46) = false := u8_ne_int (n := 46) h46
              have hke : k = E := by
                rw [List.takeWhile_cons_of_neg (by unfold lxN lxW; rw [hl, hdg]; simpa using h46), List.length_nil] at hk2
                omega
              clear hk2 hl hdg h46
              subst hke
              go_wp2_with fail
              refine HLy.out.mono ?_
              rintro e w2 ⟨rfl, rfl⟩
              go_wp2_with fail
              refine HDy.out.mono ?_
              rintro e w2 ⟨rfl, rfl⟩
              go_wp2_with fail
              refine (HN.out _).mono ?_
              rintro e w2 ⟨rfl, b2⟩
              have H2 := Lib.hid (HST.out.below b2)
              obtain ⟨⟨d0, d1, d2, d3⟩, f0, l1⟩ := blk4 H2.out
              have F0 := f0 0
              have F1 := f0 1
              have F2 := f0 2
              have F3 := f0 3
              clear f0
              have HF := Lib.hid (tok_box H2.out (tk0 a))
              clear b2
              simp only [tkV, tkC, tk0] at HF ⊢
              go_wp2_with fail
              refine bodyPost_ret (results_agg3 rfl _ _ w.heap.size 30 _ _ rfl HF.out.blk Tryz.underlying30 rfl (by kernel_rfl)) rfl ?_
              exact ⟨rfl, HF.out.bel⟩
      · obtain rfl : k = E := by omega
        go_wp2_with fail
        refine (HN.out _).mono ?_
        rintro e w2 ⟨rfl, b2⟩
        have H2 := Lib.hid (HST.out.below b2)
        obtain ⟨⟨d0, d1, d2, d3⟩, f0, l1⟩ := blk4 H2.out
        have F0 := f0 0
        have F1 := f0 1
        have F2 := f0 2
        have F3 := f0 3
        clear f0
        have HF := Lib.hid (tok_box H2.out (tk0 a))
        clear b2
        simp only [tkV, tkC, tk0] at HF ⊢
        go_wp2_with fail
        refine bodyPost_ret (results_agg3 rfl _ _ w.heap.size 30 _ _ rfl HF.out.blk Tryz.underlying30 rfl (by kernel_rfl)) rfl ?_
        exact ⟨rfl, HF.out.bel⟩
  | ok z =>
    obtain ⟨t, n⟩ := z
    unfold RTokF at HN ⊢
    dsimp only at HN ⊢
    go_enter Tryz.func13, Tryz.ntmps13
    go_wp2_with fail
    refine (HLx.out _).mono ?_
    rintro e w2 ⟨rfl, rfl⟩
    go_wp2_with fail
    refine (HDx.out _).mono ?_
    rintro e w2 ⟨rfl, rfl⟩
    go_wp2
    go_loopw [10] (fun i wr => ∃ k : Nat, k ≤ E ∧ p < k ∧ i = .int .i64 k ∧ Hid (k + (((lS s).drop k).takeWhile lxN).length = E) ∧ Hid (St Zf [BlkA w.heap.size 30 tkZ] w wr)) (fun i _ => E - (intOf i).toNat)
    case atStart => exact ⟨p + 1, hpE, Nat.lt_succ_self _, by go_num, HE, H0⟩
    case round =>
      obtain ⟨k, hkE, hpk, rfl, HK, HST⟩ := hrel
      clear H0 HE HLx HDx
      by_cases hlt : k < s.size
      · have hks : k < s.size := hlt
        obtain ⟨y, hy⟩ : ∃ y, y = s[k]'hks := ⟨_, rfl⟩
        have hy' := hy.symm
        have hdk := HX.out k hks
        rw [hy'] at hdk
        have hk2 := HK.out
        rw [hdk] at hk2
        have HLy := Lib.hid (HL.out y wr)
        have HDy := Lib.hid (HD.out y wr)
        clear hy hdk HK
        cases hl : lxL y with
        | true =>
          rw [hl] at HLy
          have HG : Hid (k + 1 ≤ E ∧ k + 1 + (((lS s).drop (k + 1)).takeWhile lxN).length = E) := Lib.hid (by
            rw [List.takeWhile_cons_of_pos (by unfold lxN lxW; rw [hl]; rfl), List.length_cons] at hk2
            omega)
          clear hk2 hl
          go_wp2_with fail
          refine HLy.out.mono ?_
          rintro e w2 ⟨rfl, rfl⟩
          go_wp2
          go_roundw
          case rel => exact ⟨k + 1, HG.out.1, by omega, by go_num, Lib.hid HG.out.2, HST⟩
          case measure => have := HG.out; simp [intOf]; omega
        | false =>
          rw [hl] at HLy
          cases hdg : lxD y with
          | true =>
            rw [hdg] at HDy
            have HG : Hid (k + 1 ≤ E ∧ k + 1 + (((lS s).drop (k + 1)).takeWhile lxN).length = E) := Lib.hid (by
              rw [List.takeWhile_cons_of_pos (by unfold lxN lxW; rw [hl, hdg]; rfl), List.length_cons] at hk2
              omega)
            clear hk2 hl hdg
            go_wp2_with fail
            refine HLy.out.mono ?_
            rintro e w2 ⟨rfl, rfl⟩
            go_wp2_with fail
            refine HDy.out.mono ?_
            rintro e w2 ⟨rfl, rfl⟩
            go_wp2
            go_roundw
            case rel => exact ⟨k + 1, HG.out.1, by omega, by go_num, Lib.hid HG.out.2, HST⟩
            case measure => have := HG.out; simp [intOf]; omega
          | false =>
            rw [hdg] at HDy
            by_cases h46 : y = 46
            · have n46 : ((y.toNat : Int) == 46) = true := by rw [h46]; decide
              have HG : Hid (k + 1 ≤ E ∧ k + 1 + (((lS s).drop (k + 1)).takeWhile lxN).length = E) := Lib.hid (by
                rw [List.takeWhile_cons_of_pos (by unfold lxN lxW; rw [hl, hdg, h46]; rfl), List.length_cons] at hk2
                omega)
              clear hk2 hl hdg h46
              go_wp2_with fail
              refine HLy.out.mono ?_
              rintro e w2 ⟨rfl, rfl⟩
              go_wp2_with fail
              refine HDy.out.mono ?_
              rintro e w2 ⟨rfl, rfl⟩
              go_wp2
              go_roundw
              case rel => exact ⟨k + 1, HG.out.1, by omega, by go_num, Lib.hid HG.out.2, HST⟩
              case measure => have := HG.out; simp [intOf]; omega
            · have n46 : ((y.toNat : Int) == 46) = false := u8_ne_int (n := 46) h46
              have hke : k = E := by
                rw [List.takeWhile_cons_of_neg (by unfold lxN lxW; rw [hl, hdg]; simpa using h46), List.length_nil] at hk2
                omega
              clear hk2 hl hdg h46
              subst hke
              go_wp2_with fail
              refine HLy.out.mono ?_
              rintro e w2 ⟨rfl, rfl⟩
              go_wp2_with fail
              refine HDy.out.mono ?_
              rintro e w2 ⟨rfl, rfl⟩
              go_wp2_with fail
              refine (HN.out _).mono ?_
              rintro e w2 ⟨rfl, b2⟩
              have H2 := Lib.hid (HST.out.below b2)
              obtain ⟨⟨d0, d1, d2, d3⟩, f0, l1⟩ := blk4 H2.out
              have F0 := f0 0
              have F1 := f0 1
              have F2 := f0 2
              have F3 := f0 3
              clear f0
              have HF := Lib.hid (tok_box H2.out t)
              clear b2
              simp only [tkV, tkC] at HF ⊢
              go_wp2_with fail
              refine bodyPost_ret (results_agg3 rfl _ _ w.heap.size 30 _ _ rfl HF.out.blk Tryz.underlying30 rfl (by kernel_rfl)) rfl ?_
              exact ⟨rfl, HF.out.bel⟩
      · obtain rfl : k = E := by omega
        go_wp2_with fail
        refine (HN.out _).mono ?_
        rintro e w2 ⟨rfl, b2⟩
        have H2 := Lib.hid (HST.out.below b2)
        obtain ⟨⟨d0, d1, d2, d3⟩, f0, l1⟩ := blk4 H2.out
        have F0 := f0 0
        have F1 := f0 1
        have F2 := f0 2
        have F3 := f0 3
        clear f0
        have HF := Lib.hid (tok_box H2.out t)
        clear b2
        simp only [tkV, tkC] at HF ⊢
        go_wp2_with fail
        refine bodyPost_ret (results_agg3 rfl _ _ w.heap.size 30 _ _ rfl HF.out.blk Tryz.underlying30 rfl (by kernel_rfl)) rfl ?_
        exact ⟨rfl, HF.out.bel⟩
set_option maxRecDepth 100000 in
set_option maxHeartbeats 800000 in
theorem refTok_numM (s : ByteArray) (p : Nat) (w : World) (hp : p < s.size) (hs : s.size ≤ 1073741824) (x : UInt8) (hx' : s[p]'hp = x) (hL : lxL x = false) (hB : bgN ((lS s).drop p) = true)
    (HNum : ∀ w', Calls Tryz.prog 32 #[.string s, .int .i64 (p : Int), .int .i64 ((p + 1 + (((lS s).drop (p + 1)).takeWhile lxN).length : Nat) : Int)] w' (RTokF p (numX p (x :: ((lS s).drop (p + 1)).takeWhile lxN) (1 + (((lS s).drop (p + 1)).takeWhile lxN).length)) w')) (h45 : x = 45) (hp1 : p + 1 < s.size) (y0 : UInt8) (hy0 : s[p + 1]'hp1 = y0) (hdy : lxD y0 = true) :
    Calls Tryz.prog 13 #[.string s, .int .i64 (p : Int)] w (RTokF p (tokG p ((lS s).drop p)) w) := by
  have HX : Hid (∀ k (h : k < s.size), (lS s).drop k = s[k]'h :: (lS s).drop (k + 1)) := Lib.hid fun k h => drop_at h
  have hd := HX.out p hp
  rw [hx'] at hd
  have hR : tokG p ((lS s).drop p) = numX p (x :: ((lS s).drop (p + 1)).takeWhile lxN) (1 + (((lS s).drop (p + 1)).takeWhile lxN).length) := by
    rw [hd, tok_num hL (by rw [hd] at hB; exact hB)]
  rw [hR]
  have H0 : Hid (St Zf [BlkA w.heap.size 30 tkZ] w (w.alloc (.cells tkZ 30))) := Lib.hid ((St.start Zf w).newBlk 30 tkZ)
  have HL := Lib.hid fun (y : UInt8) w' => refLetter_any y w'
  have HD := Lib.hid fun (y : UInt8) w' => refDigit_any y w'
  have HLx : Hid (∀ w', Calls Tryz.prog 30 #[.int .u8 (x.toNat : Int)] w' fun e w2 => e = .returned (.bool false) ∧ w' = w2) := Lib.hid fun w' => by
    have h := refLetter_any x w'
    rw [hL] at h
    exact h
  have hEs : p + 1 + (((lS s).drop (p + 1)).takeWhile lxN).length ≤ s.size := by
    have h1 := tw_le lxN ((lS s).drop (p + 1))
    rw [List.length_drop, lS_len] at h1
    omega
  have HN := Lib.hid HNum
  have hpE : p + 1 ≤ p + 1 + (((lS s).drop (p + 1)).takeWhile lxN).length := Nat.le_add_right _ _
  have hpw : wrap64 ((p : Int) + 1) = (p : Int) + 1 := w64_small (by omega) (by omega)
  generalize numX p (x :: ((lS s).drop (p + 1)).takeWhile lxN) (1 + (((lS s).drop (p + 1)).takeWhile lxN).length) = R at *
  generalize hE : p + 1 + (((lS s).drop (p + 1)).takeWhile lxN).length = E at HN hpE hEs
  have HE : Hid (p + 1 + (((lS s).drop (p + 1)).takeWhile lxN).length = E) := Lib.hid hE
  clear hd hL hE hR HNum hB
  have n39 : ((x.toNat : Int) == 39) = false := u8_ne_int (n := 39) (by rw [h45]; decide)
  have n45 : ((x.toNat : Int) == 45) = true := by rw [h45]; decide
  have HDx := Lib.hid fun w' => refDigit_any x w'
  rw [show lxD x = false by rw [h45]; decide] at HDx
  have HDy0 := Lib.hid fun w' => refDigit_any y0 w'
  rw [hdy] at HDy0
  have hp1' : (p : Int) + 1 < (s.size : Int) := by omega
  clear h45 hdy
  cases R with
  | error e =>
    obtain ⟨a, E0⟩ := e
    unfold RTokF at HN ⊢
    dsimp only at HN ⊢
    go_enter Tryz.func13, Tryz.ntmps13
    go_wp2_with fail
    refine (HLx.out _).mono ?_
    rintro e w2 ⟨rfl, rfl⟩
    go_wp2_with fail
    refine (HDx.out _).mono ?_
    rintro e w2 ⟨rfl, rfl⟩
    go_wp2_with fail
    refine (HDy0.out _).mono ?_
    rintro e w2 ⟨rfl, rfl⟩
    go_wp2
    go_loopw [10] (fun i wr => ∃ k : Nat, k ≤ E ∧ p < k ∧ i = .int .i64 k ∧ Hid (k + (((lS s).drop k).takeWhile lxN).length = E) ∧ Hid (St Zf [BlkA w.heap.size 30 tkZ] w wr)) (fun i _ => E - (intOf i).toNat)
    case atStart => exact ⟨p + 1, hpE, Nat.lt_succ_self _, by go_num, HE, H0⟩
    case round =>
      obtain ⟨k, hkE, hpk, rfl, HK, HST⟩ := hrel
      clear H0 HE HLx HDx
      by_cases hlt : k < s.size
      · have hks : k < s.size := hlt
        obtain ⟨y, hy⟩ : ∃ y, y = s[k]'hks := ⟨_, rfl⟩
        have hy' := hy.symm
        have hdk := HX.out k hks
        rw [hy'] at hdk
        have hk2 := HK.out
        rw [hdk] at hk2
        have HLy := Lib.hid (HL.out y wr)
        have HDy := Lib.hid (HD.out y wr)
        clear hy hdk HK
        cases hl : lxL y with
        | true =>
          rw [hl] at HLy
          have HG : Hid (k + 1 ≤ E ∧ k + 1 + (((lS s).drop (k + 1)).takeWhile lxN).length = E) := Lib.hid (by
            rw [List.takeWhile_cons_of_pos (by unfold lxN lxW; rw [hl]; rfl), List.length_cons] at hk2
            omega)
          clear hk2 hl
          go_wp2_with fail
          refine HLy.out.mono ?_
          rintro e w2 ⟨rfl, rfl⟩
          go_wp2
          go_roundw
          case rel => exact ⟨k + 1, HG.out.1, by omega, by go_num, Lib.hid HG.out.2, HST⟩
          case measure => have := HG.out; simp [intOf]; omega
        | false =>
          rw [hl] at HLy
          cases hdg : lxD y with
          | true =>
            rw [hdg] at HDy
            have HG : Hid (k + 1 ≤ E ∧ k + 1 + (((lS s).drop (k + 1)).takeWhile lxN).length = E) := Lib.hid (by
              rw [List.takeWhile_cons_of_pos (by unfold lxN lxW; rw [hl, hdg]; rfl), List.length_cons] at hk2
              omega)
            clear hk2 hl hdg
            go_wp2_with fail
            refine HLy.out.mono ?_
            rintro e w2 ⟨rfl, rfl⟩
            go_wp2_with fail
            refine HDy.out.mono ?_
            rintro e w2 ⟨rfl, rfl⟩
            go_wp2
            go_roundw
            case rel => exact ⟨k + 1, HG.out.1, by omega, by go_num, Lib.hid HG.out.2, HST⟩
            case measure => have := HG.out; simp [intOf]; omega
          | false =>
            rw [hdg] at HDy
            by_cases h46 : y = 46
            · have n46 : ((y.toNat : Int) == 46) = true := by rw [h46]; decide
              have HG : Hid (k + 1 ≤ E ∧ k + 1 + (((lS s).drop (k + 1)).takeWhile lxN).length = E) := Lib.hid (by
                rw [List.takeWhile_cons_of_pos (by unfold lxN lxW; rw [hl, hdg, h46]; rfl), List.length_cons] at hk2
                omega)
              clear hk2 hl hdg h46
              go_wp2_with fail
              refine HLy.out.mono ?_
              rintro e w2 ⟨rfl, rfl⟩
              go_wp2_with fail
              refine HDy.out.mono ?_
              rintro e w2 ⟨rfl, rfl⟩
              go_wp2
              go_roundw
              case rel => exact ⟨k + 1, HG.out.1, by omega, by go_num, Lib.hid HG.out.2, HST⟩
              case measure => have := HG.out; simp [intOf]; omega
            · have n46 : ((y.toNat : Int) == 46) = false := u8_ne_int (n := 46) h46
              have hke : k = E := by
                rw [List.takeWhile_cons_of_neg (by unfold lxN lxW; rw [hl, hdg]; simpa using h46), List.length_nil] at hk2
                omega
              clear hk2 hl hdg h46
              subst hke
              go_wp2_with fail
              refine HLy.out.mono ?_
              rintro e w2 ⟨rfl, rfl⟩
              go_wp2_with fail
              refine HDy.out.mono ?_
              rintro e w2 ⟨rfl, rfl⟩
              go_wp2_with fail
              refine (HN.out _).mono ?_
              rintro e w2 ⟨rfl, b2⟩
              have H2 := Lib.hid (HST.out.below b2)
              obtain ⟨⟨d0, d1, d2, d3⟩, f0, l1⟩ := blk4 H2.out
              have F0 := f0 0
              have F1 := f0 1
              have F2 := f0 2
              have F3 := f0 3
              clear f0
              have HF := Lib.hid (tok_box H2.out (tk0 a))
              clear b2
              simp only [tkV, tkC, tk0] at HF ⊢
              go_wp2_with fail
              refine bodyPost_ret (results_agg3 rfl _ _ w.heap.size 30 _ _ rfl HF.out.blk Tryz.underlying30 rfl (by kernel_rfl)) rfl ?_
              exact ⟨rfl, HF.out.bel⟩
      · obtain rfl : k = E := by omega
        go_wp2_with fail
        refine (HN.out _).mono ?_
        rintro e w2 ⟨rfl, b2⟩
        have H2 := Lib.hid (HST.out.below b2)
        obtain ⟨⟨d0, d1, d2, d3⟩, f0, l1⟩ := blk4 H2.out
        have F0 := f0 0
        have F1 := f0 1
        have F2 := f0 2
        have F3 := f0 3
        clear f0
        have HF := Lib.hid (tok_box H2.out (tk0 a))
        clear b2
        simp only [tkV, tkC, tk0] at HF ⊢
        go_wp2_with fail
        refine bodyPost_ret (results_agg3 rfl _ _ w.heap.size 30 _ _ rfl HF.out.blk Tryz.underlying30 rfl (by kernel_rfl)) rfl ?_
        exact ⟨rfl, HF.out.bel⟩
  | ok z =>
    obtain ⟨t, n⟩ := z
    unfold RTokF at HN ⊢
    dsimp only at HN ⊢
    go_enter Tryz.func13, Tryz.ntmps13
    go_wp2_with fail
    refine (HLx.out _).mono ?_
    rintro e w2 ⟨rfl, rfl⟩
    go_wp2_with fail
    refine (HDx.out _).mono ?_
    rintro e w2 ⟨rfl, rfl⟩
    go_wp2_with fail
    refine (HDy0.out _).mono ?_
    rintro e w2 ⟨rfl, rfl⟩
    go_wp2
    go_loopw [10] (fun i wr => ∃ k : Nat, k ≤ E ∧ p < k ∧ i = .int .i64 k ∧ Hid (k + (((lS s).drop k).takeWhile lxN).length = E) ∧ Hid (St Zf [BlkA w.heap.size 30 tkZ] w wr)) (fun i _ => E - (intOf i).toNat)
    case atStart => exact ⟨p + 1, hpE, Nat.lt_succ_self _, by go_num, HE, H0⟩
    case round =>
      obtain ⟨k, hkE, hpk, rfl, HK, HST⟩ := hrel
      clear H0 HE HLx HDx
      by_cases hlt : k < s.size
      · have hks : k < s.size := hlt
        obtain ⟨y, hy⟩ : ∃ y, y = s[k]'hks := ⟨_, rfl⟩
        have hy' := hy.symm
        have hdk := HX.out k hks
        rw [hy'] at hdk
        have hk2 := HK.out
        rw [hdk] at hk2
        have HLy := Lib.hid (HL.out y wr)
        have HDy := Lib.hid (HD.out y wr)
        clear hy hdk HK
        cases hl : lxL y with
        | true =>
          rw [hl] at HLy
          have HG : Hid (k + 1 ≤ E ∧ k + 1 + (((lS s).drop (k + 1)).takeWhile lxN).length = E) := Lib.hid (by
            rw [List.takeWhile_cons_of_pos (by unfold lxN lxW; rw [hl]; rfl), List.length_cons] at hk2
            omega)
          clear hk2 hl
          go_wp2_with fail
          refine HLy.out.mono ?_
          rintro e w2 ⟨rfl, rfl⟩
          go_wp2
          go_roundw
          case rel => exact ⟨k + 1, HG.out.1, by omega, by go_num, Lib.hid HG.out.2, HST⟩
          case measure => have := HG.out; simp [intOf]; omega
        | false =>
          rw [hl] at HLy
          cases hdg : lxD y with
          | true =>
            rw [hdg] at HDy
            have HG : Hid (k + 1 ≤ E ∧ k + 1 + (((lS s).drop (k + 1)).takeWhile lxN).length = E) := Lib.hid (by
              rw [List.takeWhile_cons_of_pos (by unfold lxN lxW; rw [hl, hdg]; rfl), List.length_cons] at hk2
              omega)
            clear hk2 hl hdg
            go_wp2_with fail
            refine HLy.out.mono ?_
            rintro e w2 ⟨rfl, rfl⟩
            go_wp2_with fail
            refine HDy.out.mono ?_
            rintro e w2 ⟨rfl, rfl⟩
            go_wp2
            go_roundw
            case rel => exact ⟨k + 1, HG.out.1, by omega, by go_num, Lib.hid HG.out.2, HST⟩
            case measure => have := HG.out; simp [intOf]; omega
          | false =>
            rw [hdg] at HDy
            by_cases h46 : y = 46
            · have n46 : ((y.toNat : Int) == 46) = true := by rw [h46]; decide
              have HG : Hid (k + 1 ≤ E ∧ k + 1 + (((lS s).drop (k + 1)).takeWhile lxN).length = E) := Lib.hid (by
                rw [List.takeWhile_cons_of_pos (by unfold lxN lxW; rw [hl, hdg, h46]; rfl), List.length_cons] at hk2
                omega)
              clear hk2 hl hdg h46
              go_wp2_with fail
              refine HLy.out.mono ?_
              rintro e w2 ⟨rfl, rfl⟩
              go_wp2_with fail
              refine HDy.out.mono ?_
              rintro e w2 ⟨rfl, rfl⟩
              go_wp2
              go_roundw
              case rel => exact ⟨k + 1, HG.out.1, by omega, by go_num, Lib.hid HG.out.2, HST⟩
              case measure => have := HG.out; simp [intOf]; omega
            · have n46 : ((y.toNat : Int) == 46) = false := u8_ne_int (n := 46) h46
              have hke : k = E := by
                rw [List.takeWhile_cons_of_neg (by unfold lxN lxW; rw [hl, hdg]; simpa using h46), List.length_nil] at hk2
                omega
              clear hk2 hl hdg h46
              subst hke
              go_wp2_with fail
              refine HLy.out.mono ?_
              rintro e w2 ⟨rfl, rfl⟩
              go_wp2_with fail
              refine HDy.out.mono ?_
              rintro e w2 ⟨rfl, rfl⟩
              go_wp2_with fail
              refine (HN.out _).mono ?_
              rintro e w2 ⟨rfl, b2⟩
              have H2 := Lib.hid (HST.out.below b2)
              obtain ⟨⟨d0, d1, d2, d3⟩, f0, l1⟩ := blk4 H2.out
              have F0 := f0 0
              have F1 := f0 1
              have F2 := f0 2
              have F3 := f0 3
              clear f0
              have HF := Lib.hid (tok_box H2.out t)
              clear b2
              simp only [tkV, tkC] at HF ⊢
              go_wp2_with fail
              refine bodyPost_ret (results_agg3 rfl _ _ w.heap.size 30 _ _ rfl HF.out.blk Tryz.underlying30 rfl (by kernel_rfl)) rfl ?_
              exact ⟨rfl, HF.out.bel⟩
      · obtain rfl : k = E := by omega
        go_wp2_with fail
        refine (HN.out _).mono ?_
        rintro e w2 ⟨rfl, b2⟩
        have H2 := Lib.hid (HST.out.below b2)
        obtain ⟨⟨d0, d1, d2, d3⟩, f0, l1⟩ := blk4 H2.out
        have F0 := f0 0
        have F1 := f0 1
        have F2 := f0 2
        have F3 := f0 3
        clear f0
        have HF := Lib.hid (tok_box H2.out t)
        clear b2
        simp only [tkV, tkC] at HF ⊢
        go_wp2_with fail
        refine bodyPost_ret (results_agg3 rfl _ _ w.heap.size 30 _ _ rfl HF.out.blk Tryz.underlying30 rfl (by kernel_rfl)) rfl ?_
        exact ⟨rfl, HF.out.bel⟩
set_option maxRecDepth 100000 in
set_option maxHeartbeats 400000 in
theorem refTok_arrow (s : ByteArray) (p : Nat) (w : World) (hp : p < s.size) (hs : s.size ≤ 1073741824) (x y : UInt8) (hx' : s[p]'hp = x) (h45 : x = 45) (hp1 : p + 1 < s.size) (hy' : s[p + 1]'hp1 = y) (h62 : y = 62) :
    Calls Tryz.prog 13 #[.string s, .int .i64 (p : Int)] w (RTokF p (tokG p ((lS s).drop p)) w) := by
  have hR : tokG p ((lS s).drop p) = .ok (⟨5, [45, 62], 0, p⟩, 2) := by
    rw [drop_at hp, hx']
    exact tok_arrow h45 (by rw [drop_at hp1, hy', h62]; rfl)
  rw [hR]
  have HR : Hid (∀ w', Below w.heap.size w w' → RTokF p (.ok (⟨5, [45, 62], 0, p⟩, 2)) w (.returned (.tuple #[.agg #[.int .i64 5, .string ⟨#[45, 62]⟩, .int .i64 0, .int .i64 (p : Int)], .int .i64 ((p : Int) + 2), .int .i64 0])) w') := Lib.hid fun w' hb =>
    rtok_ok rfl hb rfl rfl rfl rfl (by show (p : Int) + 2 = _; omega)
  generalize (RTokF p (.ok (⟨5, [45, 62], 0, p⟩, 2)) w) = Q at *
  have H0 : Hid (St Zf [BlkA w.heap.size 30 tkZ] w (w.alloc (.cells tkZ 30))) := Lib.hid ((St.start Zf w).newBlk 30 tkZ)
  have n39 : ((x.toNat : Int) == 39) = false := u8_ne_int (n := 39) (by rw [h45]; decide)
  have n45 : ((x.toNat : Int) == 45) = true := by rw [h45]; decide
  have n62 : ((y.toNat : Int) == 62) = true := by rw [h62]; decide
  have HLx := Lib.hid fun w' => refLetter_any x w'
  rw [show lxL x = false by rw [h45]; decide] at HLx
  have HDx := Lib.hid fun w' => refDigit_any x w'
  rw [show lxD x = false by rw [h45]; decide] at HDx
  have HDy := Lib.hid fun w' => refDigit_any y w'
  rw [show lxD y = false by rw [h62]; decide] at HDy
  have hp1' : (p : Int) + 1 < (s.size : Int) := by omega
  have hpw : wrap64 ((p : Int) + 1) = (p : Int) + 1 := w64_small (by omega) (by omega)
  have hpw2 : wrap64 ((p : Int) + 2) = (p : Int) + 2 := w64_small (by omega) (by omega)
  have HF := Lib.hid ((St.start Zf w).newBlk 30 #[.int .i64 5, .string ⟨#[45, 62]⟩, .int .i64 0, .int .i64 (p : Int)])
  clear hR h45 h62 H0
  go_enter Tryz.func13, Tryz.ntmps13
  go_wp2_with fail
  refine (HLx.out _).mono ?_
  rintro e w2 ⟨rfl, rfl⟩
  go_wp2_with fail
  refine (HDx.out _).mono ?_
  rintro e w2 ⟨rfl, rfl⟩
  go_wp2_with fail
  refine (HDy.out _).mono ?_
  rintro e w2 ⟨rfl, rfl⟩
  go_wp2_with fail
  refine bodyPost_ret (results_agg3 rfl _ _ w.heap.size 30 _ _ rfl HF.out.blk Tryz.underlying30 rfl (by kernel_rfl)) rfl ?_
  exact HR.out _ HF.out.bel

theorem tok_mk {p : Nat} {x : UInt8} {r : Bs} (h39 : x ≠ 39) (hL : lxL x = false) (hB : bgN (x :: r) = false) (h45 : ¬ (x = 45 ∧ r.head? = some 62)) : tokG p (x :: r) = if x ∈ ([40, 41, 123, 125, 91, 93, 58, 44, 59, 45] : Bs) then .ok (⟨5, [x], 0, p⟩, 1) else .error (p, 240) := by
  simp only [tokG]
  rw [if_neg h39, if_neg (by rw [hL]; decide), if_neg (fun h => by rw [(bgN_iff x r).2 h] at hB; cases hB), if_neg h45]
def mkB : ByteArray := ⟨#[40, 41, 123, 125, 91, 93, 58, 44, 59, 45]⟩
theorem mkB_at (j : Nat) (h : j < mkB.size) : ∃ m, mkB[j]'h = m ∧ ([40, 41, 123, 125, 91, 93, 58, 44, 59, 45] : Bs)[j]? = some m ∧ mkB.extract j (j + 1) = mkS [m] := by
  have h1 : (lS mkB)[j]? = some (mkB[j]'h) := byte_at mkB j h
  refine ⟨_, rfl, h1, ?_⟩
  rw [sc_piece mkB j 1, drop_at h]
  rfl

set_option maxRecDepth 100000 in
set_option maxHeartbeats 800000 in
theorem refTok_mark1 (s : ByteArray) (p : Nat) (w : World) (hp : p < s.size) (hs : s.size ≤ 1073741824) (x : UInt8) (hx' : s[p]'hp = x) (h39 : x ≠ 39) (hL : lxL x = false) (hB : bgN ((lS s).drop p) = false) (h45 : x ≠ 45) :
    Calls Tryz.prog 13 #[.string s, .int .i64 (p : Int)] w (RTokF p (tokG p ((lS s).drop p)) w) := by
  have hna : ¬ (x = 45 ∧ ((lS s).drop (p + 1)).head? = some 62) := fun h => h45 h.1
  have hdx : lxD x = false := by
    cases hd : lxD x with
    | false => rfl
    | true =>
      rw [drop_at hp, hx'] at hB
      rw [(bgN_iff x _).2 (.inl hd)] at hB
      cases hB
  have hR : tokG p ((lS s).drop p) = if x ∈ ([40, 41, 123, 125, 91, 93, 58, 44, 59, 45] : Bs) then .ok (⟨5, [x], 0, p⟩, 1) else .error (p, 240) := by
    rw [drop_at hp, hx'] at hB ⊢
    exact tok_mk h39 hL hB hna
  rw [hR]
  have HY : Hid (∀ w', Below w.heap.size w w' → x ∈ ([40, 41, 123, 125, 91, 93, 58, 44, 59, 45] : Bs) → RTokF p (if x ∈ ([40, 41, 123, 125, 91, 93, 58, 44, 59, 45] : Bs) then .ok (⟨5, [x], 0, p⟩, 1) else .error (p, 240)) w (.returned (.tuple #[.agg #[.int .i64 5, .string (mkS [x]), .int .i64 0, .int .i64 (p : Int)], .int .i64 ((p : Int) + 1), .int .i64 0])) w') := Lib.hid fun w' hb hm => by
    rw [if_pos hm]
    exact rtok_ok rfl hb rfl rfl rfl rfl (by show (p : Int) + 1 = _; omega)
  have HNo : Hid (∀ w', Below w.heap.size w w' → x ∉ ([40, 41, 123, 125, 91, 93, 58, 44, 59, 45] : Bs) → RTokF p (if x ∈ ([40, 41, 123, 125, 91, 93, 58, 44, 59, 45] : Bs) then .ok (⟨5, [x], 0, p⟩, 1) else .error (p, 240)) w (.returned (.tuple #[.agg #[.int .i64 0, .string ⟨#[]⟩, .int .i64 0, .int .i64 (p : Int)], .int .i64 0, .int .i64 240])) w') := Lib.hid fun w' hb hm => by
    rw [if_neg hm]
    exact rtok_bad rfl hb
  generalize (RTokF p (if x ∈ ([40, 41, 123, 125, 91, 93, 58, 44, 59, 45] : Bs) then .ok (⟨5, [x], 0, p⟩, 1) else .error (p, 240)) w) = Q at *
  have H0 : Hid (St Zf [BlkA w.heap.size 30 tkZ] w (w.alloc (.cells tkZ 30))) := Lib.hid ((St.start Zf w).newBlk 30 tkZ)
  have HMK : Hid (∀ j (h : j < mkB.size), ∃ m, mkB[j]'h = m ∧ ([40, 41, 123, 125, 91, 93, 58, 44, 59, 45] : Bs)[j]? = some m ∧ mkB.extract j (j + 1) = mkS [m]) := Lib.hid mkB_at
  have n39 : ((x.toNat : Int) == 39) = false := u8_ne_int (n := 39) h39
  have HLx := Lib.hid fun w' => refLetter_any x w'
  rw [hL] at HLx
  have HDx := Lib.hid fun w' => refDigit_any x w'
  rw [hdx] at HDx
  have hpw : wrap64 ((p : Int) + 1) = (p : Int) + 1 := w64_small (by omega) (by omega)
  have n45 : ((x.toNat : Int) == 45) = false := u8_ne_int (n := 45) h45
  clear h45
  clear hR hna hB hdx hL h39
  obtain ⟨MB, hMB⟩ : ∃ MB, MB = mkB := ⟨_, rfl⟩
  have hMs : MB.size = 10 := by rw [hMB]; rfl
  rw [← hMB] at HMK
  have HMB := Lib.hid hMB
  clear hMB
  go_enter Tryz.func13, Tryz.ntmps13
  go_wp2_with fail
  refine (HLx.out _).mono ?_
  rintro e w2 ⟨rfl, rfl⟩
  go_wp2_with fail
  refine (HDx.out _).mono ?_
  rintro e w2 ⟨rfl, rfl⟩
  go_wp2
  rw [show (⟨#[40, 41, 123, 125, 91, 93, 58, 44, 59, 45]⟩ : ByteArray) = MB from HMB.out.symm]
  go_loopw [12] (fun i wr => ∃ j : Nat, j ≤ 10 ∧ i = .int .i64 j ∧ Hid (∀ (i : Nat) (m : UInt8), i < j → ([40, 41, 123, 125, 91, 93, 58, 44, 59, 45] : Bs)[i]? = some m → m ≠ x) ∧ Hid (St Zf [BlkA w.heap.size 30 tkZ] w wr)) (fun i _ => 10 - (intOf i).toNat)
  case atStart => exact ⟨0, by omega, rfl, Lib.hid (fun i m h => absurd h (Nat.not_lt_zero _)), H0⟩
  case round =>
    obtain ⟨j, hj, rfl, HJ, HST⟩ := hrel
    clear H0 HLx HDx
    obtain ⟨⟨d0, d1, d2, d3⟩, f0, l1⟩ := blk4 HST.out
    have F0 := f0 0
    have F1 := f0 1
    have F2 := f0 2
    have F3 := f0 3
    clear f0
    by_cases hlt : j < 10
    · have hjs : j < MB.size := by rw [hMs]; exact hlt
      obtain ⟨m, hm1, hm2, hm3⟩ := HMK.out j hjs
      have hjw : wrap64 ((j : Int) + 1) = (j : Int) + 1 := w64_small (by omega) (by omega)
      by_cases hmx : m = x
      · have hme : ((m.toNat : Int) == (x.toNat : Int)) = true := by rw [hmx]; simp
        have HIN : Hid (x ∈ ([40, 41, 123, 125, 91, 93, 58, 44, 59, 45] : Bs)) := Lib.hid (by rw [← hmx]; exact List.mem_of_getElem? hm2)
        rw [hmx] at hm3
        clear hm2 hmx
        go_wp2_with fail
        have HF := Lib.hid ((((HST.out.setBlk 0 (.int .i64 5)).setBlk 1 (.string (mkS [x]))).setBlk 2 (.int .i64 0)).setBlk 3 (.int .i64 (p : Int)))
        have HF2 := HF.out
        simp only [List.setIfInBounds_toArray, List.set_cons_zero, List.set_cons_succ] at HF2
        refine bodyPost_ret (results_agg3 rfl _ _ w.heap.size 30 _ _ rfl HF2.blk Tryz.underlying30 rfl (by kernel_rfl)) rfl ?_
        exact HY.out _ HF.out.bel HIN.out
      · have hme : ((m.toNat : Int) == (x.toNat : Int)) = false := by rw [u8_eq_int]; simpa using hmx
        have HJ2 : Hid (∀ (i : Nat) (m : UInt8), i < j + 1 → ([40, 41, 123, 125, 91, 93, 58, 44, 59, 45] : Bs)[i]? = some m → m ≠ x) := Lib.hid (by
          intro i m' hi hm'
          rcases Nat.lt_succ_iff_lt_or_eq.1 hi with h | rfl
          · exact HJ.out i m' h hm'
          · rw [hm2] at hm'
            injection hm' with hm'
            rw [← hm']
            exact hmx)
        clear hm2 hmx hm3 d0 d1 d2 d3 F0 F1 F2 F3 l1 HJ
        go_wp2
        go_roundw
        case rel => exact ⟨j + 1, by omega, by go_num, HJ2, HST⟩
        case measure => simp [intOf]; omega
    · obtain rfl : j = 10 := by omega
      have HIN : Hid (x ∉ ([40, 41, 123, 125, 91, 93, 58, 44, 59, 45] : Bs)) := Lib.hid (by
        intro hin
        obtain ⟨i, hi, hx⟩ := List.mem_iff_getElem.1 hin
        exact HJ.out i x hi (by rw [List.getElem?_eq_getElem hi, hx]) rfl)
      clear HJ
      go_wp2_with fail
      have HF := Lib.hid ((((HST.out.setBlk 0 (.int .i64 0)).setBlk 1 (.string ⟨#[]⟩)).setBlk 2 (.int .i64 0)).setBlk 3 (.int .i64 (p : Int)))
      have HF2 := HF.out
      simp only [List.setIfInBounds_toArray, List.set_cons_zero, List.set_cons_succ] at HF2
      refine bodyPost_ret (results_agg3 rfl _ _ w.heap.size 30 _ _ rfl HF2.blk Tryz.underlying30 rfl (by kernel_rfl)) rfl ?_
      exact HNo.out _ HF.out.bel HIN.out
set_option maxRecDepth 100000 in
set_option maxHeartbeats 800000 in
theorem refTok_mark2 (s : ByteArray) (p : Nat) (w : World) (hp : p < s.size) (hs : s.size ≤ 1073741824) (x : UInt8) (hx' : s[p]'hp = x) (h39 : x ≠ 39) (hL : lxL x = false) (hB : bgN ((lS s).drop p) = false) (h45 : x = 45) (hp1 : ¬ p + 1 < s.size) :
    Calls Tryz.prog 13 #[.string s, .int .i64 (p : Int)] w (RTokF p (tokG p ((lS s).drop p)) w) := by
  have hna : ¬ (x = 45 ∧ ((lS s).drop (p + 1)).head? = some 62) := fun h => by
    have h2 := h.2
    rw [List.drop_of_length_le (by rw [lS_len]; omega)] at h2
    cases h2
  have hdx : lxD x = false := by
    cases hd : lxD x with
    | false => rfl
    | true =>
      rw [drop_at hp, hx'] at hB
      rw [(bgN_iff x _).2 (.inl hd)] at hB
      cases hB
  have hR : tokG p ((lS s).drop p) = if x ∈ ([40, 41, 123, 125, 91, 93, 58, 44, 59, 45] : Bs) then .ok (⟨5, [x], 0, p⟩, 1) else .error (p, 240) := by
    rw [drop_at hp, hx'] at hB ⊢
    exact tok_mk h39 hL hB hna
  rw [hR]
  have HY : Hid (∀ w', Below w.heap.size w w' → x ∈ ([40, 41, 123, 125, 91, 93, 58, 44, 59, 45] : Bs) → RTokF p (if x ∈ ([40, 41, 123, 125, 91, 93, 58, 44, 59, 45] : Bs) then .ok (⟨5, [x], 0, p⟩, 1) else .error (p, 240)) w (.returned (.tuple #[.agg #[.int .i64 5, .string (mkS [x]), .int .i64 0, .int .i64 (p : Int)], .int .i64 ((p : Int) + 1), .int .i64 0])) w') := Lib.hid fun w' hb hm => by
    rw [if_pos hm]
    exact rtok_ok rfl hb rfl rfl rfl rfl (by show (p : Int) + 1 = _; omega)
  have HNo : Hid (∀ w', Below w.heap.size w w' → x ∉ ([40, 41, 123, 125, 91, 93, 58, 44, 59, 45] : Bs) → RTokF p (if x ∈ ([40, 41, 123, 125, 91, 93, 58, 44, 59, 45] : Bs) then .ok (⟨5, [x], 0, p⟩, 1) else .error (p, 240)) w (.returned (.tuple #[.agg #[.int .i64 0, .string ⟨#[]⟩, .int .i64 0, .int .i64 (p : Int)], .int .i64 0, .int .i64 240])) w') := Lib.hid fun w' hb hm => by
    rw [if_neg hm]
    exact rtok_bad rfl hb
  generalize (RTokF p (if x ∈ ([40, 41, 123, 125, 91, 93, 58, 44, 59, 45] : Bs) then .ok (⟨5, [x], 0, p⟩, 1) else .error (p, 240)) w) = Q at *
  have H0 : Hid (St Zf [BlkA w.heap.size 30 tkZ] w (w.alloc (.cells tkZ 30))) := Lib.hid ((St.start Zf w).newBlk 30 tkZ)
  have HMK : Hid (∀ j (h : j < mkB.size), ∃ m, mkB[j]'h = m ∧ ([40, 41, 123, 125, 91, 93, 58, 44, 59, 45] : Bs)[j]? = some m ∧ mkB.extract j (j + 1) = mkS [m]) := Lib.hid mkB_at
  have n39 : ((x.toNat : Int) == 39) = false := u8_ne_int (n := 39) h39
  have HLx := Lib.hid fun w' => refLetter_any x w'
  rw [hL] at HLx
  have HDx := Lib.hid fun w' => refDigit_any x w'
  rw [hdx] at HDx
  have hpw : wrap64 ((p : Int) + 1) = (p : Int) + 1 := w64_small (by omega) (by omega)
  have n45 : ((x.toNat : Int) == 45) = true := by rw [h45]; decide
  have hp1' : ¬ (p : Int) + 1 < (s.size : Int) := by omega
  clear h45
  clear hR hna hB hdx hL h39
  obtain ⟨MB, hMB⟩ : ∃ MB, MB = mkB := ⟨_, rfl⟩
  have hMs : MB.size = 10 := by rw [hMB]; rfl
  rw [← hMB] at HMK
  have HMB := Lib.hid hMB
  clear hMB
  go_enter Tryz.func13, Tryz.ntmps13
  go_wp2_with fail
  refine (HLx.out _).mono ?_
  rintro e w2 ⟨rfl, rfl⟩
  go_wp2_with fail
  refine (HDx.out _).mono ?_
  rintro e w2 ⟨rfl, rfl⟩
  go_wp2
  rw [show (⟨#[40, 41, 123, 125, 91, 93, 58, 44, 59, 45]⟩ : ByteArray) = MB from HMB.out.symm]
  go_loopw [12] (fun i wr => ∃ j : Nat, j ≤ 10 ∧ i = .int .i64 j ∧ Hid (∀ (i : Nat) (m : UInt8), i < j → ([40, 41, 123, 125, 91, 93, 58, 44, 59, 45] : Bs)[i]? = some m → m ≠ x) ∧ Hid (St Zf [BlkA w.heap.size 30 tkZ] w wr)) (fun i _ => 10 - (intOf i).toNat)
  case atStart => exact ⟨0, by omega, rfl, Lib.hid (fun i m h => absurd h (Nat.not_lt_zero _)), H0⟩
  case round =>
    obtain ⟨j, hj, rfl, HJ, HST⟩ := hrel
    clear H0 HLx HDx
    obtain ⟨⟨d0, d1, d2, d3⟩, f0, l1⟩ := blk4 HST.out
    have F0 := f0 0
    have F1 := f0 1
    have F2 := f0 2
    have F3 := f0 3
    clear f0
    by_cases hlt : j < 10
    · have hjs : j < MB.size := by rw [hMs]; exact hlt
      obtain ⟨m, hm1, hm2, hm3⟩ := HMK.out j hjs
      have hjw : wrap64 ((j : Int) + 1) = (j : Int) + 1 := w64_small (by omega) (by omega)
      by_cases hmx : m = x
      · have hme : ((m.toNat : Int) == (x.toNat : Int)) = true := by rw [hmx]; simp
        have HIN : Hid (x ∈ ([40, 41, 123, 125, 91, 93, 58, 44, 59, 45] : Bs)) := Lib.hid (by rw [← hmx]; exact List.mem_of_getElem? hm2)
        rw [hmx] at hm3
        clear hm2 hmx
        go_wp2_with fail
        have HF := Lib.hid ((((HST.out.setBlk 0 (.int .i64 5)).setBlk 1 (.string (mkS [x]))).setBlk 2 (.int .i64 0)).setBlk 3 (.int .i64 (p : Int)))
        have HF2 := HF.out
        simp only [List.setIfInBounds_toArray, List.set_cons_zero, List.set_cons_succ] at HF2
        refine bodyPost_ret (results_agg3 rfl _ _ w.heap.size 30 _ _ rfl HF2.blk Tryz.underlying30 rfl (by kernel_rfl)) rfl ?_
        exact HY.out _ HF.out.bel HIN.out
      · have hme : ((m.toNat : Int) == (x.toNat : Int)) = false := by rw [u8_eq_int]; simpa using hmx
        have HJ2 : Hid (∀ (i : Nat) (m : UInt8), i < j + 1 → ([40, 41, 123, 125, 91, 93, 58, 44, 59, 45] : Bs)[i]? = some m → m ≠ x) := Lib.hid (by
          intro i m' hi hm'
          rcases Nat.lt_succ_iff_lt_or_eq.1 hi with h | rfl
          · exact HJ.out i m' h hm'
          · rw [hm2] at hm'
            injection hm' with hm'
            rw [← hm']
            exact hmx)
        clear hm2 hmx hm3 d0 d1 d2 d3 F0 F1 F2 F3 l1 HJ
        go_wp2
        go_roundw
        case rel => exact ⟨j + 1, by omega, by go_num, HJ2, HST⟩
        case measure => simp [intOf]; omega
    · obtain rfl : j = 10 := by omega
      have HIN : Hid (x ∉ ([40, 41, 123, 125, 91, 93, 58, 44, 59, 45] : Bs)) := Lib.hid (by
        intro hin
        obtain ⟨i, hi, hx⟩ := List.mem_iff_getElem.1 hin
        exact HJ.out i x hi (by rw [List.getElem?_eq_getElem hi, hx]) rfl)
      clear HJ
      go_wp2_with fail
      have HF := Lib.hid ((((HST.out.setBlk 0 (.int .i64 0)).setBlk 1 (.string ⟨#[]⟩)).setBlk 2 (.int .i64 0)).setBlk 3 (.int .i64 (p : Int)))
      have HF2 := HF.out
      simp only [List.setIfInBounds_toArray, List.set_cons_zero, List.set_cons_succ] at HF2
      refine bodyPost_ret (results_agg3 rfl _ _ w.heap.size 30 _ _ rfl HF2.blk Tryz.underlying30 rfl (by kernel_rfl)) rfl ?_
      exact HNo.out _ HF.out.bel HIN.out
set_option maxRecDepth 100000 in
set_option maxHeartbeats 800000 in
theorem refTok_mark3 (s : ByteArray) (p : Nat) (w : World) (hp : p < s.size) (hs : s.size ≤ 1073741824) (x : UInt8) (hx' : s[p]'hp = x) (h39 : x ≠ 39) (hL : lxL x = false) (hB : bgN ((lS s).drop p) = false) (h45 : x = 45) (hp1 : p + 1 < s.size) (y : UInt8) (hy' : s[p + 1]'hp1 = y) (h62 : y ≠ 62) (hdy : lxD y = false) :
    Calls Tryz.prog 13 #[.string s, .int .i64 (p : Int)] w (RTokF p (tokG p ((lS s).drop p)) w) := by
  have hna : ¬ (x = 45 ∧ ((lS s).drop (p + 1)).head? = some 62) := fun h => by
    have h2 := h.2
    rw [drop_at hp1, hy'] at h2
    injection h2 with h2
    exact h62 h2
  have hdx : lxD x = false := by
    cases hd : lxD x with
    | false => rfl
    | true =>
      rw [drop_at hp, hx'] at hB
      rw [(bgN_iff x _).2 (.inl hd)] at hB
      cases hB
  have hR : tokG p ((lS s).drop p) = if x ∈ ([40, 41, 123, 125, 91, 93, 58, 44, 59, 45] : Bs) then .ok (⟨5, [x], 0, p⟩, 1) else .error (p, 240) := by
    rw [drop_at hp, hx'] at hB ⊢
    exact tok_mk h39 hL hB hna
  rw [hR]
  have HY : Hid (∀ w', Below w.heap.size w w' → x ∈ ([40, 41, 123, 125, 91, 93, 58, 44, 59, 45] : Bs) → RTokF p (if x ∈ ([40, 41, 123, 125, 91, 93, 58, 44, 59, 45] : Bs) then .ok (⟨5, [x], 0, p⟩, 1) else .error (p, 240)) w (.returned (.tuple #[.agg #[.int .i64 5, .string (mkS [x]), .int .i64 0, .int .i64 (p : Int)], .int .i64 ((p : Int) + 1), .int .i64 0])) w') := Lib.hid fun w' hb hm => by
    rw [if_pos hm]
    exact rtok_ok rfl hb rfl rfl rfl rfl (by show (p : Int) + 1 = _; omega)
  have HNo : Hid (∀ w', Below w.heap.size w w' → x ∉ ([40, 41, 123, 125, 91, 93, 58, 44, 59, 45] : Bs) → RTokF p (if x ∈ ([40, 41, 123, 125, 91, 93, 58, 44, 59, 45] : Bs) then .ok (⟨5, [x], 0, p⟩, 1) else .error (p, 240)) w (.returned (.tuple #[.agg #[.int .i64 0, .string ⟨#[]⟩, .int .i64 0, .int .i64 (p : Int)], .int .i64 0, .int .i64 240])) w') := Lib.hid fun w' hb hm => by
    rw [if_neg hm]
    exact rtok_bad rfl hb
  generalize (RTokF p (if x ∈ ([40, 41, 123, 125, 91, 93, 58, 44, 59, 45] : Bs) then .ok (⟨5, [x], 0, p⟩, 1) else .error (p, 240)) w) = Q at *
  have H0 : Hid (St Zf [BlkA w.heap.size 30 tkZ] w (w.alloc (.cells tkZ 30))) := Lib.hid ((St.start Zf w).newBlk 30 tkZ)
  have HMK : Hid (∀ j (h : j < mkB.size), ∃ m, mkB[j]'h = m ∧ ([40, 41, 123, 125, 91, 93, 58, 44, 59, 45] : Bs)[j]? = some m ∧ mkB.extract j (j + 1) = mkS [m]) := Lib.hid mkB_at
  have n39 : ((x.toNat : Int) == 39) = false := u8_ne_int (n := 39) h39
  have HLx := Lib.hid fun w' => refLetter_any x w'
  rw [hL] at HLx
  have HDx := Lib.hid fun w' => refDigit_any x w'
  rw [hdx] at HDx
  have hpw : wrap64 ((p : Int) + 1) = (p : Int) + 1 := w64_small (by omega) (by omega)
  have n45 : ((x.toNat : Int) == 45) = true := by rw [h45]; decide
  have hp1' : (p : Int) + 1 < (s.size : Int) := by omega
  have n62 : ((y.toNat : Int) == 62) = false := u8_ne_int (n := 62) h62
  have HDy := Lib.hid fun w' => refDigit_any y w'
  rw [hdy] at HDy
  clear h45 h62 hdy
  clear hR hna hB hdx hL h39
  obtain ⟨MB, hMB⟩ : ∃ MB, MB = mkB := ⟨_, rfl⟩
  have hMs : MB.size = 10 := by rw [hMB]; rfl
  rw [← hMB] at HMK
  have HMB := Lib.hid hMB
  clear hMB
  go_enter Tryz.func13, Tryz.ntmps13
  go_wp2_with fail
  refine (HLx.out _).mono ?_
  rintro e w2 ⟨rfl, rfl⟩
  go_wp2_with fail
  refine (HDx.out _).mono ?_
  rintro e w2 ⟨rfl, rfl⟩
  go_wp2_with fail
  refine (HDy.out _).mono ?_
  rintro e w2 ⟨rfl, rfl⟩
  go_wp2
  rw [show (⟨#[40, 41, 123, 125, 91, 93, 58, 44, 59, 45]⟩ : ByteArray) = MB from HMB.out.symm]
  go_loopw [12] (fun i wr => ∃ j : Nat, j ≤ 10 ∧ i = .int .i64 j ∧ Hid (∀ (i : Nat) (m : UInt8), i < j → ([40, 41, 123, 125, 91, 93, 58, 44, 59, 45] : Bs)[i]? = some m → m ≠ x) ∧ Hid (St Zf [BlkA w.heap.size 30 tkZ] w wr)) (fun i _ => 10 - (intOf i).toNat)
  case atStart => exact ⟨0, by omega, rfl, Lib.hid (fun i m h => absurd h (Nat.not_lt_zero _)), H0⟩
  case round =>
    obtain ⟨j, hj, rfl, HJ, HST⟩ := hrel
    clear H0 HLx HDx
    obtain ⟨⟨d0, d1, d2, d3⟩, f0, l1⟩ := blk4 HST.out
    have F0 := f0 0
    have F1 := f0 1
    have F2 := f0 2
    have F3 := f0 3
    clear f0
    by_cases hlt : j < 10
    · have hjs : j < MB.size := by rw [hMs]; exact hlt
      obtain ⟨m, hm1, hm2, hm3⟩ := HMK.out j hjs
      have hjw : wrap64 ((j : Int) + 1) = (j : Int) + 1 := w64_small (by omega) (by omega)
      by_cases hmx : m = x
      · have hme : ((m.toNat : Int) == (x.toNat : Int)) = true := by rw [hmx]; simp
        have HIN : Hid (x ∈ ([40, 41, 123, 125, 91, 93, 58, 44, 59, 45] : Bs)) := Lib.hid (by rw [← hmx]; exact List.mem_of_getElem? hm2)
        rw [hmx] at hm3
        clear hm2 hmx
        go_wp2_with fail
        have HF := Lib.hid ((((HST.out.setBlk 0 (.int .i64 5)).setBlk 1 (.string (mkS [x]))).setBlk 2 (.int .i64 0)).setBlk 3 (.int .i64 (p : Int)))
        have HF2 := HF.out
        simp only [List.setIfInBounds_toArray, List.set_cons_zero, List.set_cons_succ] at HF2
        refine bodyPost_ret (results_agg3 rfl _ _ w.heap.size 30 _ _ rfl HF2.blk Tryz.underlying30 rfl (by kernel_rfl)) rfl ?_
        exact HY.out _ HF.out.bel HIN.out
      · have hme : ((m.toNat : Int) == (x.toNat : Int)) = false := by rw [u8_eq_int]; simpa using hmx
        have HJ2 : Hid (∀ (i : Nat) (m : UInt8), i < j + 1 → ([40, 41, 123, 125, 91, 93, 58, 44, 59, 45] : Bs)[i]? = some m → m ≠ x) := Lib.hid (by
          intro i m' hi hm'
          rcases Nat.lt_succ_iff_lt_or_eq.1 hi with h | rfl
          · exact HJ.out i m' h hm'
          · rw [hm2] at hm'
            injection hm' with hm'
            rw [← hm']
            exact hmx)
        clear hm2 hmx hm3 d0 d1 d2 d3 F0 F1 F2 F3 l1 HJ
        go_wp2
        go_roundw
        case rel => exact ⟨j + 1, by omega, by go_num, HJ2, HST⟩
        case measure => simp [intOf]; omega
    · obtain rfl : j = 10 := by omega
      have HIN : Hid (x ∉ ([40, 41, 123, 125, 91, 93, 58, 44, 59, 45] : Bs)) := Lib.hid (by
        intro hin
        obtain ⟨i, hi, hx⟩ := List.mem_iff_getElem.1 hin
        exact HJ.out i x hi (by rw [List.getElem?_eq_getElem hi, hx]) rfl)
      clear HJ
      go_wp2_with fail
      have HF := Lib.hid ((((HST.out.setBlk 0 (.int .i64 0)).setBlk 1 (.string ⟨#[]⟩)).setBlk 2 (.int .i64 0)).setBlk 3 (.int .i64 (p : Int)))
      have HF2 := HF.out
      simp only [List.setIfInBounds_toArray, List.set_cons_zero, List.set_cons_succ] at HF2
      refine bodyPost_ret (results_agg3 rfl _ _ w.heap.size 30 _ _ rfl HF2.blk Tryz.underlying30 rfl (by kernel_rfl)) rfl ?_
      exact HNo.out _ HF.out.bel HIN.out
end Go.Proofs.YthmgkjfohkadoaaGreatDoor

/- lexer: the document's number. By tools/mklxrv.py. -/
namespace Go.Proofs.YthmgkjfohkadoaaGreatDoor
open Go.RowKit
set_option linter.unusedVariables false
set_option linter.unusedSimpArgs false

theorem trim45 (x : UInt8) (G : Bs) : Lib.trimPrefix (x :: G) [45] = if x = 45 then G else x :: G := by
  unfold Lib.trimPrefix
  rw [pre1]
  by_cases h : x = 45
  · rw [if_pos (by simpa using h), if_pos h]; rfl
  · rw [if_neg (by simpa using h), if_neg h]
theorem pre_0x (K : Bs) : Lib.hasPrefix K [48, 120] = decide (K.take 2 = [48, 120]) := by
  rcases K with _ | ⟨a, _ | ⟨b, K⟩⟩
  · rfl
  · rw [Bool.eq_iff_iff, decide_eq_true_eq]
    simp [Lib.hasPrefix]
  · rw [Bool.eq_iff_iff, decide_eq_true_eq]
    simp [Lib.hasPrefix]
    exact ⟨fun ⟨h1, h2⟩ => ⟨h1.symm, h2.symm⟩, fun ⟨h1, h2⟩ => ⟨h1.symm, h2.symm⟩⟩
theorem str_0x (K : Bs) : ((mkS (K.take 2)).toList == ([48, 120] : List UInt8)) = Lib.hasPrefix K [48, 120] := by
  have h : (mkS (K.take 2)).toList = K.take 2 := by
    rw [ByteArray.toList_eq]
    exact lS_mk _
  rw [pre_0x, h, Bool.eq_iff_iff, beq_iff_eq, decide_eq_true_eq]
theorem pre_short {K : Bs} (h : K.length < 2) : Lib.hasPrefix K [48, 120] = false := by
  rw [pre_0x, decide_eq_false_iff_not]
  intro e
  have := congrArg List.length e
  rw [List.length_take] at this
  simp at this
  omega
set_option maxRecDepth 100000 in
set_option maxHeartbeats 800000 in
theorem refNumber_PF (s : ByteArray) (p n : Nat) (w : World) (x : UInt8) (G : Bs) (hq : p + n ≤ s.size) (hF : x :: G = ((lS s).drop p).take n) (hs : s.size ≤ 1073741824) (h45 : x ≠ 45)
    (h2 : 2 ≤ (x :: G).length) (hb : Lib.hasPrefix (x :: G) [48, 120] = true) :
    Calls Tryz.prog 32 #[.string s, .int .i64 (p : Int), .int .i64 ((p + n : Nat) : Int)] w (RTokF p (numX p (x :: G) n) w) := by
  have hFl : (x :: G).length = n := by rw [hF, List.length_take, List.length_drop, lS_len]; omega
  have hSE : s.extract p (p + n) = mkS (x :: G) := by rw [sc_piece, hF]
  obtain ⟨D, hD⟩ : ∃ D, D = mkS (x :: G) := ⟨_, rfl⟩
  have hDl : D.size = n := by rw [hD, mkS_size, hFl]
  have hn0 : 0 < D.size := by rw [hDl, ← hFl]; simp
  have hD0 : D[0]'hn0 = x := by
    have h1 := byte_at D 0 hn0
    have h2 : lS D = x :: G := by rw [hD, lS_mk]
    have h3 : (lS D)[0]? = some x := by rw [h2]; rfl
    have h4 : (lS D)[0]? = some (D[0]'hn0) := h1
    rw [h3] at h4
    injection h4 with h4
    exact h4.symm
  have htr : Lib.trimPrefix (x :: G) [45] = x :: G := by rw [trim45, if_neg h45]
  have hEX : D.extract 0 2 = mkS ((x :: G).take 2) := by
    rw [show D.extract 0 2 = mkS (((lS D).drop 0).take 2) from sc_piece D 0 2, hD, lS_mk]
    rfl
  have hP := str_0x (x :: G)
  rw [hb] at hP
  rw [← hD] at hSE
  have n45 : ((x.toNat : Int) == 45) = false := u8_ne_int (n := 45) h45
  have H0 : Hid (St Zf [BlkA w.heap.size 30 tkZ] w (w.alloc (.cells tkZ 30))) := Lib.hid ((St.start Zf w).newBlk 30 tkZ)
  have hKl : (x :: G).length = n - 0 := by rw [← hFl]; rfl
  have HPF : Hid (∀ w', Calls Tryz.prog 49 #[.string D] w' fun e w2 => ∃ v c : Int, e = .returned (.tuple #[.int .u64 v, .int .i64 c]) ∧ Hid (i64Of (rdF (x :: G)).1 = wrap64 v ∧ (rdF (x :: G)).2 = c) ∧ Below w'.heap.size w' w2) := Lib.hid fun w' => by
    refine (refParseFloat D w' (by rw [hDl]; omega)).mono ?_
    rintro e w2 ⟨v, c, rfl, hr, hb⟩
    have hr2 : ReadF (x :: G) v c := by
      have : D.data.toList = x :: G := by
        show lS D = _
        rw [hD, lS_mk]
      rwa [this] at hr
    have hlt := readF_ltL hr2
    refine ⟨(v : Int), c, rfl, Lib.hid ⟨?_, ?_⟩, hb⟩
    · rw [rdF_eq hr2]
      exact i64Of_wrapL hlt
    · rw [rdF_eq hr2]
  have HNF : Hid (∀ v c : Int, (i64Of (rdF (x :: G)).1 = wrap64 v ∧ (rdF (x :: G)).2 = c) → (c = 0 → ∀ w', Below w.heap.size w w' → RTokF p (numX p (x :: G) n) w (.returned (.tuple #[.agg #[.int .i64 3, .string ⟨#[]⟩, .int .i64 (wrap64 v), .int .i64 (p : Int)], .int .i64 ((p + n : Nat) : Int), .int .i64 0])) w') ∧ (c ≠ 0 → ∀ w', Below w.heap.size w w' → RTokF p (numX p (x :: G) n) w (.returned (.tuple #[.agg #[.int .i64 0, .string ⟨#[]⟩, .int .i64 0, .int .i64 (p : Int)], .int .i64 0, .int .i64 c])) w')) := Lib.hid fun v c ⟨e1, e2⟩ => by
    refine ⟨fun hc w' hb' => ?_, fun hc w' hb' => ?_⟩
    · refine rtok_ok (t := ⟨3, [], i64Of (rdF (x :: G)).1, p⟩) (n := n) (by unfold numX; rw [htr, if_pos hb, if_pos (e2.trans hc)]) hb' rfl rfl e1.symm rfl rfl
    · refine rtok_bad ?_ hb'
      unfold numX
      rw [htr, if_pos hb, if_neg (fun h => hc (e2.symm.trans h)), e2]
  have hDl2 : (D.size : Int) = (n : Int) := by rw [hDl]
  have hli : (2 : Int) ≤ (n : Int) := by omega
  have hli2 : (2 : Int) ≤ (D.size : Int) := by omega
  have hli3 : 2 ≤ D.size := by omega
  have hlw : wrap64 (n : Int) = (n : Int) := by unfold wrap64; omega
  generalize mkS ((x :: G).take 2) = P at hEX hP
  generalize RTokF p (numX p (x :: G) n) w = Q at *
  clear hF hFl hD htr hb hKl h45 h2
  have hpn : (p : Int) ≤ ((p + n : Nat) : Int) := by omega
  have hpn2 : ((p + n : Nat) : Int) ≤ (s.size : Int) := by omega
  generalize hqq : p + n = q at *
  clear hqq
  go_enter Tryz.func32, Tryz.ntmps32
  go_wp2_with fail
  refine (HPF.out _).mono ?_
  rintro e w2 ⟨v, c, rfl, HV, b2⟩
  have H2 := Lib.hid (H0.out.below b2)
  obtain ⟨⟨d0, d1, d2, d3⟩, f0, l1⟩ := blk4 H2.out
  have F0 := f0 0
  have F1 := f0 1
  have F2 := f0 2
  have F3 := f0 3
  clear f0
  clear b2
  by_cases hc : c = 0
  · have hce : (c != 0) = false := by rw [hc]; rfl
    have HX := Lib.hid (HNF.out v c HV.out).1
    have hc0 := Lib.hid hc
    clear hc
    go_wp2_with fail
    have HF := Lib.hid ((((H2.out.setBlk 0 (.int .i64 3)).setBlk 1 (.string ⟨#[]⟩)).setBlk 2 (.int .i64 (wrap64 v))).setBlk 3 (.int .i64 (p : Int)))
    have HF2 := HF.out
    simp only [List.setIfInBounds_toArray, List.set_cons_zero, List.set_cons_succ] at HF2
    refine bodyPost_ret (results_agg3 rfl _ _ w.heap.size 30 _ _ rfl HF2.blk Tryz.underlying30 rfl (by kernel_rfl)) rfl ?_
    exact HX.out hc0.out _ HF.out.bel
  · have hce : (c != 0) = true := by simpa using hc
    have HX := Lib.hid ((HNF.out v c HV.out).2 hc)
    clear hc
    go_wp2_with fail
    have HF := Lib.hid ((((H2.out.setBlk 0 (.int .i64 0)).setBlk 1 (.string ⟨#[]⟩)).setBlk 2 (.int .i64 0)).setBlk 3 (.int .i64 (p : Int)))
    have HF2 := HF.out
    simp only [List.setIfInBounds_toArray, List.set_cons_zero, List.set_cons_succ] at HF2
    refine bodyPost_ret (results_agg3 rfl _ _ w.heap.size 30 _ _ rfl HF2.blk Tryz.underlying30 rfl (by kernel_rfl)) rfl ?_
    exact HX.out _ HF.out.bel
set_option maxRecDepth 100000 in
set_option maxHeartbeats 800000 in
theorem refNumber_PI (s : ByteArray) (p n : Nat) (w : World) (x : UInt8) (G : Bs) (hq : p + n ≤ s.size) (hF : x :: G = ((lS s).drop p).take n) (hs : s.size ≤ 1073741824) (h45 : x ≠ 45)
    (h2 : 2 ≤ (x :: G).length) (hb : Lib.hasPrefix (x :: G) [48, 120] = false) :
    Calls Tryz.prog 32 #[.string s, .int .i64 (p : Int), .int .i64 ((p + n : Nat) : Int)] w (RTokF p (numX p (x :: G) n) w) := by
  have hFl : (x :: G).length = n := by rw [hF, List.length_take, List.length_drop, lS_len]; omega
  have hSE : s.extract p (p + n) = mkS (x :: G) := by rw [sc_piece, hF]
  obtain ⟨D, hD⟩ : ∃ D, D = mkS (x :: G) := ⟨_, rfl⟩
  have hDl : D.size = n := by rw [hD, mkS_size, hFl]
  have hn0 : 0 < D.size := by rw [hDl, ← hFl]; simp
  have hD0 : D[0]'hn0 = x := by
    have h1 := byte_at D 0 hn0
    have h2 : lS D = x :: G := by rw [hD, lS_mk]
    have h3 : (lS D)[0]? = some x := by rw [h2]; rfl
    have h4 : (lS D)[0]? = some (D[0]'hn0) := h1
    rw [h3] at h4
    injection h4 with h4
    exact h4.symm
  have htr : Lib.trimPrefix (x :: G) [45] = x :: G := by rw [trim45, if_neg h45]
  have hEX : D.extract 0 2 = mkS ((x :: G).take 2) := by
    rw [show D.extract 0 2 = mkS (((lS D).drop 0).take 2) from sc_piece D 0 2, hD, lS_mk]
    rfl
  have hP := str_0x (x :: G)
  rw [hb] at hP
  rw [← hD] at hSE
  have n45 : ((x.toNat : Int) == 45) = false := u8_ne_int (n := 45) h45
  have H0 : Hid (St Zf [BlkA w.heap.size 30 tkZ] w (w.alloc (.cells tkZ 30))) := Lib.hid ((St.start Zf w).newBlk 30 tkZ)
  have hKl : (x :: G).length = n - 0 := by rw [← hFl]; rfl
  obtain ⟨v, hv⟩ : ∃ v, v = (parseI (x :: G)).1 := ⟨_, rfl⟩
  obtain ⟨c, hc0⟩ : ∃ c, c = (parseI (x :: G)).2 := ⟨_, rfl⟩
  have HPI : Hid (∀ w', Calls Tryz.prog 50 #[.string D] w' fun e w2 => e = .returned (.tuple #[.int .i64 v, .int .i64 c]) ∧ w' = w2) := Lib.hid fun w' => by
    have h := refParse_any D w' (by rw [hDl]; omega)
    unfold PI at h
    have : D.data.toList = x :: G := by
      show lS D = _
      rw [hD, lS_mk]
    rw [this] at h
    rw [hv, hc0]
    exact h
  have HNI : Hid ((c = 0 → ∀ w', Below w.heap.size w w' → RTokF p (numX p (x :: G) n) w (.returned (.tuple #[.agg #[.int .i64 2, .string ⟨#[]⟩, .int .i64 v, .int .i64 (p : Int)], .int .i64 ((p + n : Nat) : Int), .int .i64 0])) w') ∧ (c ≠ 0 → ∀ w', Below w.heap.size w w' → RTokF p (numX p (x :: G) n) w (.returned (.tuple #[.agg #[.int .i64 0, .string ⟨#[]⟩, .int .i64 0, .int .i64 (p : Int)], .int .i64 0, .int .i64 c])) w')) := Lib.hid (by
    refine ⟨fun hc w' hb' => ?_, fun hc w' hb' => ?_⟩
    · refine rtok_ok (t := ⟨2, [], (parseI (x :: G)).1, p⟩) (n := n) (by unfold numX; rw [htr, if_neg (by rw [hb]; decide), if_pos (hc0.symm.trans hc)]) hb' rfl rfl hv rfl rfl
    · refine rtok_bad ?_ hb'
      unfold numX
      rw [htr, if_neg (by rw [hb]; decide), if_neg (fun h => hc (hc0.trans h)), hc0])
  have hDl2 : (D.size : Int) = (n : Int) := by rw [hDl]
  have hli : (2 : Int) ≤ (n : Int) := by omega
  have hli2 : (2 : Int) ≤ (D.size : Int) := by omega
  have hli3 : 2 ≤ D.size := by omega
  have hlw : wrap64 (n : Int) = (n : Int) := by unfold wrap64; omega
  generalize mkS ((x :: G).take 2) = P at hEX hP
  generalize RTokF p (numX p (x :: G) n) w = Q at *
  clear hF hFl hD htr hb hKl h45 hv hc0 h2
  have hpn : (p : Int) ≤ ((p + n : Nat) : Int) := by omega
  have hpn2 : ((p + n : Nat) : Int) ≤ (s.size : Int) := by omega
  generalize hqq : p + n = q at *
  clear hqq
  go_enter Tryz.func32, Tryz.ntmps32
  go_wp2_with fail
  refine (HPI.out _).mono ?_
  rintro e w2 ⟨rfl, rfl⟩
  by_cases hc : c = 0
  · have hce : (c != 0) = false := by rw [hc]; rfl
    have HX := Lib.hid (HNI.out.1 hc)
    clear hc
    go_wp2_with fail
    have HF := Lib.hid ((St.start Zf w).newBlk 30 #[.int .i64 2, .string ⟨#[]⟩, .int .i64 v, .int .i64 (p : Int)])
    refine bodyPost_ret (results_agg3 rfl _ _ w.heap.size 30 _ _ rfl HF.out.blk Tryz.underlying30 rfl (by kernel_rfl)) rfl ?_
    exact HX.out _ HF.out.bel
  · have hce : (c != 0) = true := by simpa using hc
    have HX := Lib.hid (HNI.out.2 hc)
    clear hc
    go_wp2_with fail
    have HF := Lib.hid ((St.start Zf w).newBlk 30 #[.int .i64 0, .string ⟨#[]⟩, .int .i64 0, .int .i64 (p : Int)])
    refine bodyPost_ret (results_agg3 rfl _ _ w.heap.size 30 _ _ rfl HF.out.blk Tryz.underlying30 rfl (by kernel_rfl)) rfl ?_
    exact HX.out _ HF.out.bel
set_option maxRecDepth 100000 in
set_option maxHeartbeats 800000 in
theorem refNumber_PS (s : ByteArray) (p n : Nat) (w : World) (x : UInt8) (G : Bs) (hq : p + n ≤ s.size) (hF : x :: G = ((lS s).drop p).take n) (hs : s.size ≤ 1073741824) (h45 : x ≠ 45)
    (h2 : (x :: G).length < 2) :
    Calls Tryz.prog 32 #[.string s, .int .i64 (p : Int), .int .i64 ((p + n : Nat) : Int)] w (RTokF p (numX p (x :: G) n) w) := by
  have hb := pre_short h2
  have hFl : (x :: G).length = n := by rw [hF, List.length_take, List.length_drop, lS_len]; omega
  have hSE : s.extract p (p + n) = mkS (x :: G) := by rw [sc_piece, hF]
  obtain ⟨D, hD⟩ : ∃ D, D = mkS (x :: G) := ⟨_, rfl⟩
  have hDl : D.size = n := by rw [hD, mkS_size, hFl]
  have hn0 : 0 < D.size := by rw [hDl, ← hFl]; simp
  have hD0 : D[0]'hn0 = x := by
    have h1 := byte_at D 0 hn0
    have h2 : lS D = x :: G := by rw [hD, lS_mk]
    have h3 : (lS D)[0]? = some x := by rw [h2]; rfl
    have h4 : (lS D)[0]? = some (D[0]'hn0) := h1
    rw [h3] at h4
    injection h4 with h4
    exact h4.symm
  have htr : Lib.trimPrefix (x :: G) [45] = x :: G := by rw [trim45, if_neg h45]
  have hEX : D.extract 0 2 = mkS ((x :: G).take 2) := by
    rw [show D.extract 0 2 = mkS (((lS D).drop 0).take 2) from sc_piece D 0 2, hD, lS_mk]
    rfl
  have hP := str_0x (x :: G)
  rw [hb] at hP
  rw [← hD] at hSE
  have n45 : ((x.toNat : Int) == 45) = false := u8_ne_int (n := 45) h45
  have H0 : Hid (St Zf [BlkA w.heap.size 30 tkZ] w (w.alloc (.cells tkZ 30))) := Lib.hid ((St.start Zf w).newBlk 30 tkZ)
  have hKl : (x :: G).length = n - 0 := by rw [← hFl]; rfl
  obtain ⟨v, hv⟩ : ∃ v, v = (parseI (x :: G)).1 := ⟨_, rfl⟩
  obtain ⟨c, hc0⟩ : ∃ c, c = (parseI (x :: G)).2 := ⟨_, rfl⟩
  have HPI : Hid (∀ w', Calls Tryz.prog 50 #[.string D] w' fun e w2 => e = .returned (.tuple #[.int .i64 v, .int .i64 c]) ∧ w' = w2) := Lib.hid fun w' => by
    have h := refParse_any D w' (by rw [hDl]; omega)
    unfold PI at h
    have : D.data.toList = x :: G := by
      show lS D = _
      rw [hD, lS_mk]
    rw [this] at h
    rw [hv, hc0]
    exact h
  have HNI : Hid ((c = 0 → ∀ w', Below w.heap.size w w' → RTokF p (numX p (x :: G) n) w (.returned (.tuple #[.agg #[.int .i64 2, .string ⟨#[]⟩, .int .i64 v, .int .i64 (p : Int)], .int .i64 ((p + n : Nat) : Int), .int .i64 0])) w') ∧ (c ≠ 0 → ∀ w', Below w.heap.size w w' → RTokF p (numX p (x :: G) n) w (.returned (.tuple #[.agg #[.int .i64 0, .string ⟨#[]⟩, .int .i64 0, .int .i64 (p : Int)], .int .i64 0, .int .i64 c])) w')) := Lib.hid (by
    refine ⟨fun hc w' hb' => ?_, fun hc w' hb' => ?_⟩
    · refine rtok_ok (t := ⟨2, [], (parseI (x :: G)).1, p⟩) (n := n) (by unfold numX; rw [htr, if_neg (by rw [hb]; decide), if_pos (hc0.symm.trans hc)]) hb' rfl rfl hv rfl rfl
    · refine rtok_bad ?_ hb'
      unfold numX
      rw [htr, if_neg (by rw [hb]; decide), if_neg (fun h => hc (hc0.trans h)), hc0])
  have hDl2 : (D.size : Int) = (n : Int) := by rw [hDl]
  have hln : n < 2 := by omega
  have hlw : wrap64 (n : Int) = (n : Int) := by unfold wrap64; omega
  generalize mkS ((x :: G).take 2) = P at hEX hP
  generalize RTokF p (numX p (x :: G) n) w = Q at *
  clear hF hFl hD htr hb hKl h45 hv hc0 h2 hP hEX
  have hpn : (p : Int) ≤ ((p + n : Nat) : Int) := by omega
  have hpn2 : ((p + n : Nat) : Int) ≤ (s.size : Int) := by omega
  generalize hqq : p + n = q at *
  clear hqq
  go_enter Tryz.func32, Tryz.ntmps32
  go_wp2_with fail
  refine (HPI.out _).mono ?_
  rintro e w2 ⟨rfl, rfl⟩
  by_cases hc : c = 0
  · have hce : (c != 0) = false := by rw [hc]; rfl
    have HX := Lib.hid (HNI.out.1 hc)
    clear hc
    go_wp2_with fail
    have HF := Lib.hid ((St.start Zf w).newBlk 30 #[.int .i64 2, .string ⟨#[]⟩, .int .i64 v, .int .i64 (p : Int)])
    refine bodyPost_ret (results_agg3 rfl _ _ w.heap.size 30 _ _ rfl HF.out.blk Tryz.underlying30 rfl (by kernel_rfl)) rfl ?_
    exact HX.out _ HF.out.bel
  · have hce : (c != 0) = true := by simpa using hc
    have HX := Lib.hid (HNI.out.2 hc)
    clear hc
    go_wp2_with fail
    have HF := Lib.hid ((St.start Zf w).newBlk 30 #[.int .i64 0, .string ⟨#[]⟩, .int .i64 0, .int .i64 (p : Int)])
    refine bodyPost_ret (results_agg3 rfl _ _ w.heap.size 30 _ _ rfl HF.out.blk Tryz.underlying30 rfl (by kernel_rfl)) rfl ?_
    exact HX.out _ HF.out.bel
set_option maxRecDepth 100000 in
set_option maxHeartbeats 800000 in
theorem refNumber_MF (s : ByteArray) (p n : Nat) (w : World) (x : UInt8) (G : Bs) (hq : p + n ≤ s.size) (hF : x :: G = ((lS s).drop p).take n) (hs : s.size ≤ 1073741824) (h45 : x = 45)
    (h2 : 2 ≤ (G).length) (hb : Lib.hasPrefix (G) [48, 120] = true) :
    Calls Tryz.prog 32 #[.string s, .int .i64 (p : Int), .int .i64 ((p + n : Nat) : Int)] w (RTokF p (numX p (x :: G) n) w) := by
  have hFl : (x :: G).length = n := by rw [hF, List.length_take, List.length_drop, lS_len]; omega
  have hSE : s.extract p (p + n) = mkS (x :: G) := by rw [sc_piece, hF]
  obtain ⟨D, hD⟩ : ∃ D, D = mkS (x :: G) := ⟨_, rfl⟩
  have hDl : D.size = n := by rw [hD, mkS_size, hFl]
  have hn0 : 0 < D.size := by rw [hDl, ← hFl]; simp
  have hD0 : D[0]'hn0 = x := by
    have h1 := byte_at D 0 hn0
    have h2 : lS D = x :: G := by rw [hD, lS_mk]
    have h3 : (lS D)[0]? = some x := by rw [h2]; rfl
    have h4 : (lS D)[0]? = some (D[0]'hn0) := h1
    rw [h3] at h4
    injection h4 with h4
    exact h4.symm
  have htr : Lib.trimPrefix (x :: G) [45] = G := by rw [trim45, if_pos h45]
  have hEX : D.extract 1 3 = mkS ((G).take 2) := by
    rw [show D.extract 1 3 = mkS (((lS D).drop 1).take 2) from sc_piece D 1 2, hD, lS_mk]
    rfl
  have hP := str_0x (G)
  rw [hb] at hP
  rw [← hD] at hSE
  have n45 : ((x.toNat : Int) == 45) = true := by rw [h45]; decide
  have H0 : Hid (St Zf [BlkA w.heap.size 30 tkZ] w (w.alloc (.cells tkZ 30))) := Lib.hid ((St.start Zf w).newBlk 30 tkZ)
  have hKl : (G).length = n - 1 := by rw [← hFl]; rfl
  have HPF : Hid (∀ w', Calls Tryz.prog 49 #[.string D] w' fun e w2 => ∃ v c : Int, e = .returned (.tuple #[.int .u64 v, .int .i64 c]) ∧ Hid (i64Of (rdF (x :: G)).1 = wrap64 v ∧ (rdF (x :: G)).2 = c) ∧ Below w'.heap.size w' w2) := Lib.hid fun w' => by
    refine (refParseFloat D w' (by rw [hDl]; omega)).mono ?_
    rintro e w2 ⟨v, c, rfl, hr, hb⟩
    have hr2 : ReadF (x :: G) v c := by
      have : D.data.toList = x :: G := by
        show lS D = _
        rw [hD, lS_mk]
      rwa [this] at hr
    have hlt := readF_ltL hr2
    refine ⟨(v : Int), c, rfl, Lib.hid ⟨?_, ?_⟩, hb⟩
    · rw [rdF_eq hr2]
      exact i64Of_wrapL hlt
    · rw [rdF_eq hr2]
  have HNF : Hid (∀ v c : Int, (i64Of (rdF (x :: G)).1 = wrap64 v ∧ (rdF (x :: G)).2 = c) → (c = 0 → ∀ w', Below w.heap.size w w' → RTokF p (numX p (x :: G) n) w (.returned (.tuple #[.agg #[.int .i64 3, .string ⟨#[]⟩, .int .i64 (wrap64 v), .int .i64 (p : Int)], .int .i64 ((p + n : Nat) : Int), .int .i64 0])) w') ∧ (c ≠ 0 → ∀ w', Below w.heap.size w w' → RTokF p (numX p (x :: G) n) w (.returned (.tuple #[.agg #[.int .i64 0, .string ⟨#[]⟩, .int .i64 0, .int .i64 (p : Int)], .int .i64 0, .int .i64 c])) w')) := Lib.hid fun v c ⟨e1, e2⟩ => by
    refine ⟨fun hc w' hb' => ?_, fun hc w' hb' => ?_⟩
    · refine rtok_ok (t := ⟨3, [], i64Of (rdF (x :: G)).1, p⟩) (n := n) (by unfold numX; rw [htr, if_pos hb, if_pos (e2.trans hc)]) hb' rfl rfl e1.symm rfl rfl
    · refine rtok_bad ?_ hb'
      unfold numX
      rw [htr, if_pos hb, if_neg (fun h => hc (e2.symm.trans h)), e2]
  have hDl2 : (D.size : Int) = (n : Int) := by rw [hDl]
  have hli : (2 : Int) ≤ (n : Int) - 1 := by omega
  have hli2 : (3 : Int) ≤ (D.size : Int) := by omega
  have hli3 : 3 ≤ D.size := by omega
  have hlw : wrap64 ((n : Int) - 1) = (n : Int) - 1 := by unfold wrap64; omega
  generalize mkS ((G).take 2) = P at hEX hP
  generalize RTokF p (numX p (x :: G) n) w = Q at *
  clear hF hFl hD htr hb hKl h45 h2
  have hpn : (p : Int) ≤ ((p + n : Nat) : Int) := by omega
  have hpn2 : ((p + n : Nat) : Int) ≤ (s.size : Int) := by omega
  generalize hqq : p + n = q at *
  clear hqq
  go_enter Tryz.func32, Tryz.ntmps32
  go_wp2_with fail
  refine (HPF.out _).mono ?_
  rintro e w2 ⟨v, c, rfl, HV, b2⟩
  have H2 := Lib.hid (H0.out.below b2)
  obtain ⟨⟨d0, d1, d2, d3⟩, f0, l1⟩ := blk4 H2.out
  have F0 := f0 0
  have F1 := f0 1
  have F2 := f0 2
  have F3 := f0 3
  clear f0
  clear b2
  by_cases hc : c = 0
  · have hce : (c != 0) = false := by rw [hc]; rfl
    have HX := Lib.hid (HNF.out v c HV.out).1
    have hc0 := Lib.hid hc
    clear hc
    go_wp2_with fail
    have HF := Lib.hid ((((H2.out.setBlk 0 (.int .i64 3)).setBlk 1 (.string ⟨#[]⟩)).setBlk 2 (.int .i64 (wrap64 v))).setBlk 3 (.int .i64 (p : Int)))
    have HF2 := HF.out
    simp only [List.setIfInBounds_toArray, List.set_cons_zero, List.set_cons_succ] at HF2
    refine bodyPost_ret (results_agg3 rfl _ _ w.heap.size 30 _ _ rfl HF2.blk Tryz.underlying30 rfl (by kernel_rfl)) rfl ?_
    exact HX.out hc0.out _ HF.out.bel
  · have hce : (c != 0) = true := by simpa using hc
    have HX := Lib.hid ((HNF.out v c HV.out).2 hc)
    clear hc
    go_wp2_with fail
    have HF := Lib.hid ((((H2.out.setBlk 0 (.int .i64 0)).setBlk 1 (.string ⟨#[]⟩)).setBlk 2 (.int .i64 0)).setBlk 3 (.int .i64 (p : Int)))
    have HF2 := HF.out
    simp only [List.setIfInBounds_toArray, List.set_cons_zero, List.set_cons_succ] at HF2
    refine bodyPost_ret (results_agg3 rfl _ _ w.heap.size 30 _ _ rfl HF2.blk Tryz.underlying30 rfl (by kernel_rfl)) rfl ?_
    exact HX.out _ HF.out.bel
set_option maxRecDepth 100000 in
set_option maxHeartbeats 800000 in
theorem refNumber_MI (s : ByteArray) (p n : Nat) (w : World) (x : UInt8) (G : Bs) (hq : p + n ≤ s.size) (hF : x :: G = ((lS s).drop p).take n) (hs : s.size ≤ 1073741824) (h45 : x = 45)
    (h2 : 2 ≤ (G).length) (hb : Lib.hasPrefix (G) [48, 120] = false) :
    Calls Tryz.prog 32 #[.string s, .int .i64 (p : Int), .int .i64 ((p + n : Nat) : Int)] w (RTokF p (numX p (x :: G) n) w) := by
  have hFl : (x :: G).length = n := by rw [hF, List.length_take, List.length_drop, lS_len]; omega
  have hSE : s.extract p (p + n) = mkS (x :: G) := by rw [sc_piece, hF]
  obtain ⟨D, hD⟩ : ∃ D, D = mkS (x :: G) := ⟨_, rfl⟩
  have hDl : D.size = n := by rw [hD, mkS_size, hFl]
  have hn0 : 0 < D.size := by rw [hDl, ← hFl]; simp
  have hD0 : D[0]'hn0 = x := by
    have h1 := byte_at D 0 hn0
    have h2 : lS D = x :: G := by rw [hD, lS_mk]
    have h3 : (lS D)[0]? = some x := by rw [h2]; rfl
    have h4 : (lS D)[0]? = some (D[0]'hn0) := h1
    rw [h3] at h4
    injection h4 with h4
    exact h4.symm
  have htr : Lib.trimPrefix (x :: G) [45] = G := by rw [trim45, if_pos h45]
  have hEX : D.extract 1 3 = mkS ((G).take 2) := by
    rw [show D.extract 1 3 = mkS (((lS D).drop 1).take 2) from sc_piece D 1 2, hD, lS_mk]
    rfl
  have hP := str_0x (G)
  rw [hb] at hP
  rw [← hD] at hSE
  have n45 : ((x.toNat : Int) == 45) = true := by rw [h45]; decide
  have H0 : Hid (St Zf [BlkA w.heap.size 30 tkZ] w (w.alloc (.cells tkZ 30))) := Lib.hid ((St.start Zf w).newBlk 30 tkZ)
  have hKl : (G).length = n - 1 := by rw [← hFl]; rfl
  obtain ⟨v, hv⟩ : ∃ v, v = (parseI (x :: G)).1 := ⟨_, rfl⟩
  obtain ⟨c, hc0⟩ : ∃ c, c = (parseI (x :: G)).2 := ⟨_, rfl⟩
  have HPI : Hid (∀ w', Calls Tryz.prog 50 #[.string D] w' fun e w2 => e = .returned (.tuple #[.int .i64 v, .int .i64 c]) ∧ w' = w2) := Lib.hid fun w' => by
    have h := refParse_any D w' (by rw [hDl]; omega)
    unfold PI at h
    have : D.data.toList = x :: G := by
      show lS D = _
      rw [hD, lS_mk]
    rw [this] at h
    rw [hv, hc0]
    exact h
  have HNI : Hid ((c = 0 → ∀ w', Below w.heap.size w w' → RTokF p (numX p (x :: G) n) w (.returned (.tuple #[.agg #[.int .i64 2, .string ⟨#[]⟩, .int .i64 v, .int .i64 (p : Int)], .int .i64 ((p + n : Nat) : Int), .int .i64 0])) w') ∧ (c ≠ 0 → ∀ w', Below w.heap.size w w' → RTokF p (numX p (x :: G) n) w (.returned (.tuple #[.agg #[.int .i64 0, .string ⟨#[]⟩, .int .i64 0, .int .i64 (p : Int)], .int .i64 0, .int .i64 c])) w')) := Lib.hid (by
    refine ⟨fun hc w' hb' => ?_, fun hc w' hb' => ?_⟩
    · refine rtok_ok (t := ⟨2, [], (parseI (x :: G)).1, p⟩) (n := n) (by unfold numX; rw [htr, if_neg (by rw [hb]; decide), if_pos (hc0.symm.trans hc)]) hb' rfl rfl hv rfl rfl
    · refine rtok_bad ?_ hb'
      unfold numX
      rw [htr, if_neg (by rw [hb]; decide), if_neg (fun h => hc (hc0.trans h)), hc0])
  have hDl2 : (D.size : Int) = (n : Int) := by rw [hDl]
  have hli : (2 : Int) ≤ (n : Int) - 1 := by omega
  have hli2 : (3 : Int) ≤ (D.size : Int) := by omega
  have hli3 : 3 ≤ D.size := by omega
  have hlw : wrap64 ((n : Int) - 1) = (n : Int) - 1 := by unfold wrap64; omega
  generalize mkS ((G).take 2) = P at hEX hP
  generalize RTokF p (numX p (x :: G) n) w = Q at *
  clear hF hFl hD htr hb hKl h45 hv hc0 h2
  have hpn : (p : Int) ≤ ((p + n : Nat) : Int) := by omega
  have hpn2 : ((p + n : Nat) : Int) ≤ (s.size : Int) := by omega
  generalize hqq : p + n = q at *
  clear hqq
  go_enter Tryz.func32, Tryz.ntmps32
  go_wp2_with fail
  refine (HPI.out _).mono ?_
  rintro e w2 ⟨rfl, rfl⟩
  by_cases hc : c = 0
  · have hce : (c != 0) = false := by rw [hc]; rfl
    have HX := Lib.hid (HNI.out.1 hc)
    clear hc
    go_wp2_with fail
    have HF := Lib.hid ((St.start Zf w).newBlk 30 #[.int .i64 2, .string ⟨#[]⟩, .int .i64 v, .int .i64 (p : Int)])
    refine bodyPost_ret (results_agg3 rfl _ _ w.heap.size 30 _ _ rfl HF.out.blk Tryz.underlying30 rfl (by kernel_rfl)) rfl ?_
    exact HX.out _ HF.out.bel
  · have hce : (c != 0) = true := by simpa using hc
    have HX := Lib.hid (HNI.out.2 hc)
    clear hc
    go_wp2_with fail
    have HF := Lib.hid ((St.start Zf w).newBlk 30 #[.int .i64 0, .string ⟨#[]⟩, .int .i64 0, .int .i64 (p : Int)])
    refine bodyPost_ret (results_agg3 rfl _ _ w.heap.size 30 _ _ rfl HF.out.blk Tryz.underlying30 rfl (by kernel_rfl)) rfl ?_
    exact HX.out _ HF.out.bel
set_option maxRecDepth 100000 in
set_option maxHeartbeats 800000 in
theorem refNumber_MS (s : ByteArray) (p n : Nat) (w : World) (x : UInt8) (G : Bs) (hq : p + n ≤ s.size) (hF : x :: G = ((lS s).drop p).take n) (hs : s.size ≤ 1073741824) (h45 : x = 45)
    (h2 : (G).length < 2) :
    Calls Tryz.prog 32 #[.string s, .int .i64 (p : Int), .int .i64 ((p + n : Nat) : Int)] w (RTokF p (numX p (x :: G) n) w) := by
  have hb := pre_short h2
  have hFl : (x :: G).length = n := by rw [hF, List.length_take, List.length_drop, lS_len]; omega
  have hSE : s.extract p (p + n) = mkS (x :: G) := by rw [sc_piece, hF]
  obtain ⟨D, hD⟩ : ∃ D, D = mkS (x :: G) := ⟨_, rfl⟩
  have hDl : D.size = n := by rw [hD, mkS_size, hFl]
  have hn0 : 0 < D.size := by rw [hDl, ← hFl]; simp
  have hD0 : D[0]'hn0 = x := by
    have h1 := byte_at D 0 hn0
    have h2 : lS D = x :: G := by rw [hD, lS_mk]
    have h3 : (lS D)[0]? = some x := by rw [h2]; rfl
    have h4 : (lS D)[0]? = some (D[0]'hn0) := h1
    rw [h3] at h4
    injection h4 with h4
    exact h4.symm
  have htr : Lib.trimPrefix (x :: G) [45] = G := by rw [trim45, if_pos h45]
  have hEX : D.extract 1 3 = mkS ((G).take 2) := by
    rw [show D.extract 1 3 = mkS (((lS D).drop 1).take 2) from sc_piece D 1 2, hD, lS_mk]
    rfl
  have hP := str_0x (G)
  rw [hb] at hP
  rw [← hD] at hSE
  have n45 : ((x.toNat : Int) == 45) = true := by rw [h45]; decide
  have H0 : Hid (St Zf [BlkA w.heap.size 30 tkZ] w (w.alloc (.cells tkZ 30))) := Lib.hid ((St.start Zf w).newBlk 30 tkZ)
  have hKl : (G).length = n - 1 := by rw [← hFl]; rfl
  obtain ⟨v, hv⟩ : ∃ v, v = (parseI (x :: G)).1 := ⟨_, rfl⟩
  obtain ⟨c, hc0⟩ : ∃ c, c = (parseI (x :: G)).2 := ⟨_, rfl⟩
  have HPI : Hid (∀ w', Calls Tryz.prog 50 #[.string D] w' fun e w2 => e = .returned (.tuple #[.int .i64 v, .int .i64 c]) ∧ w' = w2) := Lib.hid fun w' => by
    have h := refParse_any D w' (by rw [hDl]; omega)
    unfold PI at h
    have : D.data.toList = x :: G := by
      show lS D = _
      rw [hD, lS_mk]
    rw [this] at h
    rw [hv, hc0]
    exact h
  have HNI : Hid ((c = 0 → ∀ w', Below w.heap.size w w' → RTokF p (numX p (x :: G) n) w (.returned (.tuple #[.agg #[.int .i64 2, .string ⟨#[]⟩, .int .i64 v, .int .i64 (p : Int)], .int .i64 ((p + n : Nat) : Int), .int .i64 0])) w') ∧ (c ≠ 0 → ∀ w', Below w.heap.size w w' → RTokF p (numX p (x :: G) n) w (.returned (.tuple #[.agg #[.int .i64 0, .string ⟨#[]⟩, .int .i64 0, .int .i64 (p : Int)], .int .i64 0, .int .i64 c])) w')) := Lib.hid (by
    refine ⟨fun hc w' hb' => ?_, fun hc w' hb' => ?_⟩
    · refine rtok_ok (t := ⟨2, [], (parseI (x :: G)).1, p⟩) (n := n) (by unfold numX; rw [htr, if_neg (by rw [hb]; decide), if_pos (hc0.symm.trans hc)]) hb' rfl rfl hv rfl rfl
    · refine rtok_bad ?_ hb'
      unfold numX
      rw [htr, if_neg (by rw [hb]; decide), if_neg (fun h => hc (hc0.trans h)), hc0])
  have hDl2 : (D.size : Int) = (n : Int) := by rw [hDl]
  have hln : n < 3 := by omega
  have hlw : wrap64 ((n : Int) - 1) = (n : Int) - 1 := by unfold wrap64; omega
  generalize mkS ((G).take 2) = P at hEX hP
  generalize RTokF p (numX p (x :: G) n) w = Q at *
  clear hF hFl hD htr hb hKl h45 hv hc0 h2 hP hEX
  have hpn : (p : Int) ≤ ((p + n : Nat) : Int) := by omega
  have hpn2 : ((p + n : Nat) : Int) ≤ (s.size : Int) := by omega
  generalize hqq : p + n = q at *
  clear hqq
  go_enter Tryz.func32, Tryz.ntmps32
  go_wp2_with fail
  refine (HPI.out _).mono ?_
  rintro e w2 ⟨rfl, rfl⟩
  by_cases hc : c = 0
  · have hce : (c != 0) = false := by rw [hc]; rfl
    have HX := Lib.hid (HNI.out.1 hc)
    clear hc
    go_wp2_with fail
    have HF := Lib.hid ((St.start Zf w).newBlk 30 #[.int .i64 2, .string ⟨#[]⟩, .int .i64 v, .int .i64 (p : Int)])
    refine bodyPost_ret (results_agg3 rfl _ _ w.heap.size 30 _ _ rfl HF.out.blk Tryz.underlying30 rfl (by kernel_rfl)) rfl ?_
    exact HX.out _ HF.out.bel
  · have hce : (c != 0) = true := by simpa using hc
    have HX := Lib.hid (HNI.out.2 hc)
    clear hc
    go_wp2_with fail
    have HF := Lib.hid ((St.start Zf w).newBlk 30 #[.int .i64 0, .string ⟨#[]⟩, .int .i64 0, .int .i64 (p : Int)])
    refine bodyPost_ret (results_agg3 rfl _ _ w.heap.size 30 _ _ rfl HF.out.blk Tryz.underlying30 rfl (by kernel_rfl)) rfl ?_
    exact HX.out _ HF.out.bel
theorem refNumber_any (s : ByteArray) (p n : Nat) (w : World) (F : Bs) (hq : p + n ≤ s.size) (hF : F = ((lS s).drop p).take n) (hn : 1 ≤ n) (hs : s.size ≤ 1073741824) :
    Calls Tryz.prog 32 #[.string s, .int .i64 (p : Int), .int .i64 ((p + n : Nat) : Int)] w (RTokF p (numX p F n) w) := by
  cases F with
  | nil =>
    have := congrArg List.length hF
    rw [List.length_take, List.length_drop, lS_len] at this
    simp at this
    omega
  | cons x G =>
    by_cases h45 : x = 45
    · by_cases h2 : 2 ≤ G.length
      · cases hb : Lib.hasPrefix G [48, 120] with
        | true => exact refNumber_MF s p n w x G hq hF hs h45 h2 hb
        | false => exact refNumber_MI s p n w x G hq hF hs h45 h2 hb
      · exact refNumber_MS s p n w x G hq hF hs h45 (by omega)
    · by_cases h2 : 2 ≤ (x :: G).length
      · cases hb : Lib.hasPrefix (x :: G) [48, 120] with
        | true => exact refNumber_PF s p n w x G hq hF hs h45 h2 hb
        | false => exact refNumber_PI s p n w x G hq hF hs h45 h2 hb
      · exact refNumber_PS s p n w x G hq hF hs h45 (by omega)

theorem refToken_any (s : ByteArray) (p : Nat) (w : World) (hp : p < s.size) (hs : s.size ≤ 1073741824) :
    Calls Tryz.prog 13 #[.string s, .int .i64 (p : Int)] w (RTokF p (tokG p ((lS s).drop p)) w) := by
  obtain ⟨x, hx⟩ : ∃ x, s[p]'hp = x := ⟨_, rfl⟩
  have hd := drop_at hp
  rw [hx] at hd
  by_cases h39 : x = 39
  · exact refTok_text s p w hp hs (hx.trans h39)
  · cases hL : lxL x with
    | true => exact refTok_word s p w hp hs x hx hL
    | false =>
      cases hB : bgN ((lS s).drop p) with
      | true =>
        have hle : p + (1 + (((lS s).drop (p + 1)).takeWhile lxN).length) ≤ s.size := by
          have h1 := tw_le lxN ((lS s).drop (p + 1))
          rw [List.length_drop, lS_len] at h1
          omega
        have hF : x :: ((lS s).drop (p + 1)).takeWhile lxN = ((lS s).drop p).take (1 + (((lS s).drop (p + 1)).takeWhile lxN).length) := by
          rw [hd, Nat.add_comm 1, List.take_succ_cons]
          have : ∀ l : Bs, l.take (l.takeWhile lxN).length = l.takeWhile lxN := fun l => by
            have h1 := List.takeWhile_append_dropWhile (p := lxN) (l := l)
            have h2 : l.take (l.takeWhile lxN).length = ((l.takeWhile lxN) ++ (l.dropWhile lxN)).take (l.takeWhile lxN).length := by rw [h1]
            rw [h2, List.take_left]
          rw [this]
        have HNum := fun w' => refNumber_any s p _ w' _ hle hF (Nat.le_add_right _ _) hs
        rw [show p + (1 + (((lS s).drop (p + 1)).takeWhile lxN).length) = p + 1 + (((lS s).drop (p + 1)).takeWhile lxN).length from by omega] at HNum
        have hb := hB
        rw [hd] at hb
        rcases (bgN_iff x _).1 hb with h | ⟨h45, hh⟩
        · exact refTok_numD s p w hp hs x hx hL hB HNum h
        · by_cases hp1 : p + 1 < s.size
          · rw [drop_at hp1] at hh
            simp only [List.head?_cons, Option.map_some] at hh
            injection hh with hh
            exact refTok_numM s p w hp hs x hx hL hB HNum h45 hp1 _ rfl hh
          · rw [List.drop_of_length_le (by rw [lS_len]; omega)] at hh
            cases hh
      | false =>
        by_cases h45 : x = 45
        · by_cases hp1 : p + 1 < s.size
          · by_cases h62 : s[p + 1]'hp1 = 62
            · exact refTok_arrow s p w hp hs x _ hx h45 hp1 rfl h62
            · refine refTok_mark3 s p w hp hs x hx h39 hL hB h45 hp1 _ rfl h62 ?_
              cases hdy : lxD (s[p + 1]'hp1) with
              | false => rfl
              | true =>
                rw [hd] at hB
                rw [(bgN_iff x _).2 (.inr ⟨h45, by rw [drop_at hp1]; simp [hdy]⟩)] at hB
                cases hB
          · exact refTok_mark2 s p w hp hs x hx h39 hL hB h45 hp1
        · exact refTok_mark1 s p w hp hs x hx h39 hL hB h45
end Go.Proofs.YthmgkjfohkadoaaGreatDoor

/- lexer: the document's Read. -/
namespace Go.Proofs.YthmgkjfohkadoaaGreatDoor
open Go.RowKit
set_option linter.unusedVariables false
set_option linter.unusedSimpArgs false

/-- append(s, x) of one struct that lies in a new block -/
theorem wpList_append_rowL {P : Program} (w : World) {ops : Array Oper} {rest : List Oper} {o : Oper} {a : Act} {Q : Exit → Act → World → Prop} (hgd : o.guard = none) (s x : Operand) (t : TypeId)
    (ho : o.op = .call { callee := .builtin .append, args := #[s, x], argTypes := #[t, t] })
    (e : TypeId) (i : TypeInfo) (z : Value) (size bytes : Nat) (ht : P.underlying t = some (.slice e)) (hi : P.info? e = some i) (hz : i.zero = some z) (hsize : i.size = size) (hby : i.bytes = bytes) (hzs : z.cells.size = size) (hsz : 0 < size) (hb0 : 0 < bytes)
    (v : Value) (n : Nat) (xs : List Value) (hs : a.eval s = v) (hown : w.ownsRow 0 e size v n xs) (cs : Array Value) (hcs : cs.toList.length = size) (h1 : ∀ u ∈ cs.toList, u.oneCell' = true)
    {N : Nat} (hN : w.heap.size = N) (hx : a.eval x = .slice (some ⟨N, 0, none⟩) 1 1) (hbytes : (n + 1) * bytes ≤ 140737488355328)
    (h : ∀ v' w', w'.ownsRow 0 e size v' (n + 1) (xs ++ cs.toList) → (w.alloc (.cells cs e)).grownBy w' v.ownBlock → (v'.ownBlock = v.ownBlock ∨ v'.ownBlock = some (N + 1)) → wpList P ops Q rest (a.put o.dst v') w') :
    wpList P ops Q (o :: rest) a (w.alloc (.cells cs e)) := by
  subst hN
  have h64 : n + 1 ≤ (n + 1) * bytes := Nat.le_mul_of_pos_right _ hb0
  refine wpList_append_own_at _ hgd s x t ho 0 e i z size bytes ht hi hz hsize hby hzs hsz v n xs hs (hown.alloc _) ⟨w.heap.size, 0, none⟩ 1 1 cs.toList hx (by rw [hcs, Nat.one_mul]) (World.news_of_block (heap_alloc_new w _)) h1 (by simp only [maxLen]; omega) hbytes (Nat.zero_le _) ?_
  intro v' w' h2 h3 _ h5
  exact h v' w' h2 h3 (by simpa using h5)
def rdAt : Option (Nat × Int) → Int
  | none => 0
  | some x => (x.1 : Int)
def rdEr : Option (Nat × Int) → Int
  | none => 0
  | some x => x.2
/-- what the document's Read answers -/
def RdW (r : List Tk × Option (Nat × Int)) (w : World) (e : Ending) (w' : World) : Prop :=
  ∃ v, e = .returned (.tuple #[v, .int .i64 (rdAt r.2), .int .i64 (rdEr r.2)]) ∧ St Zf [OwA tkF 4 30 v r.1] w w'
theorem toksF_nil (k : Nat) : toksF k [] = ([], none) := by unfold toksF; rw [if_pos rfl]
theorem toksF_bad {k : Nat} {m : Bs} {e : Nat × Int} (hm : m ≠ []) (h : tokG k m = .error e) : toksF k m = ([], some e) := by unfold toksF; rw [if_neg hm, h]
theorem toksF_ok {k n : Nat} {l : Bs} {t : Tk} (hk : k < l.length) (h : tokG k (l.drop k) = .ok (t, n)) :
    toksF k (l.drop k) = (t :: (toksF (nxt l (k + n)) (l.drop (nxt l (k + n)))).1, (toksF (nxt l (k + n)) (l.drop (nxt l (k + n)))).2) := by
  have h1 := (tok_len h).1
  unfold toksF
  rw [if_neg (fun e => by have := List.drop_eq_nil_iff.1 e; omega), h]
  dsimp only
  rw [Nat.max_eq_left h1, List.drop_drop, toks_F (k + n)]
  have e : (l.drop (k + n)).drop (gapC false (l.drop (k + n))) = l.drop (nxt l (k + n)) := nxt_drop l (k + n)
  rw [e]
  rfl
set_option maxRecDepth 100000 in
set_option maxHeartbeats 800000 in
theorem refRead_any (s : ByteArray) (w : World) :
    Calls Tryz.prog 6 #[.string s] w (RdW (lxR (lS s)) w) := by
  unfold RdW
  have H0 : Hid (St Zf [OwA tkF 4 30 (.slice (some ⟨w.heap.size, 0, none⟩) 0 0) []] w (w.alloc (.cells #[] 30))) := Lib.hid ((St.start Zf w).newNilOw tkF 4 30 rfl)
  by_cases hb : 16777216 < s.size
  · have hR : lxR (lS s) = ([], some (0, 1)) := by unfold lxR; rw [if_pos (by rw [lS_len]; exact hb)]
    rw [hR]
    clear hR
    go_enter Tryz.func6, Tryz.ntmps6
    go_wp2
    refine bodyPost_ret (results_tmp3 rfl _ _ _) rfl ?_
    exact ⟨_, rfl, H0.out⟩
  · have hs : s.size ≤ 16777216 := by omega
    have HL : Hid ((lS s).length = s.size) := Lib.hid (lS_len s)
    have HR : Hid (lxR (lS s) = toksF (nxt (lS s) 0) ((lS s).drop (nxt (lS s) 0))) := Lib.hid (by
      unfold lxR
      rw [if_neg (by rw [lS_len]; omega), toks_F]
      unfold nxt
      rw [List.drop_zero, Nat.zero_add])
    have HG := Lib.hid fun p w' (hp : p ≤ s.size) => refGap_any s p w' hp (by omega)
    have HT := Lib.hid fun p w' (hp : p < s.size) => refToken_any s p w' hp (by omega)
    have HN : Hid (∀ p, p ≤ s.size → p ≤ nxt (lS s) p ∧ nxt (lS s) p ≤ s.size) := Lib.hid fun p hp => by
      have := nxt_le (l := lS s) (p := p) (by rw [lS_len]; exact hp)
      rw [lS_len] at this
      exact this
    obtain ⟨i0, z0, hi0, hz0, hz1, hz2, hz3⟩ := row_info tk_info
    have HG0 := Lib.hid (HG.out 0 (w.alloc (.cells #[] 30)) (Nat.zero_le _))
    go_enter Tryz.func6, Tryz.ntmps6
    go_wp2_with fail
    refine HG0.out.mono ?_
    rintro e w2 ⟨rfl, rfl⟩
    clear HG0
    go_wp2
    go_loopw [5, 6, 7, 8, 9] (fun v i _ _ _ wr => ∃ (k : Nat) (A : Option Addr) (c : Nat) (X : List Tk), k ≤ s.size ∧ v = .slice A X.length c ∧ i = .int .i64 k ∧ X.length ≤ k ∧ Hid (lxR (lS s) = (X ++ (toksF k ((lS s).drop k)).1, (toksF k ((lS s).drop k)).2)) ∧ Hid (St Zf [OwA tkF 4 30 (.slice A X.length c) X] w wr)) (fun _ i _ _ _ _ => s.size - (intOf i).toNat)
    case atStart => exact ⟨nxt (lS s) 0, _, _, [], (HN.out 0 (Nat.zero_le _)).2, rfl, rfl, Nat.zero_le _, HR, H0⟩
    case round =>
      obtain ⟨k, A, c, X, hk, rfl, rfl, hXk, HQ, HST⟩ := hrel
      clear H0 HR
      by_cases hlt : k < s.size
      · have HTk := Lib.hid (HT.out k wr hlt)
        have hne : (lS s).drop k ≠ [] := fun e => by have := List.drop_eq_nil_iff.1 e; have := HL.out; omega
        cases ht : tokG k ((lS s).drop k) with
        | error e =>
          obtain ⟨a, E⟩ := e
          rw [ht] at HTk
          have hE : E ≠ 0 := tok_bad ht
          have HQ2 : Hid (lxR (lS s) = (X, some (a, E))) := Lib.hid (by rw [HQ.out, toksF_bad hne ht, List.append_nil])
          unfold RTokF at HTk
          simp only [tkV, tkC, tk0] at HTk
          clear ht hne
          go_wp2_with fail
          refine HTk.out.mono ?_
          rintro e w2 ⟨rfl, b2⟩
          have H2 := Lib.hid (HST.out.below b2)
          clear b2
          obtain ⟨w3, hw3⟩ : ∃ w3, w3 = w2.alloc (.cells #[.int .i64 0, .string (mkS []), .int .i64 0, .int .i64 (a : Int)] 30) := ⟨_, rfl⟩
          have H3 : Hid (St Zf [OwA tkF 4 30 (.slice A X.length c) X] w w3) := Lib.hid (by rw [hw3]; exact H2.out.alloc _)
          have hbk : Blk w3 w2.heap.size 30 #[.int .i64 0, .string (mkS []), .int .i64 0, .int .i64 (a : Int)] := by rw [hw3]; exact Blk.new _ _ _
          have c3 : w3.cell? ⟨w2.heap.size, 3, none⟩ = some (.int .i64 (a : Int)) := by rw [hbk.cell 3]; rfl
          clear hbk
          go_wp2_with fail
          rw [← hw3]
          clear hw3
          go_quiet (fail)
          go_wp2
          refine bodyPost_ret (results_tmp3 rfl _ _ _) rfl ?_
          rw [HQ2.out]
          exact ⟨_, rfl, H3.out.below (below_drewN (Below.refl _ _) _)⟩
        | ok z =>
          obtain ⟨t, n⟩ := z
          rw [ht] at HTk
          have hl := tok_len ht
          rw [List.length_drop, HL.out] at hl
          obtain ⟨hn1, hn2, -⟩ := hl
          have HQ2 : Hid (lxR (lS s) = ((X ++ [t]) ++ (toksF (nxt (lS s) (k + n)) ((lS s).drop (nxt (lS s) (k + n)))).1, (toksF (nxt (lS s) (k + n)) ((lS s).drop (nxt (lS s) (k + n)))).2)) := Lib.hid (by
            rw [HQ.out, toksF_ok (by rw [HL.out]; exact hlt) ht, List.append_assoc]
            rfl)
          have HGk := Lib.hid fun w' => HG.out (k + n) w' (by omega)
          have HK : Hid (k + n ≤ nxt (lS s) (k + n) ∧ nxt (lS s) (k + n) ≤ s.size ∧ k < k + n ∧ X.length ≤ k) := Lib.hid ⟨(HN.out (k + n) (by omega)).1, (HN.out (k + n) (by omega)).2, by omega, hXk⟩
          have HBY : Hid ((X.length + 1) * 40 ≤ 140737488355328) := Lib.hid (by omega)
          unfold RTokF at HTk
          simp only [tkV, tkC] at HTk
          generalize nxt (lS s) (k + n) = m at HGk HK HQ2
          generalize k + n = q at HTk HGk HK
          clear ht hne hn1 hn2 hXk
          go_wp2_with fail
          refine HTk.out.mono ?_
          rintro e w2 ⟨rfl, b2⟩
          have H2 := Lib.hid (HST.out.below b2)
          clear b2
          have H3 : Hid (St Zf [OwA tkF 4 30 (.slice A X.length c) X] w (w2.alloc (.cells #[.int .i64 t.k, .string (mkS t.t), .int .i64 t.n, .int .i64 (t.p : Int)] 30))) := Lib.hid (H2.out.alloc _)
          go_wp2_with (at_builtin; refine wpList_append_rowL _ rfl _ _ 26 rfl 30 i0 z0 4 40 Tryz.underlying26 hi0 hz0 hz1 hz2 hz3 (by decide) (by decide) (.slice A X.length c) X.length _ rfl H3.out.ow #[.int .i64 t.k, .string (mkS t.t), .int .i64 t.n, .int .i64 (t.p : Int)] rfl (tkF_row.one t) (N := w2.heap.size + 1) (by simp) rfl HBY.out ?_; intro v' w' ho hg ha; obtain ⟨g', cp', rfl⟩ := ownsRow_succ ho; have HS2 := Lib.hid (H3.out.snocTk (x := t) _ ho hg (by simpa using ha)); clear ho hg ha)
          have hlen : (X ++ [t]).length = X.length + 1 := by simp
          have HS3 : Hid (St Zf [OwA tkF 4 30 (.slice (some ⟨g', 0, none⟩) (X ++ [t]).length cp') (X ++ [t])] w w') := Lib.hid (by rw [hlen]; exact HS2.out)
          refine (HGk.out _).mono ?_
          rintro e w4 ⟨rfl, rfl⟩
          go_wp2
          go_roundw
          case rel => exact ⟨m, some ⟨g', 0, none⟩, cp', X ++ [t], HK.out.2.1, by rw [hlen], rfl, by rw [hlen]; have := HK.out; omega, HQ2, HS3⟩
          case measure => have := HK.out; simp [intOf]; omega
      · obtain rfl : k = s.size := by omega
        have HQ2 : Hid (lxR (lS s) = (X, none)) := Lib.hid (by
          rw [HQ.out, show (lS s).drop s.size = [] from List.drop_of_length_le (by rw [HL.out]; exact Nat.le_refl _), toksF_nil, List.append_nil])
        go_wp2
        refine bodyPost_ret (results_tmp3 rfl _ _ _) rfl ?_
        rw [HQ2.out]
        exact ⟨_, rfl, HST.out⟩
end Go.Proofs.YthmgkjfohkadoaaGreatDoor

/- lexer: how a law's text is opened, in the second form. -/
namespace Go.Proofs.YthmgkjfohkadoaaGreatDoor
open Go.ChangeShapes Go.WideShapes Go.ChangeAt Go.RowKit
open Go.ChangeMaps (open_string shut_string)
set_option linter.unusedVariables false
section
variable {H : Type} {enc : TypeId × Value → H}
set_option maxRecDepth 100000 in
theorem open_lextext {w : World} {d : DataW H} {v : Value} {p : List MemPlace} {b0 : Nat} {r : Reach} (hv : Value.okWide Tryz.prog w r b0 9 v)
    (hr : ∀ m ∈ d.weights Tryz.prog 9, m ≤ reachBytes) (h : DataW.Trod enc Tryz.prog w 0 (fun _ => true) true 9 v d p) (hlt : ∀ x ∈ p, x.block < w.heap.size) (hu : Rows.uptoBulk d ≤ 1048576) :
    ∃ s : ByteArray, v = .string s ∧ s.size ≤ 1048576 := by
  obtain ⟨s, rfl, rfl, rfl, hs⟩ := open_string Tryz.underlying9 hv h
  refine ⟨s, rfl, ?_⟩
  simp only [Rows.uptoBulk] at hu
  have h2 : s.data.toList.length = s.size := by rw [Array.length_toList]; rfl
  omega
set_option maxRecDepth 100000 in
theorem open_lexany {w : World} {d : DataW H} {v : Value} {p : List MemPlace} {b0 : Nat} {r : Reach} (hv : Value.okWide Tryz.prog w r b0 9 v)
    (hr : ∀ m ∈ d.weights Tryz.prog 9, m ≤ reachBytes) (h : DataW.Trod enc Tryz.prog w 0 (fun _ => true) true 9 v d p) (hlt : ∀ x ∈ p, x.block < w.heap.size) :
    ∃ s : ByteArray, v = .string s ∧ s.size ≤ 140737488355328 := by
  obtain ⟨s, rfl, rfl, rfl, hs⟩ := open_string Tryz.underlying9 hv h
  refine ⟨s, rfl, ?_⟩
  have h1 : s.data.toList.length ≤ reachBytes := hr s.data.toList.length (by simp [DataW.weights])
  have h2 := reachBytes_lt
  have e1 : s.size = s.data.size := rfl
  have e2 : s.data.toList.length = s.data.size := Array.length_toList
  have e3 : (2 : Nat) ^ 47 = 140737488355328 := by decide
  omega
end
end Go.Proofs.YthmgkjfohkadoaaGreatDoor

/- lexer: what the listed variables hold: the library's tables and errors, the marks; a world in which they hold it. -/
namespace Go.Proofs.YthmgkjfohkadoaaGreatDoor
open Go.ChangeShapes Go.WideShapes Go.ChangeAt Go.RowKit
set_option linter.unusedVariables false

theorem mw_of {W : World} (h : W.ShapedOpen Tryz.prog) : MW W :=
  cell_of_shapedOpen_int (P := Tryz.prog) (g := 1) (t := 3) (zero := #[.int .i64 0]) h (of_decide_eq_true (by kernel_rfl)) (by kernel_rfl) rfl (by kernel_rfl) (by kernel_rfl) Tryz.underlying3
theorem gnDe : Tryz.prog.globalNamed "math/bits.deBruijn64tab" = some 6 := by kernel_rfl
theorem gtDe : (Tryz.prog.globals[6]?).map (·.type) = some 152 := by kernel_rfl
theorem gtPow : (Tryz.prog.globals[4]?).map (·.type) = some 147 := by kernel_rfl
theorem gtEs : (Tryz.prog.globals[2]?).map (·.type) = some 60 := by kernel_rfl
theorem gtEr : (Tryz.prog.globals[3]?).map (·.type) = some 60 := by kernel_rfl
theorem ceU8 : Tryz.prog.cellsOf 5 = 1 := by kernel_rfl
theorem ceU64 : Tryz.prog.cellsOf 66 = 1 := by kernel_rfl
theorem ceStr : Tryz.prog.cellsOf 9 = 1 := by kernel_rfl
theorem ceEs : Tryz.prog.cellsOf 136 = 1 := by kernel_rfl
theorem ceDe : Tryz.prog.cellsOf 152 = 64 := by kernel_rfl
theorem cePow : Tryz.prog.cellsOf 147 = 20 := by kernel_rfl
theorem errStar : "*" ++ "errors.errorString" = "*errors.errorString" := by decide
theorem errRow (u : TypeId) (h : Tryz.prog.typeName? 3 u = some "*errors.errorString") : u = 134 :=
  typeName_ptr_named (nm := "errors.errorString") (by rw [errStar]; kernel_rfl) (by kernel_rfl) (by decide) u (by rw [errStar]; exact h)

theorem tabs_of {W : World} (hL : laidMetH Tryz.prog Rows.lexerScansRow.laid W) : Tabs W := by
  have h0 : laidMet Tryz.prog Rows.lexerScansRow.laid W := hL
  have h1 := laidMet.tail (h0 : laidMet Tryz.prog (_ :: _) W)
  have h2 := laidMet.tail h1
  have h3 := laidMet.tail h2
  have h4 := laidMet.tail h3
  have h5 := laidMet.tail h4
  refine ⟨?_, ?_, ?_, ?_⟩
  · exact Lib.tabIs_of_head gnPow gtPow Tryz.underlying147 Tryz.underlying66 ceU64 cePow h2
  · have := (Lib.tabIs_of_head (k := .u8) (zs := [0, 1, 56, 2, 57, 49, 28, 3, 61, 58, 42, 50, 38, 29, 17, 4, 62, 47, 59, 36, 45, 43, 51, 22, 53, 39, 33, 30, 24, 18, 12, 5, 63, 55, 48, 27, 60, 41, 37, 16, 46, 35, 44, 21, 52, 32, 23, 11, 54, 26, 40, 15, 34, 20, 31, 10, 25, 14, 19, 9, 13, 8, 7, 6])
      gnDe gtDe Tryz.underlying152 Tryz.underlying5 ceU8 ceDe h1).cell gnDe 15 (by decide)
    exact this
  · obtain ⟨a, s, h, _⟩ := laid_sentinel (te := 136) (ts := 9) h5 gnEs gtEs Tryz.underlying60 errRow Tryz.underlying134 Tryz.underlying136 rfl rfl Tryz.underlying9 ceEs ceStr
    exact ⟨_, _, h⟩
  · obtain ⟨a, s, h, _⟩ := laid_sentinel (te := 136) (ts := 9) h4 gnEr gtEr Tryz.underlying60 errRow Tryz.underlying134 Tryz.underlying136 rfl rfl Tryz.underlying9 ceEs ceStr
    exact ⟨_, _, h⟩


/-- an array of strings that reads as the table holds the table's strings -/
theorem cells_of_strs {H : Type} {enc : TypeId × Value → H} {P : Program} {w : World} {base : Nat} {sp : Nat → Bool} {held : Bool} {fuel : Nat} {t e : TypeId} {n : Nat} {cs : List Value} {zs : List (List UInt8)} {p : List MemPlace}
    (ht : P.underlying t = some (.array n e)) (he : P.underlying e = some .string) (hce : P.cellsOf e = 1) (hct : P.cellsOf t = n)
    (h : DataW.trod enc P w base sp held fuel t cs = some (.agg (zs.map fun z => .lit (.string z)), p)) : cs = zs.map fun z => Value.string (mkS z) := by
  cases fuel with
  | zero => simp [DataW.trod] at h
  | succ fuel =>
    simp only [DataW.trod, ht, hce, hct, Nat.mul_one] at h
    split at h
    · rename_i hl
      obtain ⟨xs, hm, hx⟩ := Option.map_eq_some_iff.1 h
      have hxs : xs.map (·.1) = zs.map fun z => (DataW.lit (.string z) : DataW H) := by
        have := congrArg Prod.fst hx
        simpa using this
      have hxl : xs.length = n := by simpa using Lib.mapM_length hm
      have hzl : zs.length = n := by
        have := congrArg List.length hxs
        simp at this
        omega
      apply List.ext_getElem?
      intro i
      by_cases hi : i < n
      · obtain ⟨b, hb, hf⟩ := Lib.mapM_at hm i i (by simp [hi])
        obtain ⟨s, hc, rfl, _⟩ := DataW.trod_string he hf
        have h1 : cs[i]? = some (.string s) := by
          have := congrArg (·[0]?) hc
          simpa [List.getElem?_take, List.getElem?_drop] using this
        have h2 : (xs.map (·.1))[i]? = some (DataW.lit (.string s.data.toList) : DataW H) := by simp [hb]
        rw [hxs] at h2
        simp only [List.getElem?_map, Option.map_eq_some_iff, DataW.lit.injEq, Lit.string.injEq] at h2
        obtain ⟨z', hz', rfl⟩ := h2
        have h3 : mkS s.data.toList = s := mk_lS s
        simp [h1, hz', h3]
      · rw [List.getElem?_eq_none (by omega), List.getElem?_eq_none (by simp; omega)]
    · cases h
theorem gnMk : Tryz.prog.globalNamed "satchel/lexer.marks" = some 0 := by kernel_rfl
theorem gtMk : (Tryz.prog.globals[0]?).map (·.type) = some 74 := by kernel_rfl
theorem ceMk : Tryz.prog.cellsOf 74 = 11 := by kernel_rfl
theorem marks_of {W : World} {rest : List (String × DataW Unit)} (h : laidMet Tryz.prog (("satchel/lexer.marks", Rows.laid_satchel_lexer_marks) :: rest) W) : MarkT W := by
  obtain ⟨ps, ⟨g', t', cs, fuel, p, q, hg', ht', hvar, hd, _, _⟩, _⟩ := h
  obtain rfl := Option.some.inj (gnMk.symm.trans hg')
  obtain rfl := Option.some.inj (gtMk.symm.trans ht')
  have hcs := cells_of_strs (zs := markL) Tryz.underlying74 Tryz.underlying9 ceStr ceMk hd
  intro k h1
  have h3 := World.var?_cell gnMk hvar k
  rw [← Array.getElem?_toList, hcs] at h3
  rcases (show k = 0 ∨ k = 1 ∨ k = 2 ∨ k = 3 ∨ k = 4 ∨ k = 5 ∨ k = 6 ∨ k = 7 ∨ k = 8 ∨ k = 9 ∨ k = 10 by omega) with rfl | rfl | rfl | rfl | rfl | rfl | rfl | rfl | rfl | rfl | rfl <;> exact h3
theorem lxw_of {W : World} (hL : laidMetH Tryz.prog Rows.lexerScansRow.laid W) (hS : W.ShapedOpen Tryz.prog) : LxW W := by
  refine ⟨tabs_of hL, mw_of hS, ?_⟩
  have h0 : laidMet Tryz.prog Rows.lexerScansRow.laid W := hL
  exact marks_of (laidMet.tail (laidMet.tail (laidMet.tail (laidMet.tail (laidMet.tail (laidMet.tail (h0 : laidMet Tryz.prog (_ :: _) W)))))))

/-- the cells of a table that is laid -/
def rowCells : DataW Unit → Array Value
  | .agg l => (l.map fun d => match d with
    | .lit (.int k n) => [Value.int k n]
    | .lit (.string l) => [Value.string ⟨l.toArray⟩]
    | .agg m => m.map fun d => match d with
      | .lit (.int k n) => Value.int k n
      | _ => Value.int .u8 0
    | _ => []).flatten.toArray
  | _ => #[]
def setRow (h : Array Obj) (g : Nat) (cs : Array Value) : Array Obj := h.modify g fun | .cells _ t frozen => .cells cs t frozen | o => o
/-- a world for the witness: the settled one, the tables and errors holding what their initialisers lay -/
noncomputable def heap0 (os : Os) : Array Obj := (World.holding Tryz.prog os ⟨#[], #[], []⟩).heap
noncomputable def heap1 (os : Os) : Array Obj := setRow (heap0 os) 5 (rowCells Rows.laid_math_bits_deBruijn32tab)
noncomputable def heap2 (os : Os) : Array Obj := setRow (heap1 os) 6 (rowCells Rows.laid_math_bits_deBruijn64tab)
noncomputable def heap3 (os : Os) : Array Obj := setRow (heap2 os) 4 (rowCells Rows.laid_internal_strconv_uint64pow10)
noncomputable def heap4 (os : Os) : Array Obj := setRow (heap3 os) 8 (rowCells Rows.laid_unicode_utf8_acceptRanges)
noncomputable def heap5 (os : Os) : Array Obj := setRow (heap4 os) 7 (rowCells Rows.laid_unicode_utf8_first)
noncomputable def heapB (os : Os) : Array Obj := setRow (heap5 os) 0 (rowCells Rows.laid_satchel_lexer_marks)
noncomputable def heap6 (os : Os) : Array Obj := setRow (heapB os) 3 #[.iface 134 (.pointer (some ⟨(heap0 os).size, 0, none⟩))]
noncomputable def heap7 (os : Os) : Array Obj := setRow (heap6 os) 2 #[.iface 134 (.pointer (some ⟨(heap0 os).size + 1, 0, none⟩))]
noncomputable def heap8 (os : Os) : Array Obj := (heap7 os).push (.cells #[.string ⟨#[118, 97, 108, 117, 101, 32, 111, 117, 116, 32, 111, 102, 32, 114, 97, 110, 103, 101]⟩] 136 (0, 0))
noncomputable def heap9 (os : Os) : Array Obj := (heap8 os).push (.cells #[.string ⟨#[105, 110, 118, 97, 108, 105, 100, 32, 115, 121, 110, 116, 97, 120]⟩] 136 (0, 0))
noncomputable def laidWorld (os : Os) : World := { World.holding Tryz.prog os ⟨#[], #[], []⟩ with heap := heap9 os }
set_option maxRecDepth 100000 in
theorem laid_met0 (os : Os) : laidMet Tryz.prog Rows.lexerScansRow.laid ((laidWorld os).forCall (fun _ _ => 0) ⟨#[], #[], []⟩).memory :=
  laidMet_of_run3 8 (by kernel_rfl) (by kernel_rfl) (by kernel_rfl)
end Go.Proofs.YthmgkjfohkadoaaGreatDoor
