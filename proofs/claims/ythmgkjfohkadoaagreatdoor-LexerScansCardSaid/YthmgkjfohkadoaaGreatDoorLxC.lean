/- lexer: the scanner: rest, find. -/
import Derived.Test.YthmgkjfohkadoaaGreatDoorLxA
import Derived.Test.YthmgkjfohkadoaaGreatDoorCsMw
import Derived.Test.YthmgkjfohkadoaaGreatDoorCePure
import Derived.Lib.SplitLaws
import Derived.BigQuiet
import Derived.Deep.QuietTactic
namespace Go.Proofs.YthmgkjfohkadoaaGreatDoor
open Go.RowKit
set_option linter.unusedVariables false

/-- the program's marks, as its table has them -/
def markL : List Bs := [[40], [41], [123], [125], [91], [93], [58], [44], [59], [45, 62], [45]]
def MarkT (w : World) : Prop := ∀ k : Nat, k < 11 → w.cell? ⟨0, k, none⟩ = some (.string (mkS (markL.getD k [])))
theorem MarkT.below {w w' : World} {B : Nat} (h : MarkT w) (hb : Below B w w') (hB : w.heap.size ≤ B) : MarkT w' := fun k h1 =>
  (hb.cell (p := ⟨0, k, none⟩) (Nat.lt_of_lt_of_le (World.block_lt_of_cell? _ _ (h k h1)) hB)).trans (h k h1)
/-- what the walk knows of the world -/
structure LxW (w : World) : Prop where
  tabs : Tabs w
  mw : MW w
  marks : MarkT w
theorem LxW.below {w w' : World} {B : Nat} (h : LxW w) (hb : Below B w w') (hB : w.heap.size ≤ B) : LxW w' :=
  ⟨h.tabs.below hb hB, h.mw.below hb (Nat.lt_of_lt_of_le h.mw.pos hB), h.marks.below hb hB⟩
/-- the tables lie below block g -/
structure TB (g : Nat) : Prop where
  pow : 4 < g
  de : 6 < g
  es : 2 < g
  er : 3 < g
  ml : 1 < g
  mrk : 0 < g
theorem var_keep {P : Program} {W W' : World} {B g : Nat} {n : String} {cs : Array Value} (hg : P.globalNamed n = some g) (h : W.var? P n = some cs) (hb : Below B W W') (hB : g < B) : W'.var? P n = some cs := by
  unfold World.var? at h ⊢
  rw [hg] at h ⊢
  simp only [Option.bind_some] at h ⊢
  rw [hb.block g hB]
  exact h
theorem var_ltL {P : Program} {W : World} {g : Nat} {n : String} {cs : Array Value} (hg : P.globalNamed n = some g) (h : W.var? P n = some cs) : g < W.heap.size := by
  unfold World.var? at h
  rw [hg] at h
  simp only [Option.bind_some] at h
  rcases Nat.lt_or_ge g W.heap.size with h' | h'
  · exact h'
  · rw [Array.getElem?_eq_none h'] at h; cases h
theorem LxW.belowT {g : Nat} {w w' : World} (h : LxW w) (hT : TB g) (hb : Below g w w') : LxW w' where
  tabs := {
    pow := var_keep gnPow h.tabs.pow hb hT.pow
    de := (hb.cell (p := ⟨6, 15, none⟩) hT.de).trans h.tabs.de
    es := by obtain ⟨tp, p, e⟩ := h.tabs.es; exact ⟨tp, p, var_keep gnEs e hb hT.es⟩
    er := by obtain ⟨tp, p, e⟩ := h.tabs.er; exact ⟨tp, p, var_keep gnEr e hb hT.er⟩ }
  mw := h.mw.below hb hT.ml
  marks := fun k hk => (hb.cell (p := ⟨0, k, none⟩) hT.mrk).trans (h.marks k hk)
theorem LxW.tb {w : World} (h : LxW w) : TB w.heap.size where
  pow := var_ltL gnPow h.tabs.pow
  de := lt_of_cell h.tabs.de
  es := by obtain ⟨tp, p, e⟩ := h.tabs.es; exact var_ltL gnEs e
  er := by obtain ⟨tp, p, e⟩ := h.tabs.er; exact var_ltL gnEr e
  ml := h.mw.pos
  mrk := lt_of_cell (h.marks 0 (by decide))
theorem TB.mono {g g' : Nat} (h : TB g) (hg : g ≤ g') : TB g' where
  pow := Nat.lt_of_lt_of_le h.pow hg
  de := Nat.lt_of_lt_of_le h.de hg
  es := Nat.lt_of_lt_of_le h.es hg
  er := Nat.lt_of_lt_of_le h.er hg
  ml := Nat.lt_of_lt_of_le h.ml hg
  mrk := Nat.lt_of_lt_of_le h.mrk hg
/-- the same, of a world where the blocks from g on may turn -/
def LxK (g : Nat) (w : World) : Prop := LxW w ∧ TB g
theorem LxW.k {w : World} (h : LxW w) {g : Nat} (hg : w.heap.size ≤ g) : LxK g w := ⟨h, h.tb.mono hg⟩
theorem LxK.w {g : Nat} {w : World} (h : LxK g w) : LxW w := h.1
theorem LxK.below {g : Nat} {w w' : World} (h : LxK g w) (hb : Below w.heap.size w w') : LxK g w' := ⟨h.1.below hb (Nat.le_refl _), h.2⟩
theorem LxK.belowG {g : Nat} {w w' : World} (h : LxK g w) (hb : Below g w w') : LxK g w' := ⟨h.1.belowT h.2 hb, h.2⟩
theorem LxK.set {g : Nat} {w : World} (h : LxK g w) (i : Nat) (v : Value) : LxK g (w.setCell ⟨g, i, none⟩ v) := h.belowG ((Below.refl g w).setCell (p := ⟨g, i, none⟩) (Nat.le_refl _) v)
theorem LxK.drewN {g : Nat} {w : World} (h : LxK g w) (q : Nat) : LxK g (w.drewN q) := h.below (below_of_drewN w q)
/-- the scanner of s, which stands at p -/
abbrev ScA (g : Nat) (s : ByteArray) (p : Nat) : Ass := BlkA g 35 #[.string s, .int .i64 (p : Int)]
theorem sc_cells {S : Fp} {lst : List Ass} {w0 w : World} {g p : Nat} {s : ByteArray} (h : St S (ScA g s p :: lst) w0 w) :
    w.cell? ⟨g, 0, none⟩ = some (.string s) ∧ w.cell? ⟨g, 1, none⟩ = some (.int .i64 (p : Int)) ∧ w.frozen? ⟨g, 1, none⟩ = false ∧ g < w.heap.size :=
  ⟨by rw [h.blk.cell 0]; rfl, by rw [h.blk.cell 1]; rfl, h.blk.frozen 1, h.blk.lt⟩
theorem sc_drop (s : ByteArray) (p : Nat) : s.extract p s.size = mkS ((lS s).drop p) := by
  have h := mkS_drop (lS s) p
  rw [mk_lS] at h
  exact h
theorem sc_at (s : ByteArray) (k : Nat) (h : k < s.size) : ∃ x, s[k]'h = x ∧ (lS s).drop k = x :: (lS s).drop (k + 1) := by
  have hk : k < (lS s).length := by rw [lS_len]; exact h
  refine ⟨(lS s)[k], ?_, drop_cons hk⟩
  have h1 := byte_at s k h
  have h2 : (lS s)[k]? = some (lS s)[k] := List.getElem?_eq_getElem hk
  exact Option.some.inj (h1.symm.trans h2)
set_option maxHeartbeats 1000000 in
theorem rest_any {S : Fp} {lst : List Ass} [Stable (Sep lst)] {w0 w : World} (g p : Nat) (s : ByteArray) (h : St S (ScA g s p :: lst) w0 w) (hp : p ≤ s.size) (hs : s.size ≤ 1073741824) :
    Calls Tryz.prog 16 #[.pointer (some ⟨g, 0, none⟩)] w fun e w' => e = .returned (.string (mkS ((lS s).drop p))) ∧ ∃ q, w' = w.drewN q := by
  obtain ⟨c0, c1, f1, g0⟩ := sc_cells h
  have HE := Lib.hid (sc_drop s p)
  have i1 : (0 : Int) ≤ (p : Int) := by omega
  have i2 : (p : Int) ≤ (s.size : Int) := by omega
  clear h
  go_enter Tryz.func16, Tryz.ntmps16
  go_wp2
  go_quiet (fail)
  go_wp2
  go_ret
  rw [HE.out]
  exact ⟨rfl, _, rfl⟩
theorem blank_idx (x : UInt8) : (lxB x = true ∧ ∃ i : Nat, i < 4 ∧ Lib.indexByte [32, 9, 13, 10] x = (i : Int)) ∨ (lxB x = false ∧ Lib.indexByte [32, 9, 13, 10] x = -1) := by
  by_cases h1 : x = 32
  · subst h1; exact .inl ⟨by decide, 0, by decide, by decide⟩
  · by_cases h2 : x = 9
    · subst h2; exact .inl ⟨by decide, 1, by decide, by decide⟩
    · by_cases h3 : x = 13
      · subst h3; exact .inl ⟨by decide, 2, by decide, by decide⟩
      · by_cases h4 : x = 10
        · subst h4; exact .inl ⟨by decide, 3, by decide, by decide⟩
        · have e1 : ((32 : UInt8) == x) = false := by rw [beq_eq_false_iff_ne]; exact fun h => h1 h.symm
          have e2 : ((9 : UInt8) == x) = false := by rw [beq_eq_false_iff_ne]; exact fun h => h2 h.symm
          have e3 : ((13 : UInt8) == x) = false := by rw [beq_eq_false_iff_ne]; exact fun h => h3 h.symm
          have e4 : ((10 : UInt8) == x) = false := by rw [beq_eq_false_iff_ne]; exact fun h => h4 h.symm
          refine .inr ⟨?_, ?_⟩
          · simp [lxB, h1, h2, h3, h4]
          · simp [Lib.indexByte, e1, e2, e3, e4]
theorem cut_fst (c : UInt8) (l : Bs) : (Lib.cut l [c]).1 = l.takeWhile (· != c) := by
  by_cases h : c ∈ l
  · have key : ∀ l : Bs, c ∈ l → ∃ a b, l = a ++ c :: b ∧ c ∉ a ∧ l.takeWhile (· != c) = a := by
      intro l
      induction l with
      | nil => intro h; cases h
      | cons x r ih =>
        intro h
        by_cases hx : x = c
        · subst hx
          exact ⟨[], r, rfl, by simp, by rw [List.takeWhile_cons_of_neg (by simp)]⟩
        · obtain ⟨a, b, e, ha, ht⟩ := ih ((List.mem_cons.1 h).resolve_left fun e => hx e.symm)
          refine ⟨x :: a, b, by rw [e]; rfl, ?_, ?_⟩
          · intro h2
            rcases List.mem_cons.1 h2 with h2 | h2
            · exact hx h2.symm
            · exact ha h2
          · rw [List.takeWhile_cons_of_pos (by simpa using hx), ht]
    obtain ⟨a, b, e, ha, ht⟩ := key l h
    rw [ht, e, cut_hit ha]
  · rw [cut_miss h]
    have : ∀ l : Bs, c ∉ l → l.takeWhile (· != c) = l := by
      intro l
      induction l with
      | nil => intro _; rfl
      | cons x r ih =>
        intro h
        rw [List.takeWhile_cons_of_pos (by simp; exact fun e => h (by rw [e]; simp)), ih fun h2 => h (by simp [h2])]
    rw [this l h]
theorem pre47 (l : Bs) : (Lib.hasPrefix l [47, 47] = true ∧ ∃ r, l = 47 :: 47 :: r) ∨ (Lib.hasPrefix l [47, 47] = false ∧ ∀ r, l ≠ 47 :: 47 :: r) := by
  unfold Lib.hasPrefix
  match l with
  | [] => exact .inr ⟨rfl, fun r h => by cases h⟩
  | [a] => exact .inr ⟨by simp [List.isPrefixOf], fun r h => by cases h⟩
  | a :: b :: r =>
    by_cases h : a = 47 ∧ b = 47
    · obtain ⟨rfl, rfl⟩ := h
      exact .inl ⟨by simp [List.isPrefixOf], r, rfl⟩
    · refine .inr ⟨?_, ?_⟩
      · simp only [List.isPrefixOf, Bool.and_true, Bool.and_eq_false_iff, beq_eq_false_iff_ne]
        by_cases ha : a = 47
        · exact .inr fun hb => h ⟨ha, hb.symm⟩
        · exact .inl fun hb => ha hb.symm
      · intro r' e
        injection e with e1 e2
        injection e2 with e2 e3
        exact h ⟨e1, e2⟩
/-- the rest of a comment -/
def lineK (l : Bs) (p : Nat) : Nat := ((l.drop p).takeWhile (· != 10)).length
theorem nxt_blank {l : Bs} {p : Nat} {x : UInt8} (h : l.drop p = x :: l.drop (p + 1)) (hb : lxB x = true) : nxt l p = nxt l (p + 1) := by
  unfold nxt
  rw [h, gap_blank _ hb]
  omega
theorem nxt_stop {l : Bs} {p : Nat} {x : UInt8} (h : l.drop p = x :: l.drop (p + 1)) (hb : lxB x = false) (hc : ∀ r, l.drop p ≠ 47 :: 47 :: r) : nxt l p = p := by
  unfold nxt
  have hc2 : ¬ (x = 47 ∧ (l.drop (p + 1)).head? = some 47) := by
    rintro ⟨rfl, h2⟩
    cases hd : l.drop (p + 1) with
    | nil => rw [hd] at h2; cases h2
    | cons y r =>
      rw [hd] at h2
      injection h2 with h2
      exact hc r (by rw [h, hd, h2])
  rw [h, gap_stop _ hb hc2]
  rfl
theorem nxt_comment {l r : Bs} {p : Nat} (h : l.drop p = 47 :: 47 :: r) : nxt l p = nxt l (p + lineK l p) ∧ 0 < lineK l p ∧ p + lineK l p ≤ l.length := by
  have hg := gap_comment r
  rw [← h] at hg
  have hd : (l.drop p).dropWhile (· != 10) = l.drop (p + lineK l p) := by
    have h1 : (l.drop p).takeWhile (· != 10) ++ (l.drop p).dropWhile (· != 10) = l.drop p := List.takeWhile_append_dropWhile
    have h2 : (l.drop p).drop (lineK l p) = (l.drop p).dropWhile (· != 10) := by
      conv => lhs; rw [← h1]
      unfold lineK
      rw [List.drop_left]
    rw [← h2, List.drop_drop]
  rw [hd] at hg
  have hle : lineK l p ≤ (l.drop p).length := tw_le _ _
  have hpos : 0 < lineK l p := by
    unfold lineK
    rw [h, List.takeWhile_cons_of_pos (by decide)]
    simp
  refine ⟨?_, hpos, ?_⟩
  · unfold nxt
    rw [hg]
    show p + (lineK l p + _) = _
    omega
  · rw [List.length_drop] at hle
    by_cases hp : p ≤ l.length
    · omega
    · rw [List.drop_of_length_le (by omega)] at h
      cases h
theorem nxt_end {l : Bs} {p : Nat} (h : l.length ≤ p) : nxt l p = p := by
  unfold nxt
  rw [List.drop_of_length_le h]
  rfl
/-- where the scanner stands -/
def atOf (w : World) (g : Nat) : Nat := match w.cell? ⟨g, 1, none⟩ with
  | some (.int _ n) => n.toNat
  | _ => 0
theorem atOf_of {w : World} {g p : Nat} (h : w.cell? ⟨g, 1, none⟩ = some (.int .i64 (p : Int))) : atOf w g = p := by
  unfold atOf
  rw [h]
  simp
theorem sc_move {S : Fp} {lst : List Ass} [Stable (Sep lst)] {w0 w : World} {g p : Nat} {s : ByteArray} (h : St S (ScA g s p :: lst) w0 w) (q : Nat) (v : Int) (hv : v = (q : Int)) : St S (ScA g s q :: lst) w0 (w.setCell ⟨g, 1, none⟩ (.int .i64 v)) := by
  subst hv
  exact h.setBlk 1 _
set_option maxRecDepth 100000 in
set_option maxHeartbeats 1000000 in
theorem find_any {S : Fp} {lst : List Ass} [Stable (Sep lst)] {w0 w : World} (g p : Nat) (s : ByteArray) (h : St S (ScA g s p :: lst) w0 w) (hp : p ≤ s.size) (hs : s.size ≤ 1073741824) (hM : LxK g w) :
    Calls Tryz.prog 8 #[.pointer (some ⟨g, 0, none⟩)] w fun e w' => e = .returned (.bool (decide (nxt (lS s) p < s.size))) ∧ St S (ScA g s (nxt (lS s) p) :: lst) w0 w' ∧ LxK g w' := by
  have HS := Lib.hid h
  have HM := Lib.hid hM
  have HLN : Hid ((lS s).length = s.size) := Lib.hid (lS_len s)
  have HX : Hid (∀ k (h' : k < s.size), ∃ x, s[k]'h' = x ∧ (lS s).drop k = x :: (lS s).drop (k + 1)) := Lib.hid (sc_at s)
  have hsz0 := hs
  have HHS := Lib.hid hs
  have hs2 : s.size < 9223372036854775807 := by omega
  clear h hM
  go_enter Tryz.func8, Tryz.ntmps8
  go_wp2
  go_loopw [35] (fun _ wr => ∃ p' : Nat, p' ≤ s.size ∧ Hid (nxt (lS s) p' = nxt (lS s) p) ∧ Hid (St S (ScA g s p' :: lst) w0 wr) ∧ Hid (LxK g wr)) (fun _ wr => s.size - atOf wr g)
  case atStart => exact ⟨p, hp, Lib.hid rfl, HS, HM⟩
  case round =>
    obtain ⟨p', hp', HN, HT, HW⟩ := hrel
    clear HS HM
    obtain ⟨c0, c1, f1, g0⟩ := sc_cells HT.out
    have i1 : (0 : Int) ≤ (p' : Int) := by omega
    by_cases hlt : p' < s.size
    · obtain ⟨x, hx, hdr⟩ := HX.out p' hlt
      have HDR := Lib.hid hdr
      have hpos : 0 < s.size - p' := by omega
      have hat := atOf_of c1
      have HAT := Lib.hid hat
      clear hat
      have HW2 : Hid (∀ q, LxK g (wr.drewN q)) := Lib.hid fun q => HW.out.drewN q
      have HT2 : Hid (∀ q, St S (ScA g s p' :: lst) w0 (wr.drewN q)) := Lib.hid fun q => HT.out.drewN q
      rcases blank_idx x with ⟨hb, i, hi, hix⟩ | ⟨hb, hix⟩
      · have HNB := Lib.hid ((nxt_blank hdr hb).symm.trans HN.out)
        have HIB : Hid (∀ w, Calls Tryz.prog 14 #[.string ⟨#[32, 9, 13, 10]⟩, .int .u8 (x.toNat : Int)] w fun e w' => e = .returned (.int .i64 (i : Int)) ∧ w' = w) := Lib.hid fun w =>
          (idx_any [32, 9, 13, 10] x w).mono fun e w' ⟨h1, h2⟩ => ⟨by rw [h1, hix], h2.symm⟩
        have HMV : Hid (∀ q, St S (ScA g s (p' + 1) :: lst) w0 ((wr.drewN q).setCell ⟨g, 1, none⟩ (.int .i64 ((p' : Int) + 1))) ∧ LxK g ((wr.drewN q).setCell ⟨g, 1, none⟩ (.int .i64 ((p' : Int) + 1))) ∧ atOf ((wr.drewN q).setCell ⟨g, 1, none⟩ (.int .i64 ((p' : Int) + 1))) g = p' + 1) := Lib.hid fun q => by
          have h1 := sc_move (HT2.out q) (p' + 1) ((p' : Int) + 1) (by omega)
          exact ⟨h1, (HW2.out q).set 1 _, atOf_of (sc_cells h1).2.1⟩
        clear hdr hb hix
        go_wp2
        go_quiet (fail)
        go_wp2
        go_quiet ((go_at_call 14; exact quiet_add_same (HIB.out _)))
        go_wp2
        go_roundw
        case rel => exact ⟨p' + 1, by omega, HNB, (HMV.out _).1, Lib.hid (HMV.out _).2.1⟩
        case measure =>
          rw [(HMV.out _).2.2, HAT.out]
          omega
      · have HIB : Hid (∀ w, Calls Tryz.prog 14 #[.string ⟨#[32, 9, 13, 10]⟩, .int .u8 (x.toNat : Int)] w fun e w' => e = .returned (.int .i64 (-1)) ∧ w' = w) := Lib.hid fun w =>
          (idx_any [32, 9, 13, 10] x w).mono fun e w' ⟨h1, h2⟩ => ⟨by rw [h1, hix], h2.symm⟩
        have HR : Hid (∀ wx, St S (ScA g s p' :: lst) w0 wx → LxK g wx → Calls Tryz.prog 16 #[.pointer (some ⟨g, 0, none⟩)] wx fun e w' => e = .returned (.string (mkS ((lS s).drop p'))) ∧ St S (ScA g s p' :: lst) w0 w' ∧ LxK g w') := Lib.hid fun wx h1 h2 =>
          (rest_any g p' s h1 hp' hsz0).mono fun e w' ⟨h3, q, h4⟩ => ⟨h3, h4 ▸ h1.drewN q, h4 ▸ h2.drewN q⟩
        rcases pre47 ((lS s).drop p') with ⟨hc, r, hr⟩ | ⟨hc, hno⟩
        · obtain ⟨n1, n2, n3⟩ := nxt_comment hr
          have HNB := Lib.hid (n1.symm.trans HN.out)
          rw [HLN.out] at n3
          have HPF : Hid (∀ w, Calls Tryz.prog 15 #[.string (mkS ((lS s).drop p')), .string ⟨#[47, 47]⟩] w fun e w' => e = .returned (.bool true) ∧ w = w') := Lib.hid fun w =>
            (Tryz.strings_HasPrefix (mkS ((lS s).drop p')) ⟨#[47, 47]⟩ w).mono fun e w' ⟨h1, h2⟩ => ⟨by rw [h1]; exact ret_boolL hc, h2.symm⟩
          obtain ⟨K, hK⟩ : ∃ K, K = lineK (lS s) p' := ⟨_, rfl⟩
          have HCT : Hid (∀ wx, St S (ScA g s p' :: lst) w0 wx → LxK g wx → Calls Tryz.prog 17 #[.string (mkS ((lS s).drop p')), .string ⟨#[10]⟩] wx fun e w' => ∃ T b c, e = .returned (.tuple #[.string T, b, c]) ∧ T.size = K ∧ St S (ScA g s p' :: lst) w0 w' ∧ LxK g w') := Lib.hid fun wx h1 h2 => by
            have h2k := h2
            obtain ⟨m, hm⟩ := h2.w.mw
            refine (Tryz.strings_Cut (mkS ((lS s).drop p')) ⟨#[10]⟩ m wx (by rw [mkS_size, List.length_drop, HLN.out]; have := HHS.out; omega) hm).mono ?_
            rintro e w' ⟨h3, q, rfl⟩
            refine ⟨_, _, _, h3, ?_, h1.drewN q, h2k.drewN q⟩
            show (mkS (Lib.cut ((lS s).drop p') [10]).1).size = K
            rw [cut_fst, mkS_size, hK]
            rfl
          rw [← hK] at HNB n2 n3
          have HMV : Hid (∀ wx, St S (ScA g s p' :: lst) w0 wx → LxK g wx → St S (ScA g s (p' + K) :: lst) w0 (wx.setCell ⟨g, 1, none⟩ (.int .i64 ((p' : Int) + K))) ∧ LxK g (wx.setCell ⟨g, 1, none⟩ (.int .i64 ((p' : Int) + K))) ∧ atOf (wx.setCell ⟨g, 1, none⟩ (.int .i64 ((p' : Int) + K))) g = p' + K) := Lib.hid fun wx h1 h2 => by
            have h1 := sc_move h1 (p' + K) ((p' : Int) + K) (by omega)
            exact ⟨h1, h2.set 1 _, atOf_of (sc_cells h1).2.1⟩
          generalize mkS ((lS s).drop p') = D at HR HPF HCT
          have k1 : wrap64 ((p' : Int) + (K : Int)) = (p' : Int) + (K : Int) := by unfold wrap64; omega
          clear hdr hb hix hc hr n1 hK
          go_wp2
          go_quiet (fail)
          go_wp2
          go_quiet ((go_at_call 14; exact quiet_add_same (HIB.out _)))
          go_wp2_with fail
          refine (HR.out _ (HT2.out _) (HW2.out _)).mono ?_
          rintro e w1 ⟨rfl, h1, m1⟩
          have H1 := Lib.hid h1
          have M1 := Lib.hid m1
          clear h1 m1
          go_wp2_with fail
          refine (HPF.out _).mono ?_
          rintro e w' ⟨rfl, rfl⟩
          go_wp2_with fail
          refine (HR.out _ H1.out M1.out).mono ?_
          rintro e w2 ⟨rfl, h2, m2⟩
          have H2 := Lib.hid h2
          have M2 := Lib.hid m2
          clear h2 m2
          go_wp2_with fail
          refine (HCT.out _ H2.out M2.out).mono ?_
          rintro e w3 ⟨T, b, c, rfl, hT, h3, m3⟩
          obtain ⟨e0, e1, e2, e3⟩ := sc_cells h3
          have hTi : (T.size : Int) = (K : Int) := by rw [hT]
          have HMV2 := Lib.hid (HMV.out _ h3 m3)
          clear h3 m3
          go_wp2
          go_roundw
          case rel => exact ⟨p' + K, n3, HNB, HMV2.out.1, Lib.hid HMV2.out.2.1⟩
          case measure =>
            rw [HMV2.out.2.2, HAT.out]
            omega
        · have hst := nxt_stop hdr hb hno
          have HPF : Hid (∀ w, Calls Tryz.prog 15 #[.string (mkS ((lS s).drop p')), .string ⟨#[47, 47]⟩] w fun e w' => e = .returned (.bool false) ∧ w = w') := Lib.hid fun w =>
            (Tryz.strings_HasPrefix (mkS ((lS s).drop p')) ⟨#[47, 47]⟩ w).mono fun e w' ⟨h1, h2⟩ => ⟨by rw [h1]; exact ret_boolL hc, h2.symm⟩
          have HNX : Hid (nxt (lS s) p = p') := Lib.hid (HN.out.symm.trans hst)
          generalize mkS ((lS s).drop p') = D at HR HPF
          clear hdr hb hix hc hno hst
          go_wp2
          go_quiet (fail)
          go_wp2
          go_quiet ((go_at_call 14; exact quiet_add_same (HIB.out _)))
          go_wp2_with fail
          refine (HR.out _ (HT2.out _) (HW2.out _)).mono ?_
          rintro e w1 ⟨rfl, h1, m1⟩
          have H1 := Lib.hid h1
          have M1 := Lib.hid m1
          clear h1 m1
          go_wp2_with fail
          refine (HPF.out _).mono ?_
          rintro e w' ⟨rfl, rfl⟩
          go_wp2
          go_ret
          rw [HNX.out]
          exact ⟨ret_boolL (decide_eq_true hlt).symm, H1.out, M1.out⟩
    · have hpe : p' = s.size := by omega
      have HNX : Hid (nxt (lS s) p = p') := Lib.hid (HN.out.symm.trans (nxt_end (by rw [HLN.out]; omega)))
      have HT2 : Hid (∀ q, St S (ScA g s p' :: lst) w0 (wr.drewN q)) := Lib.hid fun q => HT.out.drewN q
      go_wp2
      go_quiet (fail)
      go_wp2
      go_ret
      rw [HNX.out]
      exact ⟨ret_boolL (decide_eq_false hlt).symm, HT2.out _, HW.out.drewN _⟩
end Go.Proofs.YthmgkjfohkadoaaGreatDoor
