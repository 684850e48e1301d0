/- frame: what a frame's bytes are; the Writer as an object; Pack. -/
import Derived.Test.YtkdlehekignnhaaDoorSep
import Derived.Test.YtkdlehekignnhaaDoorWriter
import Derived.Test.YtkdlehekignnhaaDoorCrc
import Derived.Deep.RegionLaw
import Derived.Deep.QuietTactic
import Derived.BigQuiet
import Derived.Deep.RegionHeld3
import Derived.OwnWalk
namespace Go.Proofs.YtkdlehekignnhaaDoor
open Go.RowKit
set_option linter.unusedVariables false

/-! ### the document's words -/
def fbody (t : Nat) (d : List Nat) : List Nat := enc 1 t ++ enc 4 d.length ++ d
/-- a frame's bytes -/
def fbytes (t : Nat) (d : List Nat) : List Nat := fbody t d ++ enc 4 (crc (fbody t d))
def packErr (t : Int) (d : List Nat) : Int := if t < 0 ∨ 255 < t then 2 else if 1048576 < d.length then 1 else 0
def packB (t : Int) (d : List Nat) : List Nat := if packErr t d = 0 then fbytes t.toNat d else []
theorem fbody_len (t : Nat) (d : List Nat) : (fbody t d).length = 5 + d.length := by
  unfold fbody
  simp only [List.length_append, enc_length]
theorem fbytes_len (t : Nat) (d : List Nat) : (fbytes t d).length = 9 + d.length := by
  unfold fbytes
  rw [List.length_append, fbody_len, enc_length]
  omega
theorem fbody_is (t : Nat) {d : List Nat} (h : IsBytes d) : IsBytes (fbody t d) := ((enc_bytes _ _).append (enc_bytes _ _)).append h
theorem fbytes_is (t : Nat) {d : List Nat} (h : IsBytes d) : IsBytes (fbytes t d) := (fbody_is t h).append (enc_bytes _ _)

/-! ### the Writer as an object -/
def WrA (g : Nat) (bs : List Nat) : Ass := fun w F => ∃ v, Wr w 0 g v bs ∧ F = wfp g v
instance stableWr {g : Nat} {bs : List Nat} : Stable (WrA g bs) where
  lt := by
    rintro w F ⟨v, h, rfl⟩ k hk
    exact (h.lt k hk).2
  keep := by
    rintro w w' F ⟨v, h, rfl⟩ _ hk
    exact ⟨v, ⟨h.1.keep (hk g (.inl rfl)), h.2.1, h.2.2.keep fun k e => hk k (.inr e)⟩, rfl⟩
theorem putNum_enc {d n : Nat} (h : d = 1 ∨ d = 2 ∨ d = 4 ∨ d = 8) : putNum (d : Int) n = enc d n := by
  rw [putNum_yes (isW_yes (by omega)), Int.toNat_natCast]
section
variable {S : Fp} {l : List Ass} {w0 w w' : World}
theorem St.newWr [Stable (Sep l)] (h : St S l w0 w) : St S (WrA w.heap.size [] :: l) w0 (w.alloc (.cells #[.slice none 0 0] 74)) :=
  h.add (F := wfp w.heap.size (.slice none 0 0)) ((Below.refl _ _).alloc (Nat.le_refl _) _) ⟨_, ⟨Blk.new _ _ _, Nat.zero_le _, OB.nil _ _ _⟩, rfl⟩ fun k hk => by
    rcases hk with hk | hk
    · omega
    · cases hk
set_option maxHeartbeats 400000 in
theorem WNumA [Stable (Sep l)] {g : Nat} {bs : List Nat} (h : St S (WrA g bs :: l) w0 w) {d : Nat} {dd : Int} (hdd : (d : Int) = dd) (hd : d = 1 ∨ d = 2 ∨ d = 4 ∨ d = 8) (n : Nat) (hn : n < 18446744073709551616) (hl : bs.length + 8 ≤ 140737488355328) :
    Calls Tryd.prog 28 #[.pointer (some ⟨g, 0, none⟩), .int .i64 dd, .int .u64 n] w fun e w' => e = .returned (.tuple #[]) ∧ St S (WrA g (bs ++ enc d n) :: l) w0 w' := by
  subst hdd
  obtain ⟨F, ⟨v, hw, rfl⟩, k⟩ := h.turn
  refine (WNum_any 0 g v bs (d : Int) n w hw hn hl).mono ?_
  rintro e w' ⟨rfl, v', h1, h2, h3⟩
  rw [putNum_enc hd] at h1
  exact ⟨rfl, k _ _ ⟨_, ⟨v', h1, rfl⟩, h2, h3⟩⟩
set_option maxHeartbeats 400000 in
theorem WRawA [Stable (Sep l)] {g : Nat} {bs : List Nat} (h : St S (WrA g bs :: l) w0 w) (A : Option Addr) (cap B : Nat) (news : List Nat) (hr : RB w B A news) (hl : bs.length + news.length ≤ 140737488355328) :
    Calls Tryd.prog 29 #[.pointer (some ⟨g, 0, none⟩), .slice A news.length cap] w fun e w' => e = .returned (.tuple #[]) ∧ St S (WrA g (bs ++ news) :: l) w0 w' := by
  obtain ⟨F, ⟨v, hw, rfl⟩, k⟩ := h.turn
  refine (Raw_any 0 g v bs A cap B news w hw hr hl).mono ?_
  rintro e w' ⟨rfl, v', h1, h2, h3⟩
  exact ⟨rfl, k _ _ ⟨_, ⟨v', h1, rfl⟩, h2, h3⟩⟩
set_option maxHeartbeats 400000 in
theorem WBytesA [Stable (Sep l)] {g : Nat} {bs : List Nat} (h : St S (WrA g bs :: l) w0 w) (hl : bs.length ≤ 140737488355328) :
    Calls Tryd.prog 31 #[.pointer (some ⟨g, 0, none⟩)] w fun e w' => ∃ v, e = .returned v ∧ St S (ObA 5 v bs :: WrA g bs :: l) w0 w' := by
  obtain ⟨F, ⟨v, hw, _⟩⟩ := h.head
  refine (Bytes_any 0 g v bs w hw hl).mono ?_
  rintro e w' ⟨v', rfl, h1, h2⟩
  exact ⟨v', rfl, h.newOb h1 h2⟩
end

theorem cells2 {S : Fp} {l : List Ass} {w0 w : World} {g : Nat} {t : TypeId} {a b : Value} (h : St S (BlkA g t #[a, b] :: l) w0 w) : w.cell? ⟨g, 0, none⟩ = some a ∧ w.cell? ⟨g, 1, none⟩ = some b := by
  have hb := h.blk
  exact ⟨by rw [hb.cell 0]; rfl, by rw [hb.cell 1]; rfl⟩

theorem results_row_tmp {P : Program} {fn : Func} {p u : Tmp} {ty : TypeId} (h : fn.results = #[.cell p ty, .tmp u]) (tmps : Array Value) (w : World) (g : Nat) (t : TypeId) (cs : Array Value) (d : TypeDesc)
    (hp : tmps.getD p undef = .pointer (some ⟨g, 0, none⟩)) (hg : Blk w g t cs)
    (hu : P.underlying ty = some d) (hd : (match d with | .struct _ | .array _ _ => true | _ => false) = true) (hi : (P.info? ty).map (·.size) = some cs.size) :
    (results fn tmps).run P w = .ok (.tuple #[.agg cs, tmps.getD u undef]) w := by
  rw [results_cell_tmp h, hp]
  simp [asAddr, run_loadVar_row w g t ty cs (0, 0) d hg hu hd hi, Result.andThen]

/-! ### Pack -/
def fragg (t : Int) (A : Option Addr) (n c : Nat) : Value := .agg #[.int .i64 t, .slice A n c]
/-- what Pack leaves -/
def PackedW (t : Int) (d : List Nat) (w : World) (e : Ending) (w' : World) : Prop := ∃ v, e = .returned (.tuple #[v, .int .i64 (packErr t d)]) ∧ St Zf [ObA 5 v (packB t d)] w w'
set_option maxRecDepth 100000 in
set_option maxHeartbeats 1000000 in
theorem Pack_any (t : Int) (A : Option Addr) (c B : Nat) (d : List Nat) (w : World) (hT : TabW w) (hr : RB w B A d) (hB : B ≤ w.heap.size) (hl : d.length ≤ 140737488351232) :
    Calls Tryd.prog 13 #[fragg t A d.length c] w (PackedW t d w) := by
  have hS := (St.start Zf w).newBlk 25 #[.int .i64 t, .slice A d.length c]
  obtain ⟨G, hG⟩ : ∃ G, G = w.heap.size := ⟨_, rfl⟩
  simp only [fragg]
  by_cases ht : t < 0 ∨ 255 < t
  · have he : packErr t d = 2 := if_pos ht
    have hb : packB t d = [] := by unfold packB; rw [he]; rfl
    unfold PackedW
    rw [he, hb]
    have hS' := (hS.drop).nilOb 5
    go_enter Tryd.func13, Tryd.ntmps13
    by_cases h0 : t < 0
    · go_wp2_with fail
      go_ret2
      exact ⟨_, rfl, hS'⟩
    · have h1 : 255 < t := by omega
      go_wp2_with fail
      go_ret2
      exact ⟨_, rfl, hS'⟩
  · by_cases hm : 1048576 < d.length
    · have he : packErr t d = 1 := by unfold packErr; rw [if_neg ht, if_pos hm]
      have hb : packB t d = [] := by unfold packB; rw [he]; rfl
      unfold PackedW
      rw [he, hb]
      have hS' := (hS.drop).nilOb 5
      have h0 : 0 ≤ t := by omega
      have h1 : t ≤ 255 := by omega
      go_enter Tryd.func13, Tryd.ntmps13
      go_wp2_with fail
      go_ret2
      exact ⟨_, rfl, hS'⟩
    · have he : packErr t d = 0 := by unfold packErr; rw [if_neg ht, if_neg hm]
      have hb : packB t d = fbytes t.toNat d := by unfold packB; rw [he]; rfl
      unfold PackedW
      rw [he, hb]
      obtain ⟨k, rfl⟩ : ∃ k : Nat, t = (k : Int) := ⟨t.toNat, by omega⟩
      have hk : k ≤ 255 := by omega
      have hd : d.length ≤ 1048576 := by omega
      have u1 : IntKind.u64.wrap (k : Int) = (k : Int) := by rw [IntKind.wrap_u64]; omega
      have u2 : IntKind.u64.wrap (d.length : Int) = (d.length : Int) := by rw [IntKind.wrap_u64]; omega
      have hcl : crc (fbody k d) < 4294967296 := crc_lt (fbody_is k hr.1)
      obtain ⟨y, hy⟩ : ∃ y, y = crc (fbody k d) := ⟨_, rfl⟩
      rw [← hy] at hcl
      have u3 : IntKind.u64.wrap (y : Int) = (y : Int) := by rw [IntKind.wrap_u64]; omega
      have h0 : ¬ (k : Int) < 0 := by omega
      have h1 : ¬ (255 : Int) < (k : Int) := by omega
      have HY := Lib.hid hy
      have hbl := fbody_len k d
      have HK : Hid (k < 18446744073709551616 ∧ d.length < 18446744073709551616 ∧ y < 18446744073709551616) := Lib.hid (by omega)
      have HL : Hid (5 + d.length + 8 ≤ 140737488355328) := Lib.hid (by omega)
      have HR : Hid (∀ w', Below w.heap.size w w' → RB w' B A d ∧ TabW w') := Lib.hid fun w' hb => ⟨hr.below' hb hB, hT.below hb hT.1⟩
      have HS := Lib.hid hS
      have HBL := Lib.hid hbl
      obtain ⟨n, hn⟩ : ∃ n, n = d.length := ⟨_, rfl⟩
      have HN := Lib.hid hn
      have hm' : ¬ (1048576 : Int) < (d.length : Int) := by omega
      clear hS hy hbl hcl hT hr hB hl he hb hd ht hn
      go_enter Tryd.func13, Tryd.ntmps13
      go_wp2_with fail
      refine (NewWriter_any _).mono ?_
      rintro e w1 ⟨rfl, hw1⟩
      have h1' := HS.out.newWr
      rw [hw1, World.size_alloc] at h1'
      obtain ⟨c0, c1⟩ := cells2 h1'.swap
      have H1 := Lib.hid h1'
      clear hw1 h1'
      go_wp2_with fail
      refine (WNumA H1.out (d := 1) rfl (by omega) k HK.out.1 (by simp)).mono ?_
      rintro e w2 ⟨rfl, h2⟩
      obtain ⟨c20, c21⟩ := cells2 h2.swap
      rw [List.nil_append] at h2
      have H2 := Lib.hid h2
      clear h2 c0 c1 H1
      go_wp2_with fail
      refine (WNumA H2.out (d := 4) rfl (by omega) d.length HK.out.2.1 (by rw [enc_length]; omega)).mono ?_
      rintro e w3 ⟨rfl, h3⟩
      obtain ⟨c30, c31⟩ := cells2 h3.swap
      obtain ⟨r3, -⟩ := HR.out w3 h3.bel
      have H3 := Lib.hid h3
      have R3 := Lib.hid r3
      clear h3 c20 c21 H2 r3
      go_wp2_with fail
      refine (WRawA H3.out A c B d R3.out (by rw [List.length_append, enc_length, enc_length]; have := HL.out; omega)).mono ?_
      rintro e w4 ⟨rfl, h4⟩
      have h4' : St Zf [WrA (w.heap.size + 1) (fbody k d), BlkA w.heap.size 25 #[.int .i64 (k : Int), .slice A d.length c]] w w4 := by simpa [fbody] using h4
      have H4 := Lib.hid h4'
      clear h4 h4' c30 c31 H3 R3
      go_wp2_with fail
      refine (WBytesA H4.out (by rw [HBL.out]; have := HL.out; omega)).mono ?_
      rintro e w5 ⟨v5, rfl, h5⟩
      obtain ⟨A5, c5, rfl, -, -, r5, -⟩ := h5.ob.form
      obtain ⟨-, t5⟩ := HR.out w5 h5.bel
      have H5 := Lib.hid h5.drop
      have R5 := Lib.hid r5
      have T5 := Lib.hid t5
      clear h5 H4 r5 t5
      go_wp2_with fail
      refine (Sum_any A5 c5 _ _ w5 T5.out R5.out (by rw [HBL.out]; have := HL.out; unfold maxLen; omega)).mono ?_
      rintro e w6 ⟨rfl, rfl⟩
      rw [← HY.out]
      go_wp2_with fail
      refine (WNumA H5.out (d := 4) rfl (by omega) y HK.out.2.2 (by rw [HBL.out]; have := HL.out; omega)).mono ?_
      rintro e w7 ⟨rfl, h7⟩
      have h7' : St Zf [WrA (w.heap.size + 1) (fbytes k d), BlkA w.heap.size 25 #[.int .i64 (k : Int), .slice A d.length c]] w w7 := by simpa [fbytes, HY.out] using h7
      have H7 := Lib.hid h7'
      clear h7 h7' H5 R5 T5
      go_wp2_with fail
      refine (WBytesA H7.out (by rw [fbytes_len]; have := HL.out; omega)).mono ?_
      rintro e w8 ⟨v8, rfl, h8⟩
      have H8 := Lib.hid h8
      clear h8 H7
      go_wp2_with fail
      go_ret2
      exact ⟨_, rfl, H8.out.swap.drop.swap.drop⟩

end Go.Proofs.YtkdlehekignnhaaDoor
