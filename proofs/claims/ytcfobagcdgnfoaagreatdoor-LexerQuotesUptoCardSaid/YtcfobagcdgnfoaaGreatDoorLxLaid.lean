/- lexer: what the listed variables hold: the library's tables and errors, the marks; a world in which they hold it. -/
import Derived.Test.YtcfobagcdgnfoaaGreatDoorRows
import Derived.Test.YtcfobagcdgnfoaaGreatDoorCards
import Derived.Test.YtcfobagcdgnfoaaGreatDoorTie
import Derived.Test.YtcfobagcdgnfoaaGreatDoorLxC
import Derived.Test.YtcfobagcdgnfoaaGreatDoorOpen
import Derived.LaidLaws
import Derived.Stop.LaidErr
import Derived.Deep.DeepLaidRun
import Derived.Deep.DeepHandedRow
import Derived.Lib.LaidTab
import Derived.Shelf.Vars
import Derived.KernelRfl
namespace Go.Proofs.YtcfobagcdgnfoaaGreatDoor
open Go.ChangeShapes Go.WideShapes Go.ChangeAt Go.RowKit
set_option linter.unusedVariables false

theorem mw_of {W : World} (h : W.ShapedOpen Tryz.prog) : MW W :=
  cell_of_shapedOpen_int (P := Tryz.prog) (g := 1) (t := 3) (zero := #[.int .i64 0]) h (of_decide_eq_true (by kernel_rfl)) (by kernel_rfl) rfl (by kernel_rfl) (by kernel_rfl) Tryz.underlying3
theorem gnDe : Tryz.prog.globalNamed "math/bits.deBruijn64tab" = some 6 := by kernel_rfl
theorem gtDe : (Tryz.prog.globals[6]?).map (·.type) = some 153 := by kernel_rfl
theorem gtPow : (Tryz.prog.globals[4]?).map (·.type) = some 148 := by kernel_rfl
theorem gtEs : (Tryz.prog.globals[2]?).map (·.type) = some 54 := by kernel_rfl
theorem gtEr : (Tryz.prog.globals[3]?).map (·.type) = some 54 := by kernel_rfl
theorem ceU8 : Tryz.prog.cellsOf 5 = 1 := by kernel_rfl
theorem ceU64 : Tryz.prog.cellsOf 69 = 1 := by kernel_rfl
theorem ceStr : Tryz.prog.cellsOf 9 = 1 := by kernel_rfl
theorem ceEs : Tryz.prog.cellsOf 137 = 1 := by kernel_rfl
theorem ceDe : Tryz.prog.cellsOf 153 = 64 := by kernel_rfl
theorem cePow : Tryz.prog.cellsOf 148 = 20 := by kernel_rfl
theorem errStar : "*" ++ "errors.errorString" = "*errors.errorString" := by decide
theorem errRow (u : TypeId) (h : Tryz.prog.typeName? 3 u = some "*errors.errorString") : u = 135 :=
  typeName_ptr_named (nm := "errors.errorString") (by rw [errStar]; kernel_rfl) (by kernel_rfl) (by decide) u (by rw [errStar]; exact h)

theorem tabs_of {W : World} (hL : laidMetH Tryz.prog Rows.lexerNamesRow.laid W) : Tabs W := by
  have h0 : laidMet Tryz.prog Rows.lexerNamesRow.laid W := hL
  have h1 := laidMet.tail (h0 : laidMet Tryz.prog (_ :: _) W)
  have h2 := laidMet.tail h1
  have h3 := laidMet.tail h2
  have h4 := laidMet.tail h3
  have h5 := laidMet.tail h4
  refine ⟨?_, ?_, ?_, ?_⟩
  · exact Lib.tabIs_of_head gnPow gtPow Tryz.underlying148 Tryz.underlying69 ceU64 cePow h2
  · have := (Lib.tabIs_of_head (k := .u8) (zs := [0, 1, 56, 2, 57, 49, 28, 3, 61, 58, 42, 50, 38, 29, 17, 4, 62, 47, 59, 36, 45, 43, 51, 22, 53, 39, 33, 30, 24, 18, 12, 5, 63, 55, 48, 27, 60, 41, 37, 16, 46, 35, 44, 21, 52, 32, 23, 11, 54, 26, 40, 15, 34, 20, 31, 10, 25, 14, 19, 9, 13, 8, 7, 6])
      gnDe gtDe Tryz.underlying153 Tryz.underlying5 ceU8 ceDe h1).cell gnDe 15 (by decide)
    exact this
  · obtain ⟨a, s, h, _⟩ := laid_sentinel (te := 137) (ts := 9) h5 gnEs gtEs Tryz.underlying54 errRow Tryz.underlying135 Tryz.underlying137 rfl rfl Tryz.underlying9 ceEs ceStr
    exact ⟨_, _, h⟩
  · obtain ⟨a, s, h, _⟩ := laid_sentinel (te := 137) (ts := 9) h4 gnEr gtEr Tryz.underlying54 errRow Tryz.underlying135 Tryz.underlying137 rfl rfl Tryz.underlying9 ceEs ceStr
    exact ⟨_, _, h⟩


/-- an array of strings that reads as the table holds the table's strings -/
theorem cells_of_strs {H : Type} {enc : TypeId × Value → H} {P : Program} {w : World} {base : Nat} {sp : Nat → Bool} {held : Bool} {fuel : Nat} {t e : TypeId} {n : Nat} {cs : List Value} {zs : List (List UInt8)} {p : List MemPlace}
    (ht : P.underlying t = some (.array n e)) (he : P.underlying e = some .string) (hce : P.cellsOf e = 1) (hct : P.cellsOf t = n)
    (h : DataW.trod enc P w base sp held fuel t cs = some (.agg (zs.map fun z => .lit (.string z)), p)) : cs = zs.map fun z => Value.string (mkS z) := by
  cases fuel with
  | zero => simp [DataW.trod] at h
  | succ fuel =>
    simp only [DataW.trod, ht, hce, hct, Nat.mul_one] at h
    split at h
    · rename_i hl
      obtain ⟨xs, hm, hx⟩ := Option.map_eq_some_iff.1 h
      have hxs : xs.map (·.1) = zs.map fun z => (DataW.lit (.string z) : DataW H) := by
        have := congrArg Prod.fst hx
        simpa using this
      have hxl : xs.length = n := by simpa using Lib.mapM_length hm
      have hzl : zs.length = n := by
        have := congrArg List.length hxs
        simp at this
        omega
      apply List.ext_getElem?
      intro i
      by_cases hi : i < n
      · obtain ⟨b, hb, hf⟩ := Lib.mapM_at hm i i (by simp [hi])
        obtain ⟨s, hc, rfl, _⟩ := DataW.trod_string he hf
        have h1 : cs[i]? = some (.string s) := by
          have := congrArg (·[0]?) hc
          simpa [List.getElem?_take, List.getElem?_drop] using this
        have h2 : (xs.map (·.1))[i]? = some (DataW.lit (.string s.data.toList) : DataW H) := by simp [hb]
        rw [hxs] at h2
        simp only [List.getElem?_map, Option.map_eq_some_iff, DataW.lit.injEq, Lit.string.injEq] at h2
        obtain ⟨z', hz', rfl⟩ := h2
        have h3 : mkS s.data.toList = s := mk_lS s
        simp [h1, hz', h3]
      · rw [List.getElem?_eq_none (by omega), List.getElem?_eq_none (by simp; omega)]
    · cases h
theorem gnMk : Tryz.prog.globalNamed "satchel/lexer.marks" = some 0 := by kernel_rfl
theorem gtMk : (Tryz.prog.globals[0]?).map (·.type) = some 82 := by kernel_rfl
theorem ceMk : Tryz.prog.cellsOf 82 = 11 := by kernel_rfl
theorem marks_of {W : World} {rest : List (String × DataW Unit)} (h : laidMet Tryz.prog (("satchel/lexer.marks", Rows.laid_satchel_lexer_marks) :: rest) W) : MarkT W := by
  obtain ⟨ps, ⟨g', t', cs, fuel, p, q, hg', ht', hvar, hd, _, _⟩, _⟩ := h
  obtain rfl := Option.some.inj (gnMk.symm.trans hg')
  obtain rfl := Option.some.inj (gtMk.symm.trans ht')
  have hcs := cells_of_strs (zs := markL) Tryz.underlying82 Tryz.underlying9 ceStr ceMk hd
  intro k h1
  have h3 := World.var?_cell gnMk hvar k
  rw [← Array.getElem?_toList, hcs] at h3
  rcases (show k = 0 ∨ k = 1 ∨ k = 2 ∨ k = 3 ∨ k = 4 ∨ k = 5 ∨ k = 6 ∨ k = 7 ∨ k = 8 ∨ k = 9 ∨ k = 10 by omega) with rfl | rfl | rfl | rfl | rfl | rfl | rfl | rfl | rfl | rfl | rfl <;> exact h3
theorem lxw_of {W : World} (hL : laidMetH Tryz.prog Rows.lexerNamesRow.laid W) (hS : W.ShapedOpen Tryz.prog) : LxW W := by
  refine ⟨tabs_of hL, mw_of hS, ?_⟩
  have h0 : laidMet Tryz.prog Rows.lexerNamesRow.laid W := hL
  exact marks_of (laidMet.tail (laidMet.tail (laidMet.tail (laidMet.tail (laidMet.tail (laidMet.tail (h0 : laidMet Tryz.prog (_ :: _) W)))))))

/-- the cells of a table that is laid -/
def rowCells : DataW Unit → Array Value
  | .agg l => (l.map fun d => match d with
    | .lit (.int k n) => [Value.int k n]
    | .lit (.string l) => [Value.string ⟨l.toArray⟩]
    | .agg m => m.map fun d => match d with
      | .lit (.int k n) => Value.int k n
      | _ => Value.int .u8 0
    | _ => []).flatten.toArray
  | _ => #[]
def setRow (h : Array Obj) (g : Nat) (cs : Array Value) : Array Obj := h.modify g fun | .cells _ t frozen => .cells cs t frozen | o => o
/-- a world for the witness: the settled one, the tables and errors holding what their initialisers lay -/
noncomputable def heap0 (os : Os) : Array Obj := (World.holding Tryz.prog os ⟨#[], #[], []⟩).heap
noncomputable def heap1 (os : Os) : Array Obj := setRow (heap0 os) 5 (rowCells Rows.laid_math_bits_deBruijn32tab)
noncomputable def heap2 (os : Os) : Array Obj := setRow (heap1 os) 6 (rowCells Rows.laid_math_bits_deBruijn64tab)
noncomputable def heap3 (os : Os) : Array Obj := setRow (heap2 os) 4 (rowCells Rows.laid_internal_strconv_uint64pow10)
noncomputable def heap4 (os : Os) : Array Obj := setRow (heap3 os) 8 (rowCells Rows.laid_unicode_utf8_acceptRanges)
noncomputable def heap5 (os : Os) : Array Obj := setRow (heap4 os) 7 (rowCells Rows.laid_unicode_utf8_first)
noncomputable def heapB (os : Os) : Array Obj := setRow (heap5 os) 0 (rowCells Rows.laid_satchel_lexer_marks)
noncomputable def heap6 (os : Os) : Array Obj := setRow (heapB os) 3 #[.iface 135 (.pointer (some ⟨(heap0 os).size, 0, none⟩))]
noncomputable def heap7 (os : Os) : Array Obj := setRow (heap6 os) 2 #[.iface 135 (.pointer (some ⟨(heap0 os).size + 1, 0, none⟩))]
noncomputable def heap8 (os : Os) : Array Obj := (heap7 os).push (.cells #[.string ⟨#[118, 97, 108, 117, 101, 32, 111, 117, 116, 32, 111, 102, 32, 114, 97, 110, 103, 101]⟩] 137 (0, 0))
noncomputable def heap9 (os : Os) : Array Obj := (heap8 os).push (.cells #[.string ⟨#[105, 110, 118, 97, 108, 105, 100, 32, 115, 121, 110, 116, 97, 120]⟩] 137 (0, 0))
noncomputable def laidWorld (os : Os) : World := { World.holding Tryz.prog os ⟨#[], #[], []⟩ with heap := heap9 os }
set_option maxRecDepth 100000 in
theorem laid_met0 (os : Os) : laidMet Tryz.prog Rows.lexerNamesRow.laid ((laidWorld os).forCall (fun _ _ => 0) ⟨#[], #[], []⟩).memory :=
  laidMet_of_run3 8 (by kernel_rfl) (by kernel_rfl) (by kernel_rfl)
end Go.Proofs.YtcfobagcdgnfoaaGreatDoor
