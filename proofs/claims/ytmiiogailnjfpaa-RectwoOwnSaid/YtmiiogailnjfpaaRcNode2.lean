/- PutNode and GetNode of the program. -/
import Derived.Test.YtmiiogailnjfpaaRcNode
import Derived.Deep.RegionHeld3
namespace Go.Proofs.Ytmiiogailnjfpaa
open Go.RowKit
set_option linter.unusedVariables false

def Cs.bytes (s : Cs) : List Nat := match s with
  | .w bs => bs
  | .r _ _ => []
section
variable {l : List Ass} {w0 w w' : World} {c : Nat} {s : Cs} {wb : Bool}
theorem bytes_co (h : St Zf (CoA c s wb :: l) w0 w) (hi : s.isw = true) (hs : s.len ≤ 140737488355328) : ∃ g, w.cell? ⟨c, 0, none⟩ = some (.pointer (some ⟨g, 0, none⟩)) ∧ Calls Try.prog 54 #[.pointer (some ⟨g, 0, none⟩)] w (NewB s.bytes w) := by
  cases s with
  | w bs =>
    obtain ⟨g, h⟩ := co_openW h
    obtain ⟨c0, c1, c2⟩ := cells3 h
    obtain ⟨F, v, hw, -⟩ := h.swap.head
    simp only [Cs.len] at hs
    exact ⟨g, c0, Bytes_any 0 g v bs w hw (by omega)⟩
  | r bs err => cases hi
theorem St.addSt {S : Fp} {P : Ass} (h : St S l w0 w) [Stable (Sep l)] (k : St Zf [P] w w') : St S (P :: l) w0 w' := by
  have hb := k.bel
  obtain ⟨F, ⟨G, H, h1, h2, h3, rfl⟩, ho, hf⟩ := k
  exact h.add (F := G) hb h1 fun k hk => (hf k (.inl hk)).elim (fun h => h.elim) id
/-- a store of a whole row -/
theorem St.setRow {S : Fp} [Stable (Sep l)] {g : Nat} {t : TypeId} {cs : Array Value} (h : St S (BlkA g t cs :: l) w0 w) (cs' : Array Value) : St S (BlkA g t cs' :: l) w0 (w.setRow g cs') := by
  obtain ⟨F, ⟨hb, rfl⟩, k⟩ := h.turn
  exact k _ _ ⟨_, ⟨setRow_heap w g cs cs' t (0, 0) hb, rfl⟩, ⟨rfl, rfl, rfl, by simp [World.setRow], fun k _ hk => setRow_other w g k _ hk⟩, fun i hi => .inl hi⟩
/-- a new Coder that writes -/
theorem St.newCoW (h : St Zf l w0 w) [Stable (Sep l)] : St Zf (CoA (w.heap.size + 1) (.w []) false :: l) w0 ((w.alloc (.cells #[.slice none 0 0] 124)).alloc (.cells #[.pointer (some ⟨w.heap.size, 0, none⟩), .pointer none, .bool false] 103)) := by
  have h1 : St Zf (WrA w.heap.size [] :: l) w0 (w.alloc (.cells #[.slice none 0 0] 124)) := by
    refine h.add (F := wfp w.heap.size (.slice none 0 0)) ((Below.refl _ _).alloc (Nat.le_refl _) _) ⟨.slice none 0 0, ⟨Blk.new _ _ _, Nat.zero_le _, OB.nil _ _ _⟩, rfl⟩ ?_
    rintro k (rfl | hk)
    · exact Nat.le_refl _
    · cases hk
  have h2 := h1.newBlk 103 #[.pointer (some ⟨w.heap.size, 0, none⟩), .pointer none, .bool false]
  have e : (w.alloc (.cells #[.slice none 0 0] 124)).heap.size = w.heap.size + 1 := by simp
  rw [e] at h2
  exact co_shutW h2
theorem cs_w (s : Cs) (h : s.isw = true) : ∃ bs, s = .w bs := by
  cases s
  · exact ⟨_, rfl⟩
  · cases h
end

/-- what PutNode finds -/
def putNQ (r p : Int) (L : List Int) : Cs × Bool := nodeQ (.w [], false) r p L
def putNE (r p : Int) (L : List Int) : Int := (putNQ r p L).1.endE (putNQ r p L).2
theorem nodeQ_isw (q : Cs × Bool) (r p : Int) (L : List Int) : (nodeQ q r p L).1.isw = q.1.isw := by unfold nodeQ nodeQ2 nodeQ1; rw [labS_isw, fld_isw, fld_isw]
theorem nodeQ_len (q : Cs × Bool) (r p : Int) (L : List Int) : (nodeQ q r p L).1.len ≤ q.1.len + 80 := by
  unfold nodeQ nodeQ2 nodeQ1
  have l1 := fld_len q 4 (-1) 2048 r
  have l2 := fld_len (fld q 4 (-1) 2048 r) 4 (-1) 65536 p
  have l3 := labS_len (fld (fld q 4 (-1) 2048 r) 4 (-1) 65536 p).1 (pl8 L) 8
  simp only
  omega

/-- what GetNode finds -/
def getNQ (bs : List Nat) : Cs × Bool := nodeQ (.r bs 0, false) 0 0 []
def getNE (bs : List Nat) : Int := (getNQ bs).1.endE (getNQ bs).2
def getNR (bs : List Nat) : Int := nodeR (.r bs 0, false) 0
def getNP (bs : List Nat) : Int := nodeP (.r bs 0, false) 0 0
def getNPl (bs : List Nat) : List Int := nodePl (.r bs 0, false) 0 0 []
def NodeRead (bs : List Nat) (w : World) (e : Ending) (w' : World) : Prop :=
  ∃ g, e = .returned (.tuple #[if getNE bs = 0 then .agg #[.int .i64 (getNR bs), .int .i64 (getNP bs), .slice (some ⟨g, 0, none⟩) (cutLen (getNPl bs) 8) 8] else .agg #[.int .i64 0, .int .i64 0, .slice none 0 0], .int .i64 (getNE bs)]) ∧ St Zf [BlkA g 3 (icells (getNPl bs))] w w'

end Go.Proofs.Ytmiiogailnjfpaa
