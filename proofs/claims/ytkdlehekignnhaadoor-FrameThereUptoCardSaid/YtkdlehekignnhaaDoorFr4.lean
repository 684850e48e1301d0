/- frame: each; Split. -/
import Derived.Test.YtkdlehekignnhaaDoorFr3
import Derived.Maps.OwnIn
namespace Go.Proofs.YtkdlehekignnhaaDoor
open Go.RowKit Go.Shelf
set_option linter.unusedVariables false
attribute [local go_sem] Oper.semAt_some

theorem St.addSts {S : Fp} {l l' : List Ass} {w0 w w' : World} (h : St S l w0 w) [Stable (Sep l)] [Stable (Sep l')] (k : St Zf l' w w') : St S (l' ++ l) w0 w' := by
  have hb := k.bel
  obtain ⟨F, h1, ho, hf⟩ := k
  exact (h.add (Q := Sep l') (F := F) hb h1 fun k hk => (hf k hk).elim (fun h => h.elim) id).flat
set_option maxHeartbeats 400000 in
theorem each_any (A : Option Addr) (n c : Nat) (w : World) :
    Calls Tryd.prog 34 #[.slice A n c] w fun e w' => e = .returned (.func (.func 44) #[] #[.pointer (some ⟨w.heap.size, 0, none⟩)]) ∧ w.alloc (.cells #[.slice A n c] 23) = w' := by
  go_enter Tryd.func34, Tryd.ntmps34
  go_wp2_with fail
  go_ret
  exact ⟨rfl, rfl⟩

/-- append(s, x) of one struct that lies in a new block, in a fence -/
theorem wpListIn_append_row1 {F : Fence} {nF : Nat} {P : Program} (w : World) {ops : Array Oper} {rest : List Oper} {o : Oper} {a : Act} {Q : Exit → Act → World → Prop} (hgd : o.guard = none) (s x : Operand) (t : TypeId)
    (ho : o.op = .call { callee := .builtin .append, args := #[s, x], argTypes := #[t, t] })
    (e : TypeId) (i : TypeInfo) (z : Value) (size bytes : Nat) (ht : P.underlying t = some (.slice e)) (hi : P.info? e = some i) (hz : i.zero = some z) (hsize : i.size = size) (hby : i.bytes = bytes) (hzs : z.cells.size = size) (hsz : 0 < size) (hb0 : 0 < bytes)
    (v : Value) (n : Nat) (xs : List Value) (hs : a.eval s = v) (hown : w.ownsRow 0 e size v n xs) (cs : Array Value) (hcs : cs.toList.length = size) (h1 : ∀ u ∈ cs.toList, u.oneCell' = true)
    {N : Nat} (hN : w.heap.size = N) (hx : a.eval x = .slice (some ⟨N, 0, none⟩) 1 1) (hbytes : (n + 1) * bytes ≤ 140737488355328)
    (h : ∀ v' w', w'.ownsRow 0 e size v' (n + 1) (xs ++ cs.toList) → (w.alloc (.cells cs e)).grownBy w' v.ownBlock → (v'.ownBlock = v.ownBlock ∨ v'.ownBlock = some (N + 1)) → wpListIn F nF P ops Q rest (a.put o.dst v') w') :
    wpListIn F nF P ops Q (o :: rest) a (w.alloc (.cells cs e)) := by
  subst hN
  have h64 : n + 1 ≤ (n + 1) * bytes := Nat.le_mul_of_pos_right _ hb0
  refine wpListIn_append_own_at _ hgd s x t ho 0 e i z size bytes ht hi hz hsize hby hzs hsz v n xs hs (hown.alloc _) ⟨w.heap.size, 0, none⟩ 1 1 cs.toList hx (by rw [hcs, Nat.one_mul]) (World.news_of_block (heap_alloc_new w _)) h1 (by simp only [maxLen]; omega) hbytes (Nat.zero_le _) ?_
  intro v' w' h2 h3 _ h5
  exact h v' w' h2 h3 (by simpa using h5)

/-- a frame, and where its data lie -/
structure Fq where
  t : Nat
  d : List Nat
  A : Option Addr
  c : Nat
instance : Inhabited Fq := ⟨⟨0, [], none, 0⟩⟩
def Fq.f (q : Fq) : Nat × List Nat := (q.t, q.d)
def frF (q : Fq) : List Value := [.int .i64 (q.t : Int), .slice q.A q.d.length q.c]
theorem frF_row : RowF frF 2 := ⟨fun _ => rfl, fun x u hu => by
  simp only [frF, List.mem_cons, List.not_mem_nil, or_false] at hu
  rcases hu with rfl | rfl <;> rfl, by decide⟩
def Fq.v (q : Fq) : Value := .slice q.A q.d.length q.c
/-- a frame's data, as a row of its own -/
def datA (q : Fq) : Ass := ObA 5 q.v q.d
instance stableDat {q : Fq} : Stable (datA q) := inferInstanceAs (Stable (ObA _ _ _))
/-- the frames X stand in the list v -/
def FsA (v : Value) (X : List Fq) : Ass := Sep [OwA frF 2 25 v X, Sep (X.map datA)]
instance stableFs {v : Value} {X : List Fq} : Stable (FsA v X) := inferInstanceAs (Stable (Sep _))

theorem frs_len (b : List Nat) : 9 * (frs b).1.length ≤ b.length := by
  induction hn : b.length using Nat.strongRecOn generalizing b with
  | ind n ih =>
    rw [frs]
    split
    · simp
    · split
      · simp
      · have he : firstErr b = 0 := by simpa using ‹¬ firstErr b ≠ 0›
        obtain ⟨h1, -, -⟩ := first_long he
        have h2 := ih (b.drop (9 + frN b)).length (by rw [List.length_drop]; omega) _ rfl
        rw [List.length_drop] at h2
        simp only [List.length_cons]
        omega
theorem evs_bad {b : List Nat} {x : Ev} (h : x ∈ evs b) (he : x.e ≠ 0) : x.e = (frs b).2 := by
  unfold evs at h
  rcases List.mem_append.1 h with h | h
  · obtain ⟨f, _, rfl⟩ := List.mem_map.1 h
    exact absurd rfl he
  · split at h
    · cases h
    · rw [List.mem_singleton.1 h]
/-- all that came is right: that is all -/
theorem evs_good {b : List Nat} (h : ∀ x ∈ evs b, x.e = 0) : (frs b).2 = 0 ∧ evs b = (frs b).1.map (fun f => (⟨f.1, f.2, 0⟩ : Ev)) := by
  have h0 : (frs b).2 = 0 := by
    by_cases h0 : (frs b).2 = 0
    · exact h0
    · exact absurd (h ⟨0, [], (frs b).2⟩ (by unfold evs; rw [if_neg h0]; simp)) h0
  exact ⟨h0, by unfold evs; rw [if_pos h0, List.append_nil]⟩
theorem evs_few {b : List Nat} {l : List Ev} {r : List Ev} (h : evs b = l ++ r) (hl : ∀ x ∈ l, x.e = 0) : 9 * l.length ≤ b.length := by
  have h1 := frs_len b
  have h2 : l.length ≤ (frs b).1.length := by
    by_cases h0 : (frs b).2 = 0
    · have e : evs b = (frs b).1.map (fun f => (⟨f.1, f.2, 0⟩ : Ev)) := by unfold evs; rw [if_pos h0, List.append_nil]
      rw [e] at h
      have := congrArg List.length h
      simp at this
      omega
    · have e : evs b = (frs b).1.map (fun f => (⟨f.1, f.2, 0⟩ : Ev)) ++ [⟨0, [], (frs b).2⟩] := by unfold evs; rw [if_neg h0]
      rcases Nat.lt_or_ge (frs b).1.length l.length with hlt | hge
      · have h3 : l[(frs b).1.length]? = some ⟨0, [], (frs b).2⟩ := by
          have h4 : (evs b)[(frs b).1.length]? = some ⟨0, [], (frs b).2⟩ := by rw [e]; simp
          rw [h, List.getElem?_append_left hlt] at h4
          exact h4
        exact absurd (hl _ (List.mem_of_getElem? h3)) h0
      · exact hge
  omega

theorem fr_info : (Tryd.prog.info? 25).map (fun i => (i.zero.map (·.cells.size), i.size, i.bytes)) = some (some 2, 2, 32) := by kernel_rfl
theorem St.nilFs {S : Fp} {l : List Ass} {w0 w : World} (h : St S l w0 w) : St S (FsA (.slice none 0 0) [] :: l) w0 w :=
  St.pack (l' := [_, _]) ((h.nilSep).nilOw frF 2 25)
/-- one more frame -/
theorem St.snocFs {S : Fp} {l : List Ass} {w0 w w' : World} [Stable (Sep l)] {v v' : Value} {X : List Fq} {q : Fq} (h : St S (FsA v X :: ObA 5 (.slice q.A q.d.length q.c) q.d :: l) w0 w) (o : Obj)
    (ho : w'.ownsRow 0 25 2 v' (X.length + 1) (X.flatMap frF ++ frF q)) (hg : (w.alloc o).grownBy w' v.ownBlock) (ha : v'.ownBlock = v.ownBlock ∨ v'.ownBlock = some (w.heap.size + 1)) : St S (FsA v' (X ++ [q]) :: l) w0 w' := by
  have h1 : St S (OwA frF 2 25 v X :: Sep (X.map datA) :: datA q :: l) w0 w := St.flat h
  have h2 := (h1.alloc o).grewOw (v' := v') (L' := X ++ [q]) (by simpa using ho) hg ha (by simp)
  have h3 := (h2.back2.swap).snocSep.swap
  rw [show X.map datA ++ [datA q] = (X ++ [q]).map datA by simp] at h3
  exact St.pack (l' := [_, _]) h3

theorem run_loadVar_cell {P : Program} (w : World) (ty : TypeId) (d : TypeDesc) (a : Addr) (u : Value) (hu : P.underlying ty = some d) (hd : (match d with | .struct _ | .array _ _ => true | _ => false) = false) (hc : w.cell? a = some u) :
    (loadVar ty a).run P w = .ok u w := by
  have hag : (isAgg ty).run P w = .ok false w := by
    cases d <;> simp_all [isAgg, Sem.run_bind, run_underlying hu, Result.andThen]
  simp [loadVar, Sem.run_bind, hag, Result.andThen, go_sem, hc]
theorem results_cells2 {P : Program} {fn : Func} {p q : Tmp} {ty ty' : TypeId} (h : fn.results = #[.cell p ty, .cell q ty']) (tmps : Array Value) (w : World) {g g' : Nat} {u v : Value} (d d' : TypeDesc)
    (hu : P.underlying ty = some d) (hd : (match d with | .struct _ | .array _ _ => true | _ => false) = false) (hu' : P.underlying ty' = some d') (hd' : (match d' with | .struct _ | .array _ _ => true | _ => false) = false)
    (hp : tmps.getD p undef = .pointer (some ⟨g, 0, none⟩)) (hq : tmps.getD q undef = .pointer (some ⟨g', 0, none⟩)) (h1 : w.cell? ⟨g, 0, none⟩ = some u) (h2 : w.cell? ⟨g', 0, none⟩ = some v) :
    (results fn tmps).run P w = .ok (.tuple #[u, v]) w := by
  have e1 := run_loadVar_cell w ty d ⟨g, 0, none⟩ u hu hd h1
  have e2 := run_loadVar_cell w ty' d' ⟨g', 0, none⟩ v hu' hd' h2
  simp only [results, h]
  simp only [Array.getD_eq_getD_getElem?] at hp hq
  simp [Sem.run_bind, Result.andThen, hp, hq, asAddr, e1, e2]

/-- what Split leaves -/
def SplitW (b : List Nat) (w : World) (e : Ending) (w' : World) : Prop :=
  ∃ v X, e = .returned (.tuple #[v, .int .i64 (frs b).2]) ∧ St Zf [FsA v X] w w' ∧ X.map Fq.f = if (frs b).2 = 0 then (frs b).1 else []
/-- the loop's objects in Split -/
def splL (w w1 : World) (A : Option Addr) (n c : Nat) (i : Value × List Fq) : List Ass :=
  [BlkA (w.heap.size + 1 + 1) 35 #[i.1], FsA i.1 i.2, BlkA w.heap.size 35 #[.slice none 0 0], BlkA (w.heap.size + 1) 27 #[.int .i64 0], BlkA (w.heap.size + 1 + 1 + 1) 23 #[.slice A n c]]
instance stableSpl {w w1 : World} {A : Option Addr} {n c : Nat} {i : Value × List Fq} : Stable (Sep (splL w w1 A n c i)) := by
  unfold splL
  infer_instance
def splF (b : List Nat) (pre : List Fx) (i : Value × List Fq) : Prop :=
  i.2.map Fq.f = pre.map (fun x => (x.v.t, x.v.d)) ∧ (∀ x ∈ pre, x.v.e = 0) ∧ ∃ r, evs b = pre.map Fx.v ++ r
set_option maxRecDepth 100000 in
set_option maxHeartbeats 1000000 in
theorem Split_any (A : Option Addr) (c B : Nat) (b : List Nat) (w : World) (hT : TabW w) (hr : RB w B A b) (hB : B ≤ w.heap.size) (hl : b.length ≤ c) (hc : c ≤ maxLen) (hbm : b.length ≤ 1099511627776) :
    Calls Tryd.prog 17 #[.slice A b.length c] w (SplitW b w) := by
  have hS := ((((St.start Zf w).newBlk 35 #[.slice none 0 0]).newBlk 27 #[.int .i64 0]).newBlk 35 #[.slice none 0 0]).newBlk 23 #[.slice A b.length c]
  refine (callsIn_wide (n := 10)).1 ?_
  refine callsIn_of_wp_marks Tryd.func17 rfl trivial ?_ rfl
  simp only [Tryd.ntmps17, List.size_toArray, List.length_cons, List.length_nil, Nat.reduceAdd, Nat.reduceSub, Array.replicate_succ, Array.replicate_zero, List.push_toArray, List.append_toArray, List.nil_append, List.cons_append]
  gi_wp2_with fail
  refine ⟨trivial, (callsIn_wide.2 (each_any _ _ _ _)).mono ?_⟩
  rintro e w1 ⟨rfl, hw1⟩
  simp only [World.size_alloc] at hS hw1 ⊢
  rw [hw1] at hS
  clear hw1
  have HS := Lib.hid hS
  have HT := Lib.hid hT
  have HR := Lib.hid hr
  have HL := Lib.hid (⟨hl, hc, hbm, hB⟩ : b.length ≤ c ∧ c ≤ maxLen ∧ b.length ≤ 1099511627776 ∧ B ≤ w.heap.size)
  clear hS hT hr hB hl hc hbm
  gi_wp2_with fail
  have hEA : ∀ o pre V, (∃ i, splF b pre i ∧ St Zf (RecA (w1.heap.size + 1) w1.heap.size o :: splL w w1 A b.length c i) w V) → EachA (w.heap.size + 1 + 1 + 1) B A c b V := by
    rintro o pre V ⟨i, -, h⟩
    have hb := h.bel
    obtain ⟨h1, h2, h3, h4⟩ := HL.out
    have hbk : Blk V (w.heap.size + 1 + 1 + 1) 23 #[.slice A b.length c] := h.drop.drop.drop.drop.drop.blk
    exact ⟨by rw [hbk.cell 0]; rfl, HR.out.below' hb h4, HT.out.below hb HT.out.1, hbk.lt, by have := hb.size; omega⟩
  refine wpIn_rangeW rfl (gf := 44) (lb := #[.pointer (some ⟨w.heap.size + 1 + 1 + 1, 0, none⟩)]) rfl (enters_of Tryd.func44 (by kernel_rfl) rfl) (encs := Fx.enc) (fun _ => rfl)
    (each1_seq (w.heap.size + 1 + 1 + 1) B A c b HL.out.1 HL.out.2.1)
    (fun o pre W => ∃ i, splF b pre i ∧ St Zf (RecA (w1.heap.size + 1) w1.heap.size o :: splL w w1 A b.length c i) w W)
    (fun o pre x W => ∃ i : Value × List Fq, (splF b pre i ∧ (∃ r, evs b = pre.map Fx.v ++ x.v :: r) ∧ x.v.d.length ≤ 1048576) ∧
      St Zf (RecA (w1.heap.size + 1) w1.heap.size o :: BlkA x.g 25 x.cells :: ObA 5 (.slice x.A x.v.d.length x.c) x.v.d :: splL w w1 A b.length c i) w W)
    (fun o pre x a W => ∃ i : (Value × List Fq) × Nat, (splF b pre i.1 ∧ (∃ r, evs b = pre.map Fx.v ++ x.v :: r) ∧ x.v.d.length ≤ 1048576 ∧
        a = { tmps := #[.slice A b.length c, undef, .pointer (some ⟨w.heap.size, 0, none⟩), .pointer (some ⟨w.heap.size + 1, 0, none⟩), .pointer (some ⟨w.heap.size + 1 + 1, 0, none⟩), .pointer (some ⟨i.2, 0, none⟩), .int .i64 x.v.e, .slice A b.length c,
          .func (.func 44) #[] #[.pointer (some ⟨w.heap.size + 1 + 1 + 1, 0, none⟩)], fragg x.v.t x.A x.v.d.length x.c, .int .i64 x.v.e, undef, undef, undef, undef, undef, undef, undef, undef], defers := [] }) ∧
      St Zf (RecA (w1.heap.size + 1) w1.heap.size o :: BlkA i.2 25 x.cells :: BlkA x.g 25 x.cells :: ObA 5 (.slice x.A x.v.d.length x.c) x.v.d :: splL w w1 A b.length c i.1) w W)
    (fun cd o pre W => ∃ e : Int, (cd = .ret ∧ e ≠ 0 ∧ e = (frs b).2) ∧ St Zf [RecA (w1.heap.size + 1) w1.heap.size o, BlkA w.heap.size 35 #[.slice none 0 0], BlkA (w.heap.size + 1) 27 #[.int .i64 e]] w W)
    (fun o pre x W => ∃ i : Value × List Fq, splF b (pre ++ [x]) i ∧ St Zf (RecA (w1.heap.size + 1) w1.heap.size o :: BlkA x.g 25 x.cells :: splL w w1 A b.length c i) w W)
    (fun o xs W => ∃ i : Value × List Fq, (i.2.map Fq.f = (frs b).1 ∧ (frs b).2 = 0) ∧ St Zf (RecA (w1.heap.size + 1) w1.heap.size o :: splL w w1 A b.length c i) w W)
    ?bI ?bM ?bN ?bX ?bR ?bZ hEA ?hY ?hR ?hT ?h0 ?assign ?body ?done ?stop
  case hY =>
    rintro o pre x V V1 ⟨i, hf, h⟩ ⟨h1, h2, h3⟩
    exact ⟨i, ⟨hf, h2, h3⟩, ((h.addSts h1).bring2)⟩
  case bI => exact fun pre => bears_ex
  case bM => exact fun pre x => bears_ex
  case bN => exact fun pre x a => bears_ex (g := fun i : (Value × List Fq) × Nat => BlkA i.2 25 x.cells :: BlkA x.g 25 x.cells :: ObA 5 (.slice x.A x.v.d.length x.c) x.v.d :: splL w w1 A b.length c i.1)
  case bX => exact fun c pre => bears_ex
  case bR => exact fun pre x => bears_ex
  case bZ => exact fun pre => bears_ex
  case hR =>
    rintro o pre x V ⟨i, hf, h⟩
    exact ⟨⟨i, hf, h.swap.drop⟩, h.swap.blk⟩
  case hT =>
    rintro o xs V ⟨i, ⟨h1, h2, h3⟩, h⟩ (ht : xs.map Fx.v = evs b)
    obtain ⟨h4, h5⟩ := evs_good (b := b) (by
      rw [← ht]
      intro y hy
      obtain ⟨x, hx, rfl⟩ := List.mem_map.1 hy
      exact h2 x hx)
    refine ⟨i, ⟨?_, h4⟩, h⟩
    rw [h1, ← ht] at *
    have h6 := congrArg (List.map fun e : Ev => (e.t, e.d)) h5
    rw [List.map_map, List.map_map] at h6
    rw [h1]
    simpa [Function.comp_def] using h6
  case h0 =>
    intro o
    refine ⟨(.slice none 0 0, []), ⟨rfl, fun x hx => (by cases hx), ⟨_, rfl⟩⟩, ?_⟩
    exact (((HS.out.bring2.bring3.bring3).nilFs).swap).recNew o
  case assign =>
    rintro o pre x W ⟨i, ⟨hf, hx, hd⟩, h⟩
    have HH := Lib.hid h
    clear h
    simp only [Fx.enc, fragg]
    gi_wp2
    exact ⟨(i, W.heap.size), ⟨hf, hx, hd, rfl⟩, (HH.out.newBlk 25 x.cells).swap⟩
  case body =>
    rintro o pre x a W ⟨⟨⟨v, X⟩, gf⟩, ⟨⟨hf1, hf2, r0, hf3⟩, ⟨r, hr⟩, hd, rfl⟩, h⟩
    have HH := Lib.hid h
    have hg2 : Blk W w.heap.size 35 #[.slice none 0 0] := h.drop.drop.drop.drop.drop.drop.blk
    have hg3 : Blk W (w.heap.size + 1) 27 #[.int .i64 0] := h.drop.drop.drop.drop.drop.drop.drop.blk
    have hg4 : Blk W (w.heap.size + 1 + 1) 35 #[v] := h.drop.drop.drop.drop.blk
    have hgf := (h.drop).blk
    have c2 : W.cell? ⟨w.heap.size, 0, none⟩ = some (.slice none 0 0) := by rw [hg2.cell 0]; rfl
    have c3 : W.cell? ⟨w.heap.size + 1, 0, none⟩ = some (.int .i64 0) := by rw [hg3.cell 0]; rfl
    have c4 : W.cell? ⟨w.heap.size + 1 + 1, 0, none⟩ = some v := by rw [hg4.cell 0]; rfl
    have f2 := hg2.frozen 0
    have f3 := hg3.frozen 0
    have f4 := hg4.frozen 0
    by_cases he : x.v.e = 0
    · have hd0 := (cells2 h.drop).1
      have hd1 := (cells2 h.drop).2
      have hq : X.length * 9 ≤ b.length := by
        have h1 := evs_few (b := b) hf3 (by
          intro y hy
          obtain ⟨x, hx, rfl⟩ := List.mem_map.1 hy
          exact hf2 x hx)
        have h2 := congrArg List.length hf1
        simp at h1 h2
        omega
      have hq2 : (X.length + 1) * 32 ≤ 140737488355328 := by have := HL.out.2.2.1; omega
      obtain ⟨i0, z0, hi0, hz0, hz1, hz2, hz3⟩ := row_info fr_info
      have hfs : St Zf (FsA v X :: ObA 5 (.slice x.A x.v.d.length x.c) x.v.d :: _) w W := HH.out.swap.drop.bring2.bring4
      have hrow : W.ownsRow 0 25 2 v X.length (X.flatMap frF) := (St.flat hfs).ow
      have HFS := Lib.hid hfs
      have HPR : Hid (∀ u, splF b (pre ++ [x]) (u, X ++ [⟨x.v.t, x.v.d, x.A, x.c⟩])) := Lib.hid (by
        refine fun u => ⟨?_, ?_, ⟨r, ?_⟩⟩
        · show (X ++ [_]).map Fq.f = _
          rw [List.map_append, List.map_append, hf1]
          rfl
        · intro y hy
          rcases List.mem_append.1 hy with hy | hy
          · exact hf2 y hy
          · rw [List.mem_singleton.1 hy]
            exact he
        · rw [hr, List.map_append, List.append_assoc]
          rfl)
      have HROW := Lib.hid hrow
      clear h hg2 hg3 hg4 hgf hfs hq hf1 hf2 hf3 hr hd hrow
      gi_wp2_with (gi_at_builtin; refine wpListIn_append_row1 W rfl _ _ 35 rfl 25 i0 z0 2 32 Tryd.underlying35 hi0 hz0 hz1 hz2 hz3 (by decide) (by decide) v X.length _ rfl HROW.out #[.int .i64 (x.v.t : Int), .slice x.A x.v.d.length x.c] rfl (frF_row.one ⟨x.v.t, x.v.d, x.A, x.c⟩) rfl rfl hq2 ?_; intro v' w' ho hg ha; obtain ⟨g', cp', rfl⟩ := ownsRow_succ ho; have hs := HFS.out.snocFs (q := ⟨x.v.t, x.v.d, x.A, x.c⟩) _ ho hg ha; have hb4 := hs.bring3.blk; have k4 : w'.cell? ⟨w.heap.size + 1 + 1, 0, none⟩ = some v := (by rw [hb4.cell 0]; rfl); have l4 := hb4.frozen 0; have HS2 := Lib.hid hs; clear hs hb4 ho hg ha)
      have h9 := (HS2.out.bring3.setBlk 0 (.slice (some ⟨g', 0, none⟩) (X.length + 1) cp')).bring3.bring3
      exact ⟨.slice (some ⟨g', 0, none⟩) (X.length + 1) cp', X ++ [(⟨x.v.t, x.v.d, x.A, x.c⟩ : Fq)], HPR.out _, h9⟩
    · clear h hg2 hg3 hg4 hgf
      have hbad := evs_bad (x := x.v) (by rw [hr]; simp) he
      gi_wp2
      have h1 := HH.out.swap.drop.swap.drop.swap.drop.swap.drop.swap.drop.bring3.drop.swap
      have h2 := ((h1.setBlk 0 (.slice none 0 0)).bring2.setBlk 0 (.int .i64 (frs b).2)).bring2.bring2.swap
      exact ⟨(frs b).2, ⟨rfl, hbad ▸ he, rfl⟩, h2⟩
  case done =>
    rintro o xs W ⟨⟨v, X⟩, ⟨hx, he⟩, h⟩
    have hg2 : Blk W w.heap.size 35 #[.slice none 0 0] := h.drop.drop.drop.blk
    have hg3 : Blk W (w.heap.size + 1) 27 #[.int .i64 0] := h.drop.drop.drop.drop.blk
    have hg4 : Blk W (w.heap.size + 1 + 1) 35 #[v] := h.drop.blk
    have c2 : W.cell? ⟨w.heap.size, 0, none⟩ = some (.slice none 0 0) := by rw [hg2.cell 0]; rfl
    have c3 : W.cell? ⟨w.heap.size + 1, 0, none⟩ = some (.int .i64 0) := by rw [hg3.cell 0]; rfl
    have c4 : W.cell? ⟨w.heap.size + 1 + 1, 0, none⟩ = some v := by rw [hg4.cell 0]; rfl
    have f2 := hg2.frozen 0
    have f3 := hg3.frozen 0
    have h2 := ((h.bring3.setBlk 0 v).bring4.setBlk 0 (.int .i64 0)).bring2
    obtain ⟨A0, cp, hv, -⟩ := (St.flat h.drop.drop).owForm
    have hv' : v = .slice A0 X.length cp := hv
    have HE := Lib.hid h2
    have HV := Lib.hid hv'
    have HX := Lib.hid hx
    have HE0 := Lib.hid he
    subst hv'
    clear h hg2 hg3 hg4 h2 hv hx he
    gi_wp2
    refine ⟨by simp, .inl ⟨_, _, rfl, run_takeDeferred HE.out.recAt.2.1, ?_⟩⟩
    have h3 := HE.out.recEnd (.deferred none)
    have k3 := (h3.blk).cell 0
    have k2 := (h3.drop.blk).cell 0
    refine ⟨.tuple #[.slice A0 X.length cp, .int .i64 0], ?_, ?_⟩
    · exact results_cells2 rfl _ _ _ _ Tryd.underlying35 rfl Tryd.underlying27 rfl (by rfl) (by rfl) k2 k3
    · refine ⟨.slice A0 X.length cp, X, by rw [HE0.out], h3.drop.drop.drop.swap.drop, ?_⟩
      rw [if_pos HE0.out]
      exact HX.out
  case stop =>
    rintro o cd pre W _ ⟨e, ⟨rfl, he, hee⟩, h⟩
    have HE := Lib.hid h
    have HE0 := Lib.hid he
    have HEE := Lib.hid hee
    clear h he hee
    gi_wp2
    refine ⟨by simp, .inl ⟨_, _, rfl, run_takeDeferred HE.out.recAt.2.1, ?_⟩⟩
    have h3 := HE.out.recEnd (.deferred none)
    have k2 := (h3.blk).cell 0
    have k3 := (h3.drop.blk).cell 0
    refine ⟨.tuple #[.slice none 0 0, .int .i64 e], ?_, ?_⟩
    · exact results_cells2 rfl _ _ _ _ Tryd.underlying35 rfl Tryd.underlying27 rfl (by rfl) (by rfl) k2 k3
    · refine ⟨.slice none 0 0, [], by rw [HEE.out], h3.drop.drop.nilFs, ?_⟩
      rw [if_neg (by rw [← HEE.out]; exact HE0.out)]
      rfl

end Go.Proofs.YtkdlehekignnhaaDoor
