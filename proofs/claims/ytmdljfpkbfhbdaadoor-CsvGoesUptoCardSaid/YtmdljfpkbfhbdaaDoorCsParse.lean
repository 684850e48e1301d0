/- csv: Rows, Parse. -/
import Derived.Test.YtmdljfpkbfhbdaaDoorCsSeq
import Derived.Maps.OwnIn
namespace Go.Proofs.YtmdljfpkbfhbdaaDoor
open Go.RowKit Go.Shelf
set_option linter.unusedVariables false
attribute [local go_sem] Oper.semAt_some

theorem St.addSts {S : Fp} {l l' : List Ass} {w0 w w' : World} (h : St S l w0 w) [Stable (Sep l)] [Stable (Sep l')] (k : St Zf l' w w') : St S (l' ++ l) w0 w' := by
  have hb := k.bel
  obtain ⟨F, h1, ho, hf⟩ := k
  exact (h.add (Q := Sep l') (F := F) hb h1 fun k hk => (hf k hk).elim (fun h => h.elim) id).flat
/-- append(s, x) of one struct that lies in a new block, in a fence -/
theorem wpListIn_append_row1 {F : Fence} {nF : Nat} {P : Program} (w : World) {ops : Array Oper} {rest : List Oper} {o : Oper} {a : Act} {Q : Exit → Act → World → Prop} (hgd : o.guard = none) (s x : Operand) (t : TypeId)
    (ho : o.op = .call { callee := .builtin .append, args := #[s, x], argTypes := #[t, t] })
    (e : TypeId) (i : TypeInfo) (z : Value) (size bytes : Nat) (ht : P.underlying t = some (.slice e)) (hi : P.info? e = some i) (hz : i.zero = some z) (hsize : i.size = size) (hby : i.bytes = bytes) (hzs : z.cells.size = size) (hsz : 0 < size) (hb0 : 0 < bytes)
    (v : Value) (n : Nat) (xs : List Value) (hs : a.eval s = v) (hown : w.ownsRow 0 e size v n xs) (cs : Array Value) (hcs : cs.toList.length = size) (h1 : ∀ u ∈ cs.toList, u.oneCell' = true)
    {N : Nat} (hN : w.heap.size = N) (hx : a.eval x = .slice (some ⟨N, 0, none⟩) 1 1) (hbytes : (n + 1) * bytes ≤ 140737488355328)
    (h : ∀ v' w', w'.ownsRow 0 e size v' (n + 1) (xs ++ cs.toList) → (w.alloc (.cells cs e)).grownBy w' v.ownBlock → (v'.ownBlock = v.ownBlock ∨ v'.ownBlock = some (N + 1)) → wpListIn F nF P ops Q rest (a.put o.dst v') w') :
    wpListIn F nF P ops Q (o :: rest) a (w.alloc (.cells cs e)) := by
  subst hN
  have h64 : n + 1 ≤ (n + 1) * bytes := Nat.le_mul_of_pos_right _ hb0
  refine wpListIn_append_own_at _ hgd s x t ho 0 e i z size bytes ht hi hz hsize hby hzs hsz v n xs hs (hown.alloc _) ⟨w.heap.size, 0, none⟩ 1 1 cs.toList hx (by rw [hcs, Nat.one_mul]) (World.news_of_block (heap_alloc_new w _)) h1 (by simp only [maxLen]; omega) hbytes (Nat.zero_le _) ?_
  intro v' w' h2 h3 _ h5
  exact h v' w' h2 h3 (by simpa using h5)
theorem run_loadVar_cell {P : Program} (w : World) (ty : TypeId) (d : TypeDesc) (a : Addr) (u : Value) (hu : P.underlying ty = some d) (hd : (match d with | .struct _ | .array _ _ => true | _ => false) = false) (hc : w.cell? a = some u) :
    (loadVar ty a).run P w = .ok u w := by
  have hag : (isAgg ty).run P w = .ok false w := by
    cases d <;> simp_all [isAgg, Sem.run_bind, run_underlying hu, Result.andThen]
  simp [loadVar, Sem.run_bind, hag, Result.andThen, go_sem, hc]
theorem results_cells2 {P : Program} {fn : Func} {p q : Tmp} {ty ty' : TypeId} (h : fn.results = #[.cell p ty, .cell q ty']) (tmps : Array Value) (w : World) {g g' : Nat} {u v : Value} (d d' : TypeDesc)
    (hu : P.underlying ty = some d) (hd : (match d with | .struct _ | .array _ _ => true | _ => false) = false) (hu' : P.underlying ty' = some d') (hd' : (match d' with | .struct _ | .array _ _ => true | _ => false) = false)
    (hp : tmps.getD p undef = .pointer (some ⟨g, 0, none⟩)) (hq : tmps.getD q undef = .pointer (some ⟨g', 0, none⟩)) (h1 : w.cell? ⟨g, 0, none⟩ = some u) (h2 : w.cell? ⟨g', 0, none⟩ = some v) :
    (results fn tmps).run P w = .ok (.tuple #[u, v]) w := by
  have e1 := run_loadVar_cell w ty d ⟨g, 0, none⟩ u hu hd h1
  have e2 := run_loadVar_cell w ty' d' ⟨g', 0, none⟩ v hu' hd' h2
  simp only [results, h]
  simp only [Array.getD_eq_getD_getElem?] at hp hq
  simp [Sem.run_bind, Result.andThen, hp, hq, asAddr, e1, e2]

set_option maxHeartbeats 400000 in
theorem Rows_any (s : ByteArray) (w : World) :
    Calls Tryd.prog 17 #[.string s] w fun e w' => e = .returned (.func (.func 22) #[] #[.pointer (some ⟨w.heap.size, 0, none⟩)]) ∧ w.alloc (.cells #[.string s] 9) = w' := by
  go_enter Tryd.func17, Tryd.ntmps17
  go_wp2_with fail
  go_ret
  exact ⟨rfl, rfl⟩

/-! ### rows as an object -/
def rowA (q : Rq) : Ass := OlA svl 9 q.v q.L
instance stableRow {q : Rq} : Stable (rowA q) := inferInstanceAs (Stable (OlA _ _ _ _))
def RwsA (v : Value) (X : List Rq) : Ass := Sep [OlA Rq.v 40 v X, Sep (X.map rowA)]
instance stableRws {v : Value} {X : List Rq} : Stable (RwsA v X) := inferInstanceAs (Stable (Sep _))
theorem St.nilRws {S : Fp} {l : List Ass} {w0 w : World} (h : St S l w0 w) : St S (RwsA (.slice none 0 0) [] :: l) w0 w :=
  St.pack (l' := [_, _]) ((h.nilSep).nilOl Rq.v 40)
/-- one more row -/
theorem St.snocRws {S : Fp} {l : List Ass} {w0 w w' : World} [Stable (Sep l)] {v v' : Value} {X : List Rq} {q : Rq} (h : St S (RwsA v X :: rowA q :: l) w0 w) (o : Obj)
    (ho : OL Rq.v w' 0 40 v' (X ++ [q])) (hg : (w.alloc o).grownBy w' v.ownBlock) (ha : v'.ownBlock = v.ownBlock ∨ v'.ownBlock = some (w.heap.size + 1)) : St S (RwsA v' (X ++ [q]) :: l) w0 w' := by
  have h1 : St S (OlA Rq.v 40 v X :: Sep (X.map rowA) :: rowA q :: l) w0 w := St.flat h
  have h2 := (h1.alloc o).grewOl (v' := v') (L' := X ++ [q]) ho hg ha (by simp)
  have h3 := (h2.back2.swap).snocSep.swap
  rw [show X.map rowA ++ [rowA q] = (X ++ [q]).map rowA by simp] at h3
  exact St.pack (l' := [_, _]) h3
theorem rws_info : (Tryd.prog.info? 40).map (fun i => (i.zero.map (·.cells.size), i.size, i.bytes)) = some (some 1, 1, 24) := by kernel_rfl
/-- the reader that was lent -/
def LentA (o : Option Cx) : Ass := match o with
  | none => Sep []
  | some y => RdA y.g y.rest
instance stableLent {o : Option Cx} : Stable (LentA o) := by
  cases o
  · exact stableNil
  · exact stableBlk
theorem lent_turn {S : Fp} {lst : List Ass} [Stable (Sep lst)] {w0 V V1 : World} {pre : List Cx} {x : Cx} (h : St S (LentA pre.getLast? :: lst) w0 V) (hy : St (Sx pre x.g) [RdA x.g x.rest, OlA svl 9 x.v x.row] V V1) (hl : ∀ y, pre.getLast? = some y → y.g = x.g) :
    St S (RdA x.g x.rest :: OlA svl 9 x.v x.row :: lst) w0 V1 := by
  cases hp : pre.getLast? with
  | none =>
    have hn : pre = [] := List.getLast?_eq_none_iff.1 hp
    subst hn
    have e : Sx [] x.g = Zf := rfl
    rw [e] at hy
    exact (h.drop).addSts hy
  | some y =>
    rw [hp] at h
    have hg := hl y hp
    have e : Sx pre x.g = fun k => k = y.g := by
      unfold Sx
      rw [if_neg, hg]
      intro h0
      rw [List.length_eq_zero_iff.1 h0] at hp
      cases hp
    rw [e] at hy
    obtain ⟨F, ⟨hk, rfl⟩, k⟩ := St.turn (P := RdA y.g y.rest) h
    exact St.flat (k (Sep [RdA x.g x.rest, OlA svl 9 x.v x.row]) V1 hy)
/-- what Parse leaves -/
def ParseW (l : Bs) (w : World) (e : Ending) (w' : World) : Prop :=
  ∃ v X, e = .returned (.tuple #[v, .int .i64 (csvR l).2]) ∧ St Zf [RwsA v X] w w' ∧ rowsOf X = if (csvR l).2 = 0 then (csvR l).1 else []
/-- the loop's objects in Parse -/
def spl (w : World) (s : ByteArray) (i : Value × List Rq) : List Ass :=
  [BlkA (w.heap.size + 1 + 1) 22 #[i.1], RwsA i.1 i.2, BlkA w.heap.size 22 #[.slice none 0 0], BlkA (w.heap.size + 1) 25 #[.int .i64 0], BlkA (w.heap.size + 1 + 1 + 1) 9 #[.string s]]
instance stableSpl {w : World} {s : ByteArray} {i : Value × List Rq} : Stable (Sep (spl w s i)) := by
  unfold spl
  infer_instance
def splF (l : Bs) (pre : List Cx) (i : Value × List Rq) : Prop :=
  rowsOf i.2 = pre.map Cx.row ∧ (∀ x ∈ pre, x.e = 0) ∧ ∃ r, evc l = pre.map Cx.ev ++ r
theorem evc_few {l : Bs} {pre : List Cx} {r : List Evc} (h : evc l = pre.map Cx.ev ++ r) : pre.length ≤ l.length + 2 := by
  have h1 := congrArg List.length h
  have h2 := rd_few l .b [] []
  unfold evc csvR at h1
  simp at h1
  split at h1 <;> simp at h1 <;> omega
set_option maxRecDepth 100000 in
set_option maxHeartbeats 1000000 in
theorem Parse_any (s : ByteArray) (w : World) (hl : s.size ≤ 1073741824) :
    Calls Tryd.prog 15 #[.string s] w (ParseW (lS s) w) := by
  have hS := (((St.start Zf w).newBlk 22 #[.slice none 0 0]).newBlk 25 #[.int .i64 0]).newBlk 22 #[.slice none 0 0]
  refine (callsIn_wide (n := 10)).1 ?_
  refine callsIn_of_wp_marks Tryd.func15 rfl trivial ?_ rfl
  simp only [Tryd.ntmps15, List.size_toArray, List.length_cons, List.length_nil, Nat.reduceAdd, Nat.reduceSub, Array.replicate_succ, Array.replicate_zero, List.push_toArray, List.append_toArray, List.nil_append, List.cons_append]
  gi_wp2_with fail
  refine ⟨trivial, (callsIn_wide.2 (Rows_any _ _)).mono ?_⟩
  rintro e w1 ⟨rfl, hw1⟩
  simp only [World.size_alloc] at hS hw1 ⊢
  have hS2 := hS.newBlk 9 #[.string s]
  simp only [World.size_alloc] at hS2
  rw [hw1] at hS2
  clear hw1 hS
  have HS := Lib.hid hS2
  have HL := Lib.hid hl
  clear hS2 hl
  gi_wp2_with fail
  have hEA : ∀ o pre V, (∃ i, splF (lS s) pre i ∧ St Zf (RecA (w1.heap.size + 1) w1.heap.size o :: LentA pre.getLast? :: spl w s i) w V) → TxA (w.heap.size + 1 + 1 + 1) s V := by
    rintro o pre V ⟨i, -, h⟩
    have hbk : Blk V (w.heap.size + 1 + 1 + 1) 9 #[.string s] := h.drop.drop.drop.drop.drop.drop.blk
    exact ⟨by rw [hbk.cell 0]; rfl, hbk.lt⟩
  refine wpIn_rangeW rfl (gf := 22) (lb := #[.pointer (some ⟨w.heap.size + 1 + 1 + 1, 0, none⟩)]) rfl (enters_of Tryd.func22 (by kernel_rfl) rfl) (encs := Cx.enc) (fun _ => rfl)
    (rows_seq (w.heap.size + 1 + 1 + 1) s HL.out)
    (fun o pre W => ∃ i, splF (lS s) pre i ∧ St Zf (RecA (w1.heap.size + 1) w1.heap.size o :: LentA pre.getLast? :: spl w s i) w W)
    (fun o pre x W => ∃ i : Value × List Rq, (splF (lS s) pre i ∧ (∃ r, evc (lS s) = pre.map Cx.ev ++ x.ev :: r)) ∧
      St Zf (RecA (w1.heap.size + 1) w1.heap.size o :: RdA x.g x.rest :: OlA svl 9 x.v x.row :: spl w s i) w W)
    (fun o pre x a W => ∃ i : Value × List Rq, (splF (lS s) pre i ∧ (∃ r, evc (lS s) = pre.map Cx.ev ++ x.ev :: r) ∧
        a = { tmps := #[.string s, undef, .pointer (some ⟨w.heap.size, 0, none⟩), .pointer (some ⟨w.heap.size + 1, 0, none⟩), .pointer (some ⟨w.heap.size + 1 + 1, 0, none⟩), .slice x.A x.row.length x.c, .int .i64 x.e, .string s,
          .func (.func 22) #[] #[.pointer (some ⟨w.heap.size + 1 + 1 + 1, 0, none⟩)], .slice x.A x.row.length x.c, .int .i64 x.e, undef, undef, undef, undef, undef, undef, undef, undef], defers := [] }) ∧
      St Zf (RecA (w1.heap.size + 1) w1.heap.size o :: RdA x.g x.rest :: OlA svl 9 x.v x.row :: spl w s i) w W)
    (fun cd o pre W => ∃ e : Int, (cd = .ret ∧ e ≠ 0 ∧ e = (csvR (lS s)).2) ∧ St Zf [RecA (w1.heap.size + 1) w1.heap.size o, BlkA w.heap.size 22 #[.slice none 0 0], BlkA (w.heap.size + 1) 25 #[.int .i64 e]] w W)
    (fun o pre x W => ∃ i : Value × List Rq, splF (lS s) (pre ++ [x]) i ∧ St Zf (RecA (w1.heap.size + 1) w1.heap.size o :: RdA x.g x.rest :: spl w s i) w W)
    (fun o xs W => ∃ i : Value × List Rq, (rowsOf i.2 = (csvR (lS s)).1 ∧ (csvR (lS s)).2 = 0) ∧ St Zf (RecA (w1.heap.size + 1) w1.heap.size o :: spl w s i) w W)
    ?bI ?bM ?bN ?bX ?bR ?bZ hEA ?hY ?hR ?hT ?h0 ?assign ?body ?done ?stop
  case hY =>
    rintro o pre x V V1 ⟨i, hf, h⟩ ⟨h1, h2, h3, -⟩
    exact ⟨i, ⟨hf, h3⟩, (lent_turn h.swap h1 h2).bring2⟩
  case bI => exact fun pre => bears_ex (g := fun i : Value × List Rq => LentA pre.getLast? :: spl w s i)
  case bM => exact fun pre x => bears_ex (g := fun i : Value × List Rq => RdA x.g x.rest :: OlA svl 9 x.v x.row :: spl w s i)
  case bN => exact fun pre x a => bears_ex (g := fun i : Value × List Rq => RdA x.g x.rest :: OlA svl 9 x.v x.row :: spl w s i)
  case bX => exact fun c pre => bears_ex (g := fun e : Int => [BlkA w.heap.size 22 #[.slice none 0 0], BlkA (w.heap.size + 1) 25 #[.int .i64 e]])
  case bR => exact fun pre x => bears_ex (g := fun i : Value × List Rq => RdA x.g x.rest :: spl w s i)
  case bZ => exact fun pre => bears_ex (g := fun i : Value × List Rq => spl w s i)
  case hR =>
    rintro o pre x V ⟨i, hf, h⟩
    have e : (pre ++ [x]).getLast? = some x := by simp
    refine ⟨⟨i, hf, ?_⟩, h.swap.blk⟩
    rw [e]
    exact h
  case hT =>
    rintro o xs V ⟨i, ⟨h1, h2, h3⟩, h⟩ (ht : xs.map Cx.ev = evc (lS s))
    obtain ⟨h4, h5⟩ := evc_good (l := lS s) (by
      rw [← ht]
      intro y hy
      obtain ⟨x, hx, rfl⟩ := List.mem_map.1 hy
      exact h2 x hx)
    refine ⟨i, ⟨?_, h4⟩, h.swap.drop⟩
    have h6 := congrArg (List.map fun e : Evc => e.1) (ht.trans h5)
    rw [List.map_map, List.map_map] at h6
    rw [h1]
    simpa [Function.comp_def, Cx.ev] using h6
  case h0 =>
    intro o
    refine ⟨(.slice none 0 0, []), ⟨rfl, fun x hx => (by cases hx), ⟨_, rfl⟩⟩, ?_⟩
    exact (((HS.out.bring2.bring3.bring3).nilRws.swap).nilSep).recNew o
  case assign =>
    rintro o pre x W ⟨i, ⟨hf, hx⟩, h⟩
    have HH := Lib.hid h
    clear h
    simp only [Cx.enc]
    gi_wp2
    exact ⟨i, ⟨hf, hx, by first | rfl | trivial⟩, HH.out⟩
  case body =>
    rintro o pre x a W ⟨⟨v, X⟩, ⟨⟨hf1, hf2, r0, hf3⟩, ⟨r, hr⟩, rfl⟩, h⟩
    have HH := Lib.hid h
    have hg2 : Blk W w.heap.size 22 #[.slice none 0 0] := h.drop.drop.drop.drop.drop.blk
    have hg3 : Blk W (w.heap.size + 1) 25 #[.int .i64 0] := h.drop.drop.drop.drop.drop.drop.blk
    have hg4 : Blk W (w.heap.size + 1 + 1) 22 #[v] := h.drop.drop.drop.blk
    have c2 : W.cell? ⟨w.heap.size, 0, none⟩ = some (.slice none 0 0) := by rw [hg2.cell 0]; rfl
    have c3 : W.cell? ⟨w.heap.size + 1, 0, none⟩ = some (.int .i64 0) := by rw [hg3.cell 0]; rfl
    have c4 : W.cell? ⟨w.heap.size + 1 + 1, 0, none⟩ = some v := by rw [hg4.cell 0]; rfl
    have f2 := hg2.frozen 0
    have f3 := hg3.frozen 0
    have f4 := hg4.frozen 0
    by_cases he : x.e = 0
    · have hq2 : (X.length + 1) * 24 ≤ 140737488355328 := by
        have h1 := evc_few hf3
        have h2 := congrArg List.length hf1
        have h3 := HL.out
        rw [lS_len] at h1
        simp at h2
        omega
      obtain ⟨i0, z0, hi0, hz0, hz1, hz2, hz3⟩ := row_info rws_info
      have hfs : St Zf (RwsA v X :: rowA ⟨x.A, x.c, x.row⟩ :: _) w W := HH.out.bring2.bring4
      have hown : OL Rq.v W 0 40 v X := (St.flat hfs).ol
      have hrow := hown.2
      have HOK := Lib.hid hown.1
      have HFS := Lib.hid hfs
      have HPR : Hid (∀ u, splF (lS s) (pre ++ [x]) (u, X ++ [⟨x.A, x.c, x.row⟩])) := Lib.hid (by
        refine fun u => ⟨?_, ?_, ⟨r, ?_⟩⟩
        · show (X ++ [_]).map Rq.L = _
          rw [List.map_append, List.map_append]
          have h1 : X.map Rq.L = pre.map Cx.row := hf1
          rw [h1]
          rfl
        · intro y hy
          rcases List.mem_append.1 hy with hy | hy
          · exact hf2 y hy
          · rw [List.mem_singleton.1 hy]
            exact he
        · rw [hr, List.map_append, List.append_assoc]
          rfl)
      have HROW := Lib.hid hrow
      clear h hg2 hg3 hg4 hfs hf1 hf2 hf3 hr hrow hown
      gi_wp2_with (gi_at_builtin; refine wpListIn_append_row1 W rfl _ _ 22 rfl 40 i0 z0 1 24 Tryd.underlying22 hi0 hz0 hz1 hz2 hz3 (by decide) (by decide) v X.length _ rfl HROW.out #[.slice x.A x.row.length x.c] rfl (by intro u hu; rw [List.mem_singleton.1 hu]; rfl) rfl rfl hq2 ?_; intro v' w' ho hg ha; have ho2 : OL Rq.v w' 0 40 v' (X ++ [⟨x.A, x.c, x.row⟩]) := ⟨fun y _ => rqv_ok y, by rw [List.length_append, List.map_append]; exact ho⟩; obtain ⟨g', cp', rfl⟩ := ownsRow_succ ho; have hs := HFS.out.snocRws (q := ⟨x.A, x.c, x.row⟩) _ ho2 hg ha; have hb4 := hs.bring3.blk; have k4 : w'.cell? ⟨w.heap.size + 1 + 1, 0, none⟩ = some v := (by rw [hb4.cell 0]; rfl); have l4 := hb4.frozen 0; have HS2 := Lib.hid hs; clear hs hb4 ho ho2 hg ha)
      have h9 := (HS2.out.bring3.setBlk 0 (.slice (some ⟨g', 0, none⟩) (X.length + 1) cp')).bring3.bring3
      exact ⟨.slice (some ⟨g', 0, none⟩) (X.length + 1) cp', X ++ [(⟨x.A, x.c, x.row⟩ : Rq)], HPR.out _, h9⟩
    · clear h hg2 hg3 hg4
      have hbad := evc_bad (l := lS s) (x := x.ev) (by rw [hr]; simp) he
      have heb : (x.e != 0) = true := by rw [bne_iff_ne]; exact he
      have hbad' : x.e = (csvR (lS s)).2 := hbad
      gi_wp2
      have h1 := HH.out.swap.drop.swap.drop.swap.drop.swap.drop.bring3.drop.swap
      have h2 := ((h1.setBlk 0 (.slice none 0 0)).bring2.setBlk 0 (.int .i64 (csvR (lS s)).2)).bring2.bring2.swap
      exact ⟨(csvR (lS s)).2, ⟨rfl, hbad' ▸ he, rfl⟩, h2⟩
  case done =>
    rintro o xs W ⟨⟨v, X⟩, ⟨hx, he⟩, h⟩
    have hg2 : Blk W w.heap.size 22 #[.slice none 0 0] := h.drop.drop.drop.blk
    have hg3 : Blk W (w.heap.size + 1) 25 #[.int .i64 0] := h.drop.drop.drop.drop.blk
    have hg4 : Blk W (w.heap.size + 1 + 1) 22 #[v] := h.drop.blk
    have c2 : W.cell? ⟨w.heap.size, 0, none⟩ = some (.slice none 0 0) := by rw [hg2.cell 0]; rfl
    have c3 : W.cell? ⟨w.heap.size + 1, 0, none⟩ = some (.int .i64 0) := by rw [hg3.cell 0]; rfl
    have c4 : W.cell? ⟨w.heap.size + 1 + 1, 0, none⟩ = some v := by rw [hg4.cell 0]; rfl
    have f2 := hg2.frozen 0
    have f3 := hg3.frozen 0
    have h2 := ((h.bring3.setBlk 0 v).bring4.setBlk 0 (.int .i64 0)).bring2
    obtain ⟨A0, cp, hv, -⟩ := (St.flat h.drop.drop).ol.form
    have hv' : v = .slice A0 X.length cp := hv
    have HE := Lib.hid h2
    have HV := Lib.hid hv'
    have HX := Lib.hid hx
    have HE0 := Lib.hid he
    subst hv'
    clear h hg2 hg3 hg4 h2 hv hx he
    gi_wp2
    refine ⟨by simp, .inl ⟨_, _, rfl, run_takeDeferred HE.out.recAt.2.1, ?_⟩⟩
    have h3 := HE.out.recEnd (.deferred none)
    have k3 := (h3.blk).cell 0
    have k2 := (h3.drop.blk).cell 0
    refine ⟨.tuple #[.slice A0 X.length cp, .int .i64 0], ?_, ?_⟩
    · exact results_cells2 rfl _ _ _ _ Tryd.underlying22 rfl Tryd.underlying25 rfl (by rfl) (by rfl) k2 k3
    · refine ⟨.slice A0 X.length cp, X, by rw [HE0.out], h3.drop.drop.drop.swap.drop, ?_⟩
      rw [if_pos HE0.out]
      exact HX.out
  case stop =>
    rintro o cd pre W _ ⟨e, ⟨rfl, he, hee⟩, h⟩
    have HE := Lib.hid h
    have HE0 := Lib.hid he
    have HEE := Lib.hid hee
    clear h he hee
    gi_wp2
    refine ⟨by simp, .inl ⟨_, _, rfl, run_takeDeferred HE.out.recAt.2.1, ?_⟩⟩
    have h3 := HE.out.recEnd (.deferred none)
    have k2 := (h3.blk).cell 0
    have k3 := (h3.drop.blk).cell 0
    refine ⟨.tuple #[.slice none 0 0, .int .i64 e], ?_, ?_⟩
    · exact results_cells2 rfl _ _ _ _ Tryd.underlying22 rfl Tryd.underlying25 rfl (by rfl) (by rfl) k2 k3
    · refine ⟨.slice none 0 0, [], by rw [HEE.out], h3.drop.drop.nilRws, ?_⟩
      rw [if_neg (by rw [← HEE.out]; exact HE0.out)]
      rfl
end Go.Proofs.YtmdljfpkbfhbdaaDoor
