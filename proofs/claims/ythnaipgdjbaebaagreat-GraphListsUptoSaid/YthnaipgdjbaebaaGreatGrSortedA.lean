/- Texts in order, each once: the document's way, in plain words. -/
import Derived.Test.YthnaipgdjbaebaaGreatGrRels
import Derived.Test.YthnaipgdjbaebaaGreatValPure
import Derived.Test.YthnaipgdjbaebaaGreatGrNames
import Derived.Test.YthnaipgdjbaebaaGreatGrObj
import Derived.Test.YthnaipgdjbaebaaGreatApList
import Derived.Deep.QuietTactic
import Derived.BigQuiet
import Derived.Deep.RegionLaw
import Derived.IntWalk
namespace Go.Proofs.YthnaipgdjbaebaaGreat
open Go.RowKit
set_option linter.unusedVariables false

theorem bytesLess_iff : ∀ x y : List UInt8, Op.bytesLess x y = true ↔ x < y
  | x, [] => by simp [Op.bytesLess]
  | [], b :: y => by simp [Op.bytesLess]
  | a :: x, b :: y => by
    simp only [Op.bytesLess, Bool.or_eq_true, Bool.and_eq_true, decide_eq_true_eq, beq_iff_eq, List.cons_lt_cons_iff, bytesLess_iff x y]
theorem leS_iff (s p : ByteArray) : leS s p = true ↔ s.toList ≤ p.toList := by
  unfold leS
  rw [Bool.or_eq_true, bytesLess_iff, beq_iff_eq, ← List.not_lt]
  constructor
  · rintro (h | h)
    · exact List.lt_asymm h
    · rw [h]; exact List.lt_irrefl _
  · intro h
    rcases List.le_iff_lt_or_eq.1 (List.not_lt.1 h) with h | h
    · exact .inl h
    · exact .inr h

/-- one more text, unless it is the last -/
def putS (out : List ByteArray) (x : ByteArray) : List ByteArray := if out.getLast? = some x then out else out ++ [x]
theorem putS_nil (x : ByteArray) : putS [] x = [x] := rfl
theorem putS_same (O : List ByteArray) (x : ByteArray) : putS (O ++ [x]) x = O ++ [x] := by simp [putS]
theorem putS_other (O : List ByteArray) {x y : ByteArray} (h : y ≠ x) : putS (O ++ [y]) x = O ++ [y] ++ [x] := by simp [putS, h]
/-- two lists put together -/
def mrg (out : List ByteArray) : List ByteArray → List ByteArray → List ByteArray
  | [], [] => out
  | x :: a, [] => mrg (putS out x) a []
  | [], y :: b => mrg (putS out y) [] b
  | x :: a, y :: b => if leS x y = true then mrg (putS out x) a (y :: b) else mrg (putS out y) (x :: a) b
termination_by a b => a.length + b.length
/-- the texts in order, each once -/
def srtF : Nat → List ByteArray → List ByteArray
  | 0, s => s
  | n + 1, s => if s.length < 2 then s else mrg [] (srtF n (s.take (s.length / 2))) (srtF n (s.drop (s.length / 2)))
theorem srtF_more : ∀ (n : Nat) (s : List ByteArray), s.length ≤ n → srtF n s = srtF s.length s
  | 0, s, h => by
    have : s = [] := List.length_eq_zero_iff.1 (by omega)
    subst this
    rfl
  | n + 1, s, h => by
    rcases hs : s.length with _ | m
    · have : s = [] := List.length_eq_zero_iff.1 hs
      subst this
      rfl
    · simp only [srtF, hs]
      split
      · rfl
      · rename_i h2
        have e1 : (s.take ((m + 1) / 2)).length ≤ m := by rw [List.length_take]; omega
        have e2 : (s.drop ((m + 1) / 2)).length ≤ m := by rw [List.length_drop]; omega
        rw [srtF_more n _ (by omega), srtF_more n _ (by omega), ← srtF_more m _ e1, ← srtF_more m _ e2]
def srt (s : List ByteArray) : List ByteArray := srtF s.length s
theorem srt_short {s : List ByteArray} (h : s.length < 2) : srt s = s := by
  unfold srt
  rcases hs : s.length with _ | m
  · have : s = [] := List.length_eq_zero_iff.1 hs
    subst this
    rfl
  · simp only [srtF]
    rw [if_pos h]
theorem srt_long {s : List ByteArray} (h : ¬ s.length < 2) : srt s = mrg [] (srt (s.take (s.length / 2))) (srt (s.drop (s.length / 2))) := by
  unfold srt
  rcases hs : s.length with _ | m
  · omega
  · have e1 : (s.take ((m + 1) / 2)).length ≤ m := by rw [List.length_take]; omega
    have e2 : (s.drop ((m + 1) / 2)).length ≤ m := by rw [List.length_drop]; omega
    have hn : ¬ (m + 1 < 2) := by omega
    simp only [srtF, hs, if_neg hn]
    rw [← srtF_more m _ e1, ← srtF_more m _ e2]
theorem putS_len (out : List ByteArray) (x : ByteArray) : (putS out x).length ≤ out.length + 1 := by
  unfold putS
  split
  · omega
  · simp
theorem mrg_len (out a b : List ByteArray) : (mrg out a b).length ≤ out.length + a.length + b.length := by
  induction out, a, b using mrg.induct with
  | case1 out => simp [mrg]
  | case2 out x a ih => rw [mrg]; have := putS_len out x; simp only [List.length_cons, List.length_nil] at *; omega
  | case3 out y b ih => rw [mrg]; have := putS_len out y; simp only [List.length_cons, List.length_nil] at *; omega
  | case4 out x a y b h ih => rw [mrg, if_pos h]; have := putS_len out x; simp only [List.length_cons] at *; omega
  | case5 out x a y b h ih => rw [mrg, if_neg h]; have := putS_len out y; simp only [List.length_cons] at *; omega
theorem srt_len : ∀ (n : Nat) (s : List ByteArray), s.length ≤ n → (srt s).length ≤ s.length
  | 0, s, h => by rw [srt_short (by omega)]; omega
  | n + 1, s, h => by
    by_cases h2 : s.length < 2
    · rw [srt_short h2]; omega
    · rw [srt_long h2]
      have h3 := mrg_len [] (srt (s.take (s.length / 2))) (srt (s.drop (s.length / 2)))
      have h4 := srt_len n (s.take (s.length / 2)) (by rw [List.length_take]; omega)
      have h5 := srt_len n (s.drop (s.length / 2)) (by rw [List.length_drop]; omega)
      rw [List.length_take] at h4
      rw [List.length_drop] at h5
      simp only [List.length_nil] at h3
      omega
theorem putS_mem (out : List ByteArray) (x z : ByteArray) : z ∈ putS out x ↔ z ∈ out ∨ z = x := by
  unfold putS
  split
  · rename_i h
    constructor
    · exact .inl
    · rintro (h2 | rfl)
      · exact h2
      · exact List.mem_of_getLast? h
  · simp
theorem mrg_mem (z : ByteArray) (out a b : List ByteArray) : z ∈ mrg out a b ↔ z ∈ out ∨ z ∈ a ∨ z ∈ b := by
  induction out, a, b using mrg.induct with
  | case1 out => simp [mrg]
  | case2 out x a ih => rw [mrg, ih, putS_mem]; simp only [List.mem_cons, List.not_mem_nil, or_false]; rw [or_assoc]
  | case3 out y b ih => rw [mrg, ih, putS_mem]; simp only [List.mem_cons, List.not_mem_nil, false_or]; rw [or_assoc]
  | case4 out x a y b h ih =>
    rw [mrg, if_pos h, ih, putS_mem]
    simp only [List.mem_cons]
    constructor
    · rintro ((h | h) | h | h)
      · exact .inl h
      · exact .inr (.inl (.inl h))
      · exact .inr (.inl (.inr h))
      · exact .inr (.inr h)
    · rintro (h | (h | h) | h)
      · exact .inl (.inl h)
      · exact .inl (.inr h)
      · exact .inr (.inl h)
      · exact .inr (.inr h)
  | case5 out x a y b h ih =>
    rw [mrg, if_neg h, ih, putS_mem]
    simp only [List.mem_cons]
    constructor
    · rintro ((h | h) | h | h)
      · exact .inl h
      · exact .inr (.inr (.inl h))
      · exact .inr (.inl h)
      · exact .inr (.inr (.inr h))
    · rintro (h | h | h | h)
      · exact .inl (.inl h)
      · exact .inr (.inl h)
      · exact .inl (.inr h)
      · exact .inr (.inr h)
theorem srt_mem (z : ByteArray) : ∀ (n : Nat) (s : List ByteArray), s.length ≤ n → (z ∈ srt s ↔ z ∈ s)
  | 0, s, h => by rw [srt_short (by omega)]
  | n + 1, s, h => by
    by_cases h2 : s.length < 2
    · rw [srt_short h2]
    · rw [srt_long h2, mrg_mem, srt_mem z n _ (by rw [List.length_take]; omega), srt_mem z n _ (by rw [List.length_drop]; omega), ← List.mem_append, List.take_append_drop]
      simp
abbrev ltS (x y : ByteArray) : Prop := x.toList < y.toList
abbrev lqS (x y : ByteArray) : Prop := x.toList ≤ y.toList
theorem putS_sorted {out : List ByteArray} {x : ByteArray} (h : out.Pairwise ltS) (hx : ∀ o ∈ out, lqS o x) : (putS out x).Pairwise ltS := by
  unfold putS
  split
  · exact h
  · rename_i hl
    refine List.pairwise_append.2 ⟨h, by simp, fun o ho y hy => ?_⟩
    obtain rfl := List.mem_singleton.1 hy
    rcases List.le_iff_lt_or_eq.1 (hx o ho) with h1 | h1
    · exact h1
    · exfalso
      have e : o = y := str_inj h1
      subst e
      rcases List.eq_nil_or_concat out with e | ⟨O, z, e⟩
      · subst e; cases ho
      · rw [List.concat_eq_append] at e
        subst e
        simp only [List.getLast?_append, List.getLast?_singleton, Option.some_or, Option.some.injEq] at hl
        rcases List.mem_append.1 ho with ho | ho
        · have h2 := (List.pairwise_append.1 h).2.2 o ho z (by simp)
          have h3 := hx z (by simp)
          exact h3 h2
        · exact hl (List.mem_singleton.1 ho).symm
theorem mrg_sorted (out a b : List ByteArray) : out.Pairwise ltS → a.Pairwise ltS → b.Pairwise ltS → (∀ o ∈ out, ∀ z ∈ a, lqS o z) → (∀ o ∈ out, ∀ z ∈ b, lqS o z) → (mrg out a b).Pairwise ltS := by
  induction out, a, b using mrg.induct with
  | case1 out => intro h _ _ _ _; simpa [mrg] using h
  | case2 out x a ih =>
    intro h1 h2 h3 h4 h5
    rw [mrg]
    have h2' := List.pairwise_cons.1 h2
    refine ih (putS_sorted h1 fun o ho => h4 o ho x (by simp)) h2'.2 h3 ?_ (fun o _ z hz => by cases hz)
    intro o ho z hz
    rcases (putS_mem _ _ _).1 ho with ho | rfl
    · exact h4 o ho z (by simp [hz])
    · exact List.le_of_lt (h2'.1 z hz)
  | case3 out y b ih =>
    intro h1 h2 h3 h4 h5
    rw [mrg]
    have h3' := List.pairwise_cons.1 h3
    refine ih (putS_sorted h1 fun o ho => h5 o ho y (by simp)) h2 h3'.2 (fun o _ z hz => by cases hz) ?_
    intro o ho z hz
    rcases (putS_mem _ _ _).1 ho with ho | rfl
    · exact h5 o ho z (by simp [hz])
    · exact List.le_of_lt (h3'.1 z hz)
  | case4 out x a y b h ih =>
    intro h1 h2 h3 h4 h5
    rw [mrg, if_pos h]
    have h2' := List.pairwise_cons.1 h2
    have h3' := List.pairwise_cons.1 h3
    have hxy := (leS_iff x y).1 h
    refine ih (putS_sorted h1 fun o ho => h4 o ho x (by simp)) h2'.2 h3 ?_ ?_
    · intro o ho z hz
      rcases (putS_mem _ _ _).1 ho with ho | rfl
      · exact h4 o ho z (by simp [hz])
      · exact List.le_of_lt (h2'.1 z hz)
    · intro o ho z hz
      rcases (putS_mem _ _ _).1 ho with ho | rfl
      · exact h5 o ho z hz
      · rcases List.mem_cons.1 hz with rfl | hz
        · exact hxy
        · exact List.le_trans hxy (List.le_of_lt (h3'.1 z hz))
  | case5 out x a y b h ih =>
    intro h1 h2 h3 h4 h5
    rw [mrg, if_neg h]
    have h2' := List.pairwise_cons.1 h2
    have h3' := List.pairwise_cons.1 h3
    have hyx : y.toList ≤ x.toList := by
      have := mt (leS_iff x y).2 h
      exact List.le_of_lt (List.not_le.1 this)
    refine ih (putS_sorted h1 fun o ho => h5 o ho y (by simp)) h2 h3'.2 ?_ ?_
    · intro o ho z hz
      rcases (putS_mem _ _ _).1 ho with ho | rfl
      · exact h4 o ho z hz
      · rcases List.mem_cons.1 hz with rfl | hz
        · exact hyx
        · exact List.le_trans hyx (List.le_of_lt (h2'.1 z hz))
    · intro o ho z hz
      rcases (putS_mem _ _ _).1 ho with ho | rfl
      · exact h5 o ho z (by simp [hz])
      · exact List.le_of_lt (h3'.1 z hz)
theorem srt_sorted : ∀ (n : Nat) (s : List ByteArray), s.length ≤ n → (srt s).Pairwise ltS
  | 0, s, h => by
    rw [srt_short (by omega), List.length_eq_zero_iff.1 (by omega : s.length = 0)]
    exact List.Pairwise.nil
  | n + 1, s, h => by
    by_cases h2 : s.length < 2
    · rw [srt_short h2]
      rcases s with _ | ⟨x, _ | ⟨y, r⟩⟩
      · exact List.Pairwise.nil
      · simp
      · simp at h2; omega
    · rw [srt_long h2]
      exact mrg_sorted _ _ _ List.Pairwise.nil (srt_sorted n _ (by rw [List.length_take]; omega)) (srt_sorted n _ (by rw [List.length_drop]; omega)) (fun o h => by cases h) (fun o h => by cases h)

/-! ### How many there are -/
theorem addKey_mem (acc : List Lit) (x : ByteArray) (hacc : ∀ y ∈ acc, ∃ t : ByteArray, y = Lit.string t.data.toList) (z : Lit) : z ∈ Go.Maps.addKey acc (Lit.string x.data.toList) ↔ z ∈ acc ∨ z = Lit.string x.data.toList := by
  unfold Go.Maps.addKey
  split
  · rename_i h
    obtain ⟨y, hy, he⟩ := List.any_eq_true.1 h
    obtain ⟨t, rfl⟩ := hacc y hy
    have e : t.data.toList = x.data.toList := by simpa [Lit.sameKey] using he
    rw [e] at hy
    constructor
    · exact .inl
    · rintro (h | rfl)
      · exact h
      · exact hy
  · simp
theorem keys_fold : ∀ (L : List ByteArray) (acc : List Lit), (∀ y ∈ acc, ∃ t : ByteArray, y = Lit.string t.data.toList) → acc.Nodup →
    ((skeys L).foldl Go.Maps.addKey acc).Nodup ∧ ∀ z, z ∈ (skeys L).foldl Go.Maps.addKey acc ↔ z ∈ acc ∨ z ∈ skeys L
  | [], acc, h, hn => ⟨hn, fun z => by simp [skeys]⟩
  | x :: L, acc, h, hn => by
    have hm := addKey_mem acc x h
    have hn2 : (Go.Maps.addKey acc (Lit.string x.data.toList)).Nodup := by
      unfold Go.Maps.addKey
      split
      · exact hn
      · rename_i hx
        refine List.nodup_append.2 ⟨hn, by simp, fun a ha b hb => ?_⟩
        rw [List.mem_singleton.1 hb]
        rintro rfl
        exact hx (List.any_eq_true.2 ⟨_, ha, by simp [Lit.sameKey]⟩)
    obtain ⟨h1, h2⟩ := keys_fold L (Go.Maps.addKey acc (Lit.string x.data.toList)) (fun y hy => ((hm y).1 hy).elim (h y) fun e => ⟨x, e⟩) hn2
    refine ⟨h1, fun z => ?_⟩
    have h3 := h2 z
    simp only [skeys, List.map_cons, List.foldl_cons, List.mem_cons] at h3 ⊢
    rw [h3, hm z, or_assoc]
theorem srt_count (L : List ByteArray) : Go.Maps.size (nameSet L) = (srt L).length := by
  unfold nameSet
  rw [Go.Maps.size_setOf _ _ (fun x hx => by
    simp only [skeys, List.mem_map] at hx
    obtain ⟨s, _, rfl⟩ := hx
    trivial)]
  obtain ⟨h1, h2⟩ := keys_fold L [] (fun y h => by cases h) List.nodup_nil
  have hs := srt_sorted L.length L (Nat.le_refl _)
  have hn : ((srt L).map fun s => Lit.string s.data.toList).Nodup := by
    refine List.pairwise_map.2 (hs.imp fun {a b} h e => ?_)
    injection e with e
    have e2 : a.toList = b.toList := by
      have : a = b := by cases a; cases b; simp_all
      rw [this]
    unfold ltS at h
    rw [e2] at h
    exact List.lt_irrefl _ h
  have hp : ((skeys L).foldl Go.Maps.addKey []).Perm ((srt L).map fun s => Lit.string s.data.toList) := (List.perm_ext_iff_of_nodup h1 hn).2 fun z => by
    rw [h2 z]
    simp only [List.not_mem_nil, false_or, skeys, List.mem_map]
    exact exists_congr fun s => by rw [srt_mem s L.length L (Nat.le_refl _)]
  rw [hp.length_eq, List.length_map]

end Go.Proofs.YthnaipgdjbaebaaGreat

/- The document's Sorted. -/
namespace Go.Proofs.YthnaipgdjbaebaaGreat
open Go.RowKit
set_option linter.unusedVariables false

/-- a new list of texts -/
def NewSt (L : List ByteArray) (w : World) (e : Ending) (w' : World) : Prop := ∃ v, e = .returned v ∧ OL svl w' w.heap.size 9 v L ∧ Below w.heap.size w w'
theorem RL.cutS {w : World} {B : Nat} {b off : Nat} {s : List ByteArray} (h : RL svl w B (some ⟨b, off, none⟩) s) (k : Nat) : RL svl w B (some ⟨b, off, none⟩) (s.take k) ∧ RL svl w B (some ⟨b, off + k, none⟩) (s.drop k) := by
  constructor
  · refine ⟨⟨by simp, fun h0 => ?_⟩, fun z _ => svl_ok z⟩
    rw [List.length_take] at h0
    obtain ⟨b', off', e, hb, hc⟩ := h.allS (by omega)
    injection e with e
    injection e with e1 e2
    subst e1 e2
    refine ⟨_, rfl, hb, fun j u hj => ?_⟩
    have hjl := (List.getElem?_eq_some_iff.1 hj).1
    rw [List.length_map, List.length_take] at hjl
    rw [List.getElem?_map, List.getElem?_take_of_lt (by omega), ← List.getElem?_map] at hj
    rw [List.getElem?_map, List.getElem?_eq_getElem (by omega)] at hj
    have := hc j (by omega)
    rw [add_none, this, nthS_lt (by omega)]
    exact hj
  · refine ⟨⟨by simp, fun h0 => ?_⟩, fun z _ => svl_ok z⟩
    rw [List.length_drop] at h0
    obtain ⟨b', off', e, hb, hc⟩ := h.allS (by omega)
    injection e with e
    injection e with e1 e2
    subst e1 e2
    refine ⟨_, rfl, hb, fun j u hj => ?_⟩
    have hjl := (List.getElem?_eq_some_iff.1 hj).1
    rw [List.length_map, List.length_drop] at hjl
    rw [List.getElem?_map, List.getElem?_drop, List.getElem?_eq_getElem (by omega)] at hj
    have := hc (k + j) (by omega)
    rw [add_none, Nat.add_assoc, this, nthS_lt (by omega)]
    exact hj
theorem nthS_get {L : List ByteArray} {k : Nat} (h : k < L.length) : L[k]? = some (nthS L k) := by rw [List.getElem?_eq_getElem h, nthS_lt h]
theorem lastS {L : List ByteArray} {m : Nat} (h : L.length = m + 1) : L.getLast? = some (nthS L m) := by
  rw [List.getLast?_eq_getElem?, h]
  exact nthS_get (by omega)
theorem mrg_left {out a b : List ByteArray} {i j : Nat} (hi : i < a.length) (h : j = b.length ∨ (j < b.length ∧ leS (nthS a i) (nthS b j) = true)) : mrg out (a.drop i) (b.drop j) = mrg (putS out (nthS a i)) (a.drop (i + 1)) (b.drop j) := by
  rw [dropS hi]
  rcases h with h | ⟨h1, h2⟩
  · rw [List.drop_of_length_le (by omega : b.length ≤ j), mrg]
  · rw [dropS h1, mrg, if_pos h2]
theorem mrg_right {out a b : List ByteArray} {i j : Nat} (hj : j < b.length) (h : i = a.length ∨ (i < a.length ∧ leS (nthS a i) (nthS b j) = false)) : mrg out (a.drop i) (b.drop j) = mrg (putS out (nthS b j)) (a.drop i) (b.drop (j + 1)) := by
  rw [dropS hj]
  rcases h with h | ⟨h1, h2⟩
  · rw [List.drop_of_length_le (by omega : a.length ≤ i), mrg]
  · rw [dropS h1, mrg, if_neg (by rw [h2]; simp)]

set_option maxRecDepth 100000 in
set_option maxHeartbeats 8000000 in
theorem refSorted_any (n : Nat) : ∀ (s : List ByteArray) (A : Option Addr) (c B : Nat) (w : World), s.length ≤ n → RL svl w B A s → B ≤ w.heap.size → s.length ≤ c → s.length ≤ 1099511627776 →
    Calls Tryz.prog 53 #[.slice A s.length c] w (NewSt (srt s) w) := by
  obtain ⟨j0, hj, hy0, hy1, hy2⟩ := info_parts str_info
  induction n with
  | zero =>
    intro s A c B w hn h hB hc hl
    have hE : Hid (srt s = s) := Lib.hid (srt_short (by omega))
    have hd : decide ((s.length : Int) < 2) = true := decide_eq_true (by omega)
    have hby : (([] : List ByteArray).length + s.length) * 16 ≤ 140737488355328 := by simp; omega
    have hr := h.alloc hB (.cells #[] 9)
    have hq : OL svl (w.alloc (.cells #[] 9)) w.heap.size 9 (.slice (some ⟨w.heap.size, 0, none⟩) 0 0) [] := ⟨fun x hx => (by cases hx), World.ownsRow_lit (size := 1) w #[] 0 (Nat.le_refl _) (Nat.zero_le _) rfl⟩
    go_enter Tryz.func53, Tryz.ntmps53
    go_wp2_with (at_builtin; refine wpList_append_list _ rfl _ _ 37 rfl w.heap.size 9 j0 _ 16 Tryz.underlying37 hj hy0 hy1 hy2 rfl _ [] (by rfl) hq A c B s s.length rfl (by rfl) hr hby (by omega) (by simp) ?_; intro v1 w1 hown1 hg1 hat1)
    go_ret
    rw [hE.out]
    rw [List.nil_append] at hown1
    exact ⟨_, rfl, hown1, ((Below.refl _ w).alloc (Nat.le_refl _) _).grown hg1 (by simp) (by intro k hk; simp [Value.ownBlock] at hk; omega)⟩
  | succ n ih =>
    intro s A c B w hn h hB hc hl
    by_cases h2 : s.length < 2
    · have hE : Hid (srt s = s) := Lib.hid (srt_short h2)
      have hd : decide ((s.length : Int) < 2) = true := decide_eq_true (by omega)
      have hby : (([] : List ByteArray).length + s.length) * 16 ≤ 140737488355328 := by simp; omega
      have hr := h.alloc hB (.cells #[] 9)
      have hq : OL svl (w.alloc (.cells #[] 9)) w.heap.size 9 (.slice (some ⟨w.heap.size, 0, none⟩) 0 0) [] := ⟨fun x hx => (by cases hx), World.ownsRow_lit (size := 1) w #[] 0 (Nat.le_refl _) (Nat.zero_le _) rfl⟩
      go_enter Tryz.func53, Tryz.ntmps53
      go_wp2_with (at_builtin; refine wpList_append_list _ rfl _ _ 37 rfl w.heap.size 9 j0 _ 16 Tryz.underlying37 hj hy0 hy1 hy2 rfl _ [] (by rfl) hq A c B s s.length rfl (by rfl) hr hby (by omega) (by simp) ?_; intro v1 w1 hown1 hg1 hat1)
      go_ret
      rw [hE.out]
      rw [List.nil_append] at hown1
      exact ⟨_, rfl, hown1, ((Below.refl _ w).alloc (Nat.le_refl _) _).grown hg1 (by simp) (by intro k hk; simp [Value.ownBlock] at hk; omega)⟩
    · have hd : decide ((s.length : Int) < 2) = false := decide_eq_false (by omega)
      obtain ⟨b, off, rfl, hbB, -⟩ := h.allS (by omega)
      obtain ⟨r1, r2⟩ := RL.cutS h (s.length / 2)
      have t1 : (s.take (s.length / 2)).length = s.length / 2 := by rw [List.length_take]; omega
      have t2 : (s.drop (s.length / 2)).length = s.length - s.length / 2 := by rw [List.length_drop]
      have HA := ih (s.take (s.length / 2)) (some ⟨b, off, none⟩) c B w (by omega) r1 hB (by omega) (by omega)
      have HB : Hid (∀ w', Below w.heap.size w w' → Calls Tryz.prog 53 #[.slice (some ⟨b, off + s.length / 2, none⟩) (s.length - s.length / 2) (c - s.length / 2)] w' (NewSt (srt (s.drop (s.length / 2))) w')) := Lib.hid fun w' hb => by
        have h := ih (s.drop (s.length / 2)) (some ⟨b, off + s.length / 2, none⟩) (c - s.length / 2) B w' (by omega) (r2.below (hb.mono hB)) (Nat.le_trans hB hb.size) (by omega) (by omega)
        rw [t2] at h
        exact h
      rw [t1] at HA
      have la := srt_len _ (s.take (s.length / 2)) (Nat.le_refl _)
      have lb := srt_len _ (s.drop (s.length / 2)) (Nat.le_refl _)
      have hE : Hid (srt s = mrg [] (srt (s.take (s.length / 2))) (srt (s.drop (s.length / 2)))) := Lib.hid (srt_long h2)
      obtain ⟨a, ha⟩ : ∃ a, a = srt (s.take (s.length / 2)) := ⟨_, rfl⟩
      obtain ⟨z, hz⟩ : ∃ a, a = srt (s.drop (s.length / 2)) := ⟨_, rfl⟩
      rw [← ha] at HA la hE
      rw [← hz] at HB lb hE
      have HA := Lib.hid HA
      have hsum : a.length + z.length ≤ s.length := by omega
      have hh1 : s.length / 2 ≤ c := by omega
      have hh2 : s.length / 2 < c := by omega
      have hh3 : s.length / 2 ≤ s.length := by omega
      clear ih h r1 r2 t1 t2 la lb ha hz h2
      go_enter Tryz.func53, Tryz.ntmps53
      go_wp2_with fail
      refine HA.out.mono ?_
      rintro e w1 ⟨v1, rfl, ho1, hb1⟩
      have s1 := (St.start Zf w).newOl ho1 hb1
      obtain ⟨Aa, ca, rfl, -, -, -, -⟩ := ho1.form
      go_wp2_with fail
      refine (HB.out _ hb1).mono ?_
      rintro e w2 ⟨v2, rfl, ho2, hb2⟩
      have s2 := s1.newOl ho2 hb2
      obtain ⟨Ab, cb, rfl, -, -, -, -⟩ := ho2.form
      have s3 := s2.newNil svl 9 rfl
      clear ho1 hb1 ho2 hb2 s1 s2
      go_wp2
      go_loopw [5, 6, 7] (fun v ii jj wr => ∃ (out : List ByteArray) (Ao : Option Addr) (co i j : Nat), i ≤ a.length ∧ j ≤ z.length ∧ v = .slice Ao out.length co ∧ ii = .int .i64 i ∧ jj = .int .i64 j ∧ out.length ≤ i + j ∧ mrg out (a.drop i) (z.drop j) = mrg [] a z ∧ St Zf [OlA svl 9 (.slice Ao out.length co) out, OlA svl 9 (.slice Ab z.length cb) z, OlA svl 9 (.slice Aa a.length ca) a] w wr) (fun _ ii jj _ => a.length + z.length - ((intOf ii).toNat + (intOf jj).toNat))
      case atStart => exact ⟨[], _, _, 0, 0, Nat.zero_le _, Nat.zero_le _, rfl, rfl, rfl, Nat.zero_le _, rfl, s3⟩
      case round =>
        obtain ⟨out, Ao, co, i, j, hi, hj', rfl, rfl, rfl, hlo, hm, hst⟩ := hrel
        clear s3
        have hro := hst.ol.reads.2.1
        have hrz := hst.swap.ol.reads.2.1
        have hra := hst.bring2.ol.reads.2.1
        by_cases hja : j = z.length
        · by_cases hia : i = a.length
          · have hE2 : mrg out (a.drop i) (z.drop j) = out := by rw [List.drop_of_length_le (by omega), List.drop_of_length_le (by omega), mrg]
            have HR : Hid (srt s = out) := Lib.hid (by rw [hE.out, ← hm, hE2])
            subst hia
            subst hja
            have HO := Lib.hid (St.fin (P := OlA svl 9 (.slice Ao out.length co) out) (hst.swap.drop.swap.drop))
            clear hm hE2 hst hro hrz hra hlo
            go_wp2
            go_ret
            rw [HR.out]
            obtain ⟨F, ⟨f1, f4⟩, f2, f3⟩ := HO.out
            refine ⟨_, rfl, ⟨f1.1, ?_⟩, f3⟩
            have f2' : ∀ g, (Value.slice Ao out.length co).ownBlock = some g → w.heap.size ≤ g := fun g hg => f2 g (by rw [f4]; exact hg)
            obtain ⟨g1, g2 | ⟨gg, cp, cu, k1, k2, k3⟩⟩ := f1.2
            · exact ⟨g1, .inl g2⟩
            · exact ⟨g1, .inr ⟨gg, cp, cu, k1, f2' gg (by rw [k1]; rfl), k3⟩⟩
          · have ha0 : (0 : Int) ≤ (i : Int) := by omega
            have ha1 : (i : Int) < (a.length : Int) := by omega
            have e1 : decide ((i : Int) < (a.length : Int)) = true := decide_eq_true (by omega)
            have e2 : ((j : Int) == (z.length : Int)) = true := by simp [hja]
            obtain ⟨ba, fa, rfl, -, hca⟩ := hra.allS (by omega)
            have qa := hca i (by omega)
            have hcz := True.intro
            obtain ⟨x, hx⟩ : ∃ x, x = nthS a i := ⟨_, rfl⟩
            rw [← hx] at qa
            have hm2 : mrg (putS out x) (a.drop (i + 1)) (z.drop (j)) = mrg [] a z := by
              have h := (mrg_left (out := out) (i := i) (j := j) (by omega) (.inl hja)).symm.trans hm
              rw [← hx] at h
              exact h
            by_cases hnn : out.length = 0
            · have ho0 : out = [] := List.length_eq_zero_iff.1 hnn
              have hput : putS out x = out ++ [x] := by rw [ho0]; rfl
              obtain ⟨L7, hL7⟩ : ∃ L, L = out ++ [x] := ⟨_, rfl⟩
              have Hlo : Hid (L7.length ≤ i + 1 + j) := Lib.hid (by rw [hL7, List.length_append]; simp only [List.length_cons, List.length_nil]; omega)
              have Hm2 : Hid (mrg L7 (a.drop (i + 1)) (z.drop (j)) = mrg [] a z) := Lib.hid (by rw [hL7, ← hput]; exact hm2)
              have HL := Lib.hid hL7
              have g0 : ((out.length : Int) == 0) = true := by simp [hnn]
              have hby : (out.length + 1) * 16 ≤ 140737488355328 := by omega
              have HST : Hid (∀ n, St Zf [OlA svl 9 (.slice Ao out.length co) out, OlA svl 9 (.slice Ab z.length cb) z, OlA svl 9 (.slice (some ⟨ba, fa, none⟩) a.length ca) a] w (wr.drewN n)) := Lib.hid fun n => hst.drewN n
              clear hm hm2 hput hL7 hst hro hrz hra hx hlo hcz hca ho0
              go_wp2
              go_quiet (fail)
              go_wp2_with (at_builtin; refine wpList_append_elem _ rfl _ _ 37 rfl 0 9 j0 _ 16 Tryz.underlying37 hj hy0 hy1 hy2 rfl _ out (by rfl) (HST.out nq).ol x (svl_ok x) (by rfl) hby (by omega) (Nat.zero_le _) ?_; intro v7 w7 hown7 hg7 hat7; have h7 := (HST.out nq).grewOl hown7 hg7 hat7 (by simp); rw [← HL.out] at h7 hown7; obtain ⟨A7, c7, rfl, -, -, -, -⟩ := hown7.form; clear hown7 hg7 hat7)
              go_roundw
              case rel => exact ⟨L7, A7, c7, i + 1, j, by omega, by omega, rfl, by go_num, by go_num, Hlo.out, Hm2.out, h7⟩
              case measure => simp [intOf]; omega
            · obtain ⟨m, hm1⟩ : ∃ m, out.length = m + 1 := ⟨out.length - 1, by omega⟩
              have hl := lastS hm1
              obtain ⟨y, hy⟩ : ∃ y, y = nthS out m := ⟨_, rfl⟩
              obtain ⟨bo, fo, rfl, -, hco⟩ := hro.allS (by omega)
              have qo := hco m (by omega)
              rw [← hy] at hl qo
              have g0 : (((m + 1 : Nat) : Int) == 0) = false := by rw [beq_eq_false_iff_ne]; omega
              have hm3 : (0 : Int) ≤ (m : Int) := by omega
              have hmb : m ≤ i + j := by omega
              rw [hm1] at hst ⊢
              by_cases hxy : y = x
              · have f1 : (y.toList == x.toList) = true := by rw [hxy]; exact beq_self_eq_true _
                have hput : putS out x = out := by unfold putS; rw [if_pos (by rw [hl, hxy])]
                have Hm2 : Hid (mrg out (a.drop (i + 1)) (z.drop (j)) = mrg [] a z) := Lib.hid (by rw [← hm2, hput])
                have Hlo : Hid (out.length ≤ i + 1 + j) := Lib.hid (by omega)
                have Hm1 := Lib.hid hm1
                have HST : Hid (∀ n, St Zf [OlA svl 9 (.slice (some ⟨bo, fo, none⟩) (m + 1) co) out, OlA svl 9 (.slice Ab z.length cb) z, OlA svl 9 (.slice (some ⟨ba, fa, none⟩) a.length ca) a] w (wr.drewN n)) := Lib.hid fun n => hst.drewN n
                clear hm hm2 hput hst hro hrz hra hx hlo hcz hca hl hy hxy hco hm1 hnn
                go_wp2
                go_quiet (fail)
                go_wp2
                go_roundw
                case rel => exact ⟨out, some ⟨bo, fo, none⟩, co, i + 1, j, by omega, by omega, by rw [Hm1.out], by go_num, by go_num, Hlo.out, Hm2.out, by rw [Hm1.out]; exact HST.out nq⟩
                case measure => simp [intOf]; omega
              · have f1 : (y.toList == x.toList) = false := by rw [beq_eq_false_iff_ne]; exact fun e => hxy (str_inj e)
                have hput : putS out x = out ++ [x] := by unfold putS; rw [if_neg (by rw [hl]; simpa using hxy)]
                obtain ⟨L7, hL7⟩ : ∃ L, L = out ++ [x] := ⟨_, rfl⟩
                have Hlo : Hid (L7.length ≤ i + 1 + j) := Lib.hid (by rw [hL7, List.length_append]; simp only [List.length_cons, List.length_nil]; omega)
                have Hm2 : Hid (mrg L7 (a.drop (i + 1)) (z.drop (j)) = mrg [] a z) := Lib.hid (by rw [hL7, ← hput]; exact hm2)
                have HL := Lib.hid hL7
                have hby : (out.length + 1) * 16 ≤ 140737488355328 := by omega
                have HST : Hid (∀ n, St Zf [OlA svl 9 (.slice (some ⟨bo, fo, none⟩) (m + 1) co) out, OlA svl 9 (.slice Ab z.length cb) z, OlA svl 9 (.slice (some ⟨ba, fa, none⟩) a.length ca) a] w (wr.drewN n)) := Lib.hid fun n => hst.drewN n
                clear hm hm2 hput hL7 hst hro hrz hra hx hlo hcz hca hl hy hxy hco hm1 hnn
                go_wp2
                go_quiet (fail)
                go_wp2_with (at_builtin; refine wpList_append_elem _ rfl _ _ 37 rfl 0 9 j0 _ 16 Tryz.underlying37 hj hy0 hy1 hy2 rfl _ out (by rfl) (HST.out nq).ol x (svl_ok x) (by rfl) hby (by omega) (Nat.zero_le _) ?_; intro v7 w7 hown7 hg7 hat7; have h7 := (HST.out nq).grewOl hown7 hg7 hat7 (by simp); rw [← HL.out] at h7 hown7; obtain ⟨A7, c7, rfl, -, -, -, -⟩ := hown7.form; clear hown7 hg7 hat7)
                go_roundw
                case rel => exact ⟨L7, A7, c7, i + 1, j, by omega, by omega, rfl, by go_num, by go_num, Hlo.out, Hm2.out, h7⟩
                case measure => simp [intOf]; omega
        · by_cases hia : i = a.length
          · have hz0 : (0 : Int) ≤ (j : Int) := by omega
            have hz1 : (j : Int) < (z.length : Int) := by omega
            have e1 : decide ((i : Int) < (a.length : Int)) = false := decide_eq_false (by omega)
            have e3 : decide ((j : Int) < (z.length : Int)) = true := decide_eq_true (by omega)
            have e2 : ((j : Int) == (z.length : Int)) = false := by rw [beq_eq_false_iff_ne]; omega
            obtain ⟨bz, fz, rfl, -, hcz⟩ := hrz.allS (by omega)
            have qz := hcz j (by omega)
            have hca := True.intro
            obtain ⟨x, hx⟩ : ∃ x, x = nthS z j := ⟨_, rfl⟩
            rw [← hx] at qz
            have hm2 : mrg (putS out x) (a.drop (i)) (z.drop (j + 1)) = mrg [] a z := by
              have h := (mrg_right (out := out) (i := i) (j := j) (by omega) (.inl hia)).symm.trans hm
              rw [← hx] at h
              exact h
            by_cases hnn : out.length = 0
            · have ho0 : out = [] := List.length_eq_zero_iff.1 hnn
              have hput : putS out x = out ++ [x] := by rw [ho0]; rfl
              obtain ⟨L7, hL7⟩ : ∃ L, L = out ++ [x] := ⟨_, rfl⟩
              have Hlo : Hid (L7.length ≤ i + j + 1) := Lib.hid (by rw [hL7, List.length_append]; simp only [List.length_cons, List.length_nil]; omega)
              have Hm2 : Hid (mrg L7 (a.drop (i)) (z.drop (j + 1)) = mrg [] a z) := Lib.hid (by rw [hL7, ← hput]; exact hm2)
              have HL := Lib.hid hL7
              have g0 : ((out.length : Int) == 0) = true := by simp [hnn]
              have hby : (out.length + 1) * 16 ≤ 140737488355328 := by omega
              have HST : Hid (∀ n, St Zf [OlA svl 9 (.slice Ao out.length co) out, OlA svl 9 (.slice (some ⟨bz, fz, none⟩) z.length cb) z, OlA svl 9 (.slice Aa a.length ca) a] w (wr.drewN n)) := Lib.hid fun n => hst.drewN n
              clear hm hm2 hput hL7 hst hro hrz hra hx hlo hcz hca ho0
              go_wp2
              go_quiet (fail)
              go_wp2_with (at_builtin; refine wpList_append_elem _ rfl _ _ 37 rfl 0 9 j0 _ 16 Tryz.underlying37 hj hy0 hy1 hy2 rfl _ out (by rfl) (HST.out nq).ol x (svl_ok x) (by rfl) hby (by omega) (Nat.zero_le _) ?_; intro v7 w7 hown7 hg7 hat7; have h7 := (HST.out nq).grewOl hown7 hg7 hat7 (by simp); rw [← HL.out] at h7 hown7; obtain ⟨A7, c7, rfl, -, -, -, -⟩ := hown7.form; clear hown7 hg7 hat7)
              go_roundw
              case rel => exact ⟨L7, A7, c7, i, j + 1, by omega, by omega, rfl, by go_num, by go_num, Hlo.out, Hm2.out, h7⟩
              case measure => simp [intOf]; omega
            · obtain ⟨m, hm1⟩ : ∃ m, out.length = m + 1 := ⟨out.length - 1, by omega⟩
              have hl := lastS hm1
              obtain ⟨y, hy⟩ : ∃ y, y = nthS out m := ⟨_, rfl⟩
              obtain ⟨bo, fo, rfl, -, hco⟩ := hro.allS (by omega)
              have qo := hco m (by omega)
              rw [← hy] at hl qo
              have g0 : (((m + 1 : Nat) : Int) == 0) = false := by rw [beq_eq_false_iff_ne]; omega
              have hm3 : (0 : Int) ≤ (m : Int) := by omega
              have hmb : m ≤ i + j := by omega
              rw [hm1] at hst ⊢
              by_cases hxy : y = x
              · have f1 : (y.toList == x.toList) = true := by rw [hxy]; exact beq_self_eq_true _
                have hput : putS out x = out := by unfold putS; rw [if_pos (by rw [hl, hxy])]
                have Hm2 : Hid (mrg out (a.drop (i)) (z.drop (j + 1)) = mrg [] a z) := Lib.hid (by rw [← hm2, hput])
                have Hlo : Hid (out.length ≤ i + j + 1) := Lib.hid (by omega)
                have Hm1 := Lib.hid hm1
                have HST : Hid (∀ n, St Zf [OlA svl 9 (.slice (some ⟨bo, fo, none⟩) (m + 1) co) out, OlA svl 9 (.slice (some ⟨bz, fz, none⟩) z.length cb) z, OlA svl 9 (.slice Aa a.length ca) a] w (wr.drewN n)) := Lib.hid fun n => hst.drewN n
                clear hm hm2 hput hst hro hrz hra hx hlo hcz hca hl hy hxy hco hm1 hnn
                go_wp2
                go_quiet (fail)
                go_wp2
                go_roundw
                case rel => exact ⟨out, some ⟨bo, fo, none⟩, co, i, j + 1, by omega, by omega, by rw [Hm1.out], by go_num, by go_num, Hlo.out, Hm2.out, by rw [Hm1.out]; exact HST.out nq⟩
                case measure => simp [intOf]; omega
              · have f1 : (y.toList == x.toList) = false := by rw [beq_eq_false_iff_ne]; exact fun e => hxy (str_inj e)
                have hput : putS out x = out ++ [x] := by unfold putS; rw [if_neg (by rw [hl]; simpa using hxy)]
                obtain ⟨L7, hL7⟩ : ∃ L, L = out ++ [x] := ⟨_, rfl⟩
                have Hlo : Hid (L7.length ≤ i + j + 1) := Lib.hid (by rw [hL7, List.length_append]; simp only [List.length_cons, List.length_nil]; omega)
                have Hm2 : Hid (mrg L7 (a.drop (i)) (z.drop (j + 1)) = mrg [] a z) := Lib.hid (by rw [hL7, ← hput]; exact hm2)
                have HL := Lib.hid hL7
                have hby : (out.length + 1) * 16 ≤ 140737488355328 := by omega
                have HST : Hid (∀ n, St Zf [OlA svl 9 (.slice (some ⟨bo, fo, none⟩) (m + 1) co) out, OlA svl 9 (.slice (some ⟨bz, fz, none⟩) z.length cb) z, OlA svl 9 (.slice Aa a.length ca) a] w (wr.drewN n)) := Lib.hid fun n => hst.drewN n
                clear hm hm2 hput hL7 hst hro hrz hra hx hlo hcz hca hl hy hxy hco hm1 hnn
                go_wp2
                go_quiet (fail)
                go_wp2_with (at_builtin; refine wpList_append_elem _ rfl _ _ 37 rfl 0 9 j0 _ 16 Tryz.underlying37 hj hy0 hy1 hy2 rfl _ out (by rfl) (HST.out nq).ol x (svl_ok x) (by rfl) hby (by omega) (Nat.zero_le _) ?_; intro v7 w7 hown7 hg7 hat7; have h7 := (HST.out nq).grewOl hown7 hg7 hat7 (by simp); rw [← HL.out] at h7 hown7; obtain ⟨A7, c7, rfl, -, -, -, -⟩ := hown7.form; clear hown7 hg7 hat7)
                go_roundw
                case rel => exact ⟨L7, A7, c7, i, j + 1, by omega, by omega, rfl, by go_num, by go_num, Hlo.out, Hm2.out, h7⟩
                case measure => simp [intOf]; omega
          · have ha0 : (0 : Int) ≤ (i : Int) := by omega
            have ha1 : (i : Int) < (a.length : Int) := by omega
            have hz0 : (0 : Int) ≤ (j : Int) := by omega
            have hz1 : (j : Int) < (z.length : Int) := by omega
            have e1 : decide ((i : Int) < (a.length : Int)) = true := decide_eq_true (by omega)
            have e2 : ((j : Int) == (z.length : Int)) = false := by rw [beq_eq_false_iff_ne]; omega
            obtain ⟨ba, fa, rfl, -, hca⟩ := hra.allS (by omega)
            have qa := hca i (by omega)
            obtain ⟨bz, fz, rfl, -, hcz⟩ := hrz.allS (by omega)
            have qz := hcz j (by omega)
            rcases hless : Op.bytesLess (nthS a i).toList (nthS z j).toList with _ | _
            · rcases heq : ((nthS a i).toList == (nthS z j).toList) with _ | _
              · obtain ⟨x, hx⟩ : ∃ x, x = nthS z j := ⟨_, rfl⟩
                rw [← hx] at qz
                obtain ⟨y2, hy2'⟩ : ∃ x, x = nthS a i := ⟨_, rfl⟩
                rw [← hy2'] at qa
                rw [← hx, ← hy2'] at hless heq
                have hm2 : mrg (putS out x) (a.drop (i)) (z.drop (j + 1)) = mrg [] a z := by
                  have h := (mrg_right (out := out) (i := i) (j := j) (by omega) (.inr ⟨by omega, by unfold leS; rw [← hx, ← hy2', hless, heq]; rfl⟩)).symm.trans hm
                  rw [← hx] at h
                  exact h
                by_cases hnn : out.length = 0
                · have ho0 : out = [] := List.length_eq_zero_iff.1 hnn
                  have hput : putS out x = out ++ [x] := by rw [ho0]; rfl
                  obtain ⟨L7, hL7⟩ : ∃ L, L = out ++ [x] := ⟨_, rfl⟩
                  have Hlo : Hid (L7.length ≤ i + j + 1) := Lib.hid (by rw [hL7, List.length_append]; simp only [List.length_cons, List.length_nil]; omega)
                  have Hm2 : Hid (mrg L7 (a.drop (i)) (z.drop (j + 1)) = mrg [] a z) := Lib.hid (by rw [hL7, ← hput]; exact hm2)
                  have HL := Lib.hid hL7
                  have g0 : ((out.length : Int) == 0) = true := by simp [hnn]
                  have hby : (out.length + 1) * 16 ≤ 140737488355328 := by omega
                  have HST : Hid (∀ n, St Zf [OlA svl 9 (.slice Ao out.length co) out, OlA svl 9 (.slice (some ⟨bz, fz, none⟩) z.length cb) z, OlA svl 9 (.slice (some ⟨ba, fa, none⟩) a.length ca) a] w (wr.drewN n)) := Lib.hid fun n => hst.drewN n
                  clear hy2' hm hm2 hput hL7 hst hro hrz hra hx hlo hcz hca ho0
                  go_wp2
                  go_quiet (fail)
                  go_wp2_with (at_builtin; refine wpList_append_elem _ rfl _ _ 37 rfl 0 9 j0 _ 16 Tryz.underlying37 hj hy0 hy1 hy2 rfl _ out (by rfl) (HST.out nq).ol x (svl_ok x) (by rfl) hby (by omega) (Nat.zero_le _) ?_; intro v7 w7 hown7 hg7 hat7; have h7 := (HST.out nq).grewOl hown7 hg7 hat7 (by simp); rw [← HL.out] at h7 hown7; obtain ⟨A7, c7, rfl, -, -, -, -⟩ := hown7.form; clear hown7 hg7 hat7)
                  go_roundw
                  case rel => exact ⟨L7, A7, c7, i, j + 1, by omega, by omega, rfl, by go_num, by go_num, Hlo.out, Hm2.out, h7⟩
                  case measure => simp [intOf]; omega
                · obtain ⟨m, hm1⟩ : ∃ m, out.length = m + 1 := ⟨out.length - 1, by omega⟩
                  have hl := lastS hm1
                  obtain ⟨y, hy⟩ : ∃ y, y = nthS out m := ⟨_, rfl⟩
                  obtain ⟨bo, fo, rfl, -, hco⟩ := hro.allS (by omega)
                  have qo := hco m (by omega)
                  rw [← hy] at hl qo
                  have g0 : (((m + 1 : Nat) : Int) == 0) = false := by rw [beq_eq_false_iff_ne]; omega
                  have hm3 : (0 : Int) ≤ (m : Int) := by omega
                  have hmb : m ≤ i + j := by omega
                  rw [hm1] at hst ⊢
                  by_cases hxy : y = x
                  · have f1 : (y.toList == x.toList) = true := by rw [hxy]; exact beq_self_eq_true _
                    have hput : putS out x = out := by unfold putS; rw [if_pos (by rw [hl, hxy])]
                    have Hm2 : Hid (mrg out (a.drop (i)) (z.drop (j + 1)) = mrg [] a z) := Lib.hid (by rw [← hm2, hput])
                    have Hlo : Hid (out.length ≤ i + j + 1) := Lib.hid (by omega)
                    have Hm1 := Lib.hid hm1
                    have HST : Hid (∀ n, St Zf [OlA svl 9 (.slice (some ⟨bo, fo, none⟩) (m + 1) co) out, OlA svl 9 (.slice (some ⟨bz, fz, none⟩) z.length cb) z, OlA svl 9 (.slice (some ⟨ba, fa, none⟩) a.length ca) a] w (wr.drewN n)) := Lib.hid fun n => hst.drewN n
                    clear hy2' hm hm2 hput hst hro hrz hra hx hlo hcz hca hl hy hxy hco hm1 hnn
                    go_wp2
                    go_quiet (fail)
                    go_wp2
                    go_roundw
                    case rel => exact ⟨out, some ⟨bo, fo, none⟩, co, i, j + 1, by omega, by omega, by rw [Hm1.out], by go_num, by go_num, Hlo.out, Hm2.out, by rw [Hm1.out]; exact HST.out nq⟩
                    case measure => simp [intOf]; omega
                  · have f1 : (y.toList == x.toList) = false := by rw [beq_eq_false_iff_ne]; exact fun e => hxy (str_inj e)
                    have hput : putS out x = out ++ [x] := by unfold putS; rw [if_neg (by rw [hl]; simpa using hxy)]
                    obtain ⟨L7, hL7⟩ : ∃ L, L = out ++ [x] := ⟨_, rfl⟩
                    have Hlo : Hid (L7.length ≤ i + j + 1) := Lib.hid (by rw [hL7, List.length_append]; simp only [List.length_cons, List.length_nil]; omega)
                    have Hm2 : Hid (mrg L7 (a.drop (i)) (z.drop (j + 1)) = mrg [] a z) := Lib.hid (by rw [hL7, ← hput]; exact hm2)
                    have HL := Lib.hid hL7
                    have hby : (out.length + 1) * 16 ≤ 140737488355328 := by omega
                    have HST : Hid (∀ n, St Zf [OlA svl 9 (.slice (some ⟨bo, fo, none⟩) (m + 1) co) out, OlA svl 9 (.slice (some ⟨bz, fz, none⟩) z.length cb) z, OlA svl 9 (.slice (some ⟨ba, fa, none⟩) a.length ca) a] w (wr.drewN n)) := Lib.hid fun n => hst.drewN n
                    clear hy2' hm hm2 hput hL7 hst hro hrz hra hx hlo hcz hca hl hy hxy hco hm1 hnn
                    go_wp2
                    go_quiet (fail)
                    go_wp2_with (at_builtin; refine wpList_append_elem _ rfl _ _ 37 rfl 0 9 j0 _ 16 Tryz.underlying37 hj hy0 hy1 hy2 rfl _ out (by rfl) (HST.out nq).ol x (svl_ok x) (by rfl) hby (by omega) (Nat.zero_le _) ?_; intro v7 w7 hown7 hg7 hat7; have h7 := (HST.out nq).grewOl hown7 hg7 hat7 (by simp); rw [← HL.out] at h7 hown7; obtain ⟨A7, c7, rfl, -, -, -, -⟩ := hown7.form; clear hown7 hg7 hat7)
                    go_roundw
                    case rel => exact ⟨L7, A7, c7, i, j + 1, by omega, by omega, rfl, by go_num, by go_num, Hlo.out, Hm2.out, h7⟩
                    case measure => simp [intOf]; omega
              · obtain ⟨x, hx⟩ : ∃ x, x = nthS a i := ⟨_, rfl⟩
                rw [← hx] at qa
                obtain ⟨y2, hy2'⟩ : ∃ x, x = nthS z j := ⟨_, rfl⟩
                rw [← hy2'] at qz
                rw [← hx, ← hy2'] at hless heq
                have hm2 : mrg (putS out x) (a.drop (i + 1)) (z.drop (j)) = mrg [] a z := by
                  have h := (mrg_left (out := out) (i := i) (j := j) (by omega) (.inr ⟨by omega, by unfold leS; rw [← hx, ← hy2', hless, heq]; rfl⟩)).symm.trans hm
                  rw [← hx] at h
                  exact h
                by_cases hnn : out.length = 0
                · have ho0 : out = [] := List.length_eq_zero_iff.1 hnn
                  have hput : putS out x = out ++ [x] := by rw [ho0]; rfl
                  obtain ⟨L7, hL7⟩ : ∃ L, L = out ++ [x] := ⟨_, rfl⟩
                  have Hlo : Hid (L7.length ≤ i + 1 + j) := Lib.hid (by rw [hL7, List.length_append]; simp only [List.length_cons, List.length_nil]; omega)
                  have Hm2 : Hid (mrg L7 (a.drop (i + 1)) (z.drop (j)) = mrg [] a z) := Lib.hid (by rw [hL7, ← hput]; exact hm2)
                  have HL := Lib.hid hL7
                  have g0 : ((out.length : Int) == 0) = true := by simp [hnn]
                  have hby : (out.length + 1) * 16 ≤ 140737488355328 := by omega
                  have HST : Hid (∀ n, St Zf [OlA svl 9 (.slice Ao out.length co) out, OlA svl 9 (.slice (some ⟨bz, fz, none⟩) z.length cb) z, OlA svl 9 (.slice (some ⟨ba, fa, none⟩) a.length ca) a] w (wr.drewN n)) := Lib.hid fun n => hst.drewN n
                  clear hy2' hm hm2 hput hL7 hst hro hrz hra hx hlo hcz hca ho0
                  go_wp2
                  go_quiet (fail)
                  go_wp2_with (at_builtin; refine wpList_append_elem _ rfl _ _ 37 rfl 0 9 j0 _ 16 Tryz.underlying37 hj hy0 hy1 hy2 rfl _ out (by rfl) (HST.out nq).ol x (svl_ok x) (by rfl) hby (by omega) (Nat.zero_le _) ?_; intro v7 w7 hown7 hg7 hat7; have h7 := (HST.out nq).grewOl hown7 hg7 hat7 (by simp); rw [← HL.out] at h7 hown7; obtain ⟨A7, c7, rfl, -, -, -, -⟩ := hown7.form; clear hown7 hg7 hat7)
                  go_roundw
                  case rel => exact ⟨L7, A7, c7, i + 1, j, by omega, by omega, rfl, by go_num, by go_num, Hlo.out, Hm2.out, h7⟩
                  case measure => simp [intOf]; omega
                · obtain ⟨m, hm1⟩ : ∃ m, out.length = m + 1 := ⟨out.length - 1, by omega⟩
                  have hl := lastS hm1
                  obtain ⟨y, hy⟩ : ∃ y, y = nthS out m := ⟨_, rfl⟩
                  obtain ⟨bo, fo, rfl, -, hco⟩ := hro.allS (by omega)
                  have qo := hco m (by omega)
                  rw [← hy] at hl qo
                  have g0 : (((m + 1 : Nat) : Int) == 0) = false := by rw [beq_eq_false_iff_ne]; omega
                  have hm3 : (0 : Int) ≤ (m : Int) := by omega
                  have hmb : m ≤ i + j := by omega
                  rw [hm1] at hst ⊢
                  by_cases hxy : y = x
                  · have f1 : (y.toList == x.toList) = true := by rw [hxy]; exact beq_self_eq_true _
                    have hput : putS out x = out := by unfold putS; rw [if_pos (by rw [hl, hxy])]
                    have Hm2 : Hid (mrg out (a.drop (i + 1)) (z.drop (j)) = mrg [] a z) := Lib.hid (by rw [← hm2, hput])
                    have Hlo : Hid (out.length ≤ i + 1 + j) := Lib.hid (by omega)
                    have Hm1 := Lib.hid hm1
                    have HST : Hid (∀ n, St Zf [OlA svl 9 (.slice (some ⟨bo, fo, none⟩) (m + 1) co) out, OlA svl 9 (.slice (some ⟨bz, fz, none⟩) z.length cb) z, OlA svl 9 (.slice (some ⟨ba, fa, none⟩) a.length ca) a] w (wr.drewN n)) := Lib.hid fun n => hst.drewN n
                    clear hy2' hm hm2 hput hst hro hrz hra hx hlo hcz hca hl hy hxy hco hm1 hnn
                    go_wp2
                    go_quiet (fail)
                    go_wp2
                    go_roundw
                    case rel => exact ⟨out, some ⟨bo, fo, none⟩, co, i + 1, j, by omega, by omega, by rw [Hm1.out], by go_num, by go_num, Hlo.out, Hm2.out, by rw [Hm1.out]; exact HST.out nq⟩
                    case measure => simp [intOf]; omega
                  · have f1 : (y.toList == x.toList) = false := by rw [beq_eq_false_iff_ne]; exact fun e => hxy (str_inj e)
                    have hput : putS out x = out ++ [x] := by unfold putS; rw [if_neg (by rw [hl]; simpa using hxy)]
                    obtain ⟨L7, hL7⟩ : ∃ L, L = out ++ [x] := ⟨_, rfl⟩
                    have Hlo : Hid (L7.length ≤ i + 1 + j) := Lib.hid (by rw [hL7, List.length_append]; simp only [List.length_cons, List.length_nil]; omega)
                    have Hm2 : Hid (mrg L7 (a.drop (i + 1)) (z.drop (j)) = mrg [] a z) := Lib.hid (by rw [hL7, ← hput]; exact hm2)
                    have HL := Lib.hid hL7
                    have hby : (out.length + 1) * 16 ≤ 140737488355328 := by omega
                    have HST : Hid (∀ n, St Zf [OlA svl 9 (.slice (some ⟨bo, fo, none⟩) (m + 1) co) out, OlA svl 9 (.slice (some ⟨bz, fz, none⟩) z.length cb) z, OlA svl 9 (.slice (some ⟨ba, fa, none⟩) a.length ca) a] w (wr.drewN n)) := Lib.hid fun n => hst.drewN n
                    clear hy2' hm hm2 hput hL7 hst hro hrz hra hx hlo hcz hca hl hy hxy hco hm1 hnn
                    go_wp2
                    go_quiet (fail)
                    go_wp2_with (at_builtin; refine wpList_append_elem _ rfl _ _ 37 rfl 0 9 j0 _ 16 Tryz.underlying37 hj hy0 hy1 hy2 rfl _ out (by rfl) (HST.out nq).ol x (svl_ok x) (by rfl) hby (by omega) (Nat.zero_le _) ?_; intro v7 w7 hown7 hg7 hat7; have h7 := (HST.out nq).grewOl hown7 hg7 hat7 (by simp); rw [← HL.out] at h7 hown7; obtain ⟨A7, c7, rfl, -, -, -, -⟩ := hown7.form; clear hown7 hg7 hat7)
                    go_roundw
                    case rel => exact ⟨L7, A7, c7, i + 1, j, by omega, by omega, rfl, by go_num, by go_num, Hlo.out, Hm2.out, h7⟩
                    case measure => simp [intOf]; omega
            · obtain ⟨x, hx⟩ : ∃ x, x = nthS a i := ⟨_, rfl⟩
              rw [← hx] at qa
              obtain ⟨y2, hy2'⟩ : ∃ x, x = nthS z j := ⟨_, rfl⟩
              rw [← hy2'] at qz
              rw [← hx, ← hy2'] at hless
              have hm2 : mrg (putS out x) (a.drop (i + 1)) (z.drop (j)) = mrg [] a z := by
                have h := (mrg_left (out := out) (i := i) (j := j) (by omega) (.inr ⟨by omega, by unfold leS; rw [← hx, ← hy2', hless]; rfl⟩)).symm.trans hm
                rw [← hx] at h
                exact h
              by_cases hnn : out.length = 0
              · have ho0 : out = [] := List.length_eq_zero_iff.1 hnn
                have hput : putS out x = out ++ [x] := by rw [ho0]; rfl
                obtain ⟨L7, hL7⟩ : ∃ L, L = out ++ [x] := ⟨_, rfl⟩
                have Hlo : Hid (L7.length ≤ i + 1 + j) := Lib.hid (by rw [hL7, List.length_append]; simp only [List.length_cons, List.length_nil]; omega)
                have Hm2 : Hid (mrg L7 (a.drop (i + 1)) (z.drop (j)) = mrg [] a z) := Lib.hid (by rw [hL7, ← hput]; exact hm2)
                have HL := Lib.hid hL7
                have g0 : ((out.length : Int) == 0) = true := by simp [hnn]
                have hby : (out.length + 1) * 16 ≤ 140737488355328 := by omega
                have HST : Hid (∀ n, St Zf [OlA svl 9 (.slice Ao out.length co) out, OlA svl 9 (.slice (some ⟨bz, fz, none⟩) z.length cb) z, OlA svl 9 (.slice (some ⟨ba, fa, none⟩) a.length ca) a] w (wr.drewN n)) := Lib.hid fun n => hst.drewN n
                clear hy2' hm hm2 hput hL7 hst hro hrz hra hx hlo hcz hca ho0
                go_wp2
                go_quiet (fail)
                go_wp2_with (at_builtin; refine wpList_append_elem _ rfl _ _ 37 rfl 0 9 j0 _ 16 Tryz.underlying37 hj hy0 hy1 hy2 rfl _ out (by rfl) (HST.out nq).ol x (svl_ok x) (by rfl) hby (by omega) (Nat.zero_le _) ?_; intro v7 w7 hown7 hg7 hat7; have h7 := (HST.out nq).grewOl hown7 hg7 hat7 (by simp); rw [← HL.out] at h7 hown7; obtain ⟨A7, c7, rfl, -, -, -, -⟩ := hown7.form; clear hown7 hg7 hat7)
                go_roundw
                case rel => exact ⟨L7, A7, c7, i + 1, j, by omega, by omega, rfl, by go_num, by go_num, Hlo.out, Hm2.out, h7⟩
                case measure => simp [intOf]; omega
              · obtain ⟨m, hm1⟩ : ∃ m, out.length = m + 1 := ⟨out.length - 1, by omega⟩
                have hl := lastS hm1
                obtain ⟨y, hy⟩ : ∃ y, y = nthS out m := ⟨_, rfl⟩
                obtain ⟨bo, fo, rfl, -, hco⟩ := hro.allS (by omega)
                have qo := hco m (by omega)
                rw [← hy] at hl qo
                have g0 : (((m + 1 : Nat) : Int) == 0) = false := by rw [beq_eq_false_iff_ne]; omega
                have hm3 : (0 : Int) ≤ (m : Int) := by omega
                have hmb : m ≤ i + j := by omega
                rw [hm1] at hst ⊢
                by_cases hxy : y = x
                · have f1 : (y.toList == x.toList) = true := by rw [hxy]; exact beq_self_eq_true _
                  have hput : putS out x = out := by unfold putS; rw [if_pos (by rw [hl, hxy])]
                  have Hm2 : Hid (mrg out (a.drop (i + 1)) (z.drop (j)) = mrg [] a z) := Lib.hid (by rw [← hm2, hput])
                  have Hlo : Hid (out.length ≤ i + 1 + j) := Lib.hid (by omega)
                  have Hm1 := Lib.hid hm1
                  have HST : Hid (∀ n, St Zf [OlA svl 9 (.slice (some ⟨bo, fo, none⟩) (m + 1) co) out, OlA svl 9 (.slice (some ⟨bz, fz, none⟩) z.length cb) z, OlA svl 9 (.slice (some ⟨ba, fa, none⟩) a.length ca) a] w (wr.drewN n)) := Lib.hid fun n => hst.drewN n
                  clear hy2' hm hm2 hput hst hro hrz hra hx hlo hcz hca hl hy hxy hco hm1 hnn
                  go_wp2
                  go_quiet (fail)
                  go_wp2
                  go_roundw
                  case rel => exact ⟨out, some ⟨bo, fo, none⟩, co, i + 1, j, by omega, by omega, by rw [Hm1.out], by go_num, by go_num, Hlo.out, Hm2.out, by rw [Hm1.out]; exact HST.out nq⟩
                  case measure => simp [intOf]; omega
                · have f1 : (y.toList == x.toList) = false := by rw [beq_eq_false_iff_ne]; exact fun e => hxy (str_inj e)
                  have hput : putS out x = out ++ [x] := by unfold putS; rw [if_neg (by rw [hl]; simpa using hxy)]
                  obtain ⟨L7, hL7⟩ : ∃ L, L = out ++ [x] := ⟨_, rfl⟩
                  have Hlo : Hid (L7.length ≤ i + 1 + j) := Lib.hid (by rw [hL7, List.length_append]; simp only [List.length_cons, List.length_nil]; omega)
                  have Hm2 : Hid (mrg L7 (a.drop (i + 1)) (z.drop (j)) = mrg [] a z) := Lib.hid (by rw [hL7, ← hput]; exact hm2)
                  have HL := Lib.hid hL7
                  have hby : (out.length + 1) * 16 ≤ 140737488355328 := by omega
                  have HST : Hid (∀ n, St Zf [OlA svl 9 (.slice (some ⟨bo, fo, none⟩) (m + 1) co) out, OlA svl 9 (.slice (some ⟨bz, fz, none⟩) z.length cb) z, OlA svl 9 (.slice (some ⟨ba, fa, none⟩) a.length ca) a] w (wr.drewN n)) := Lib.hid fun n => hst.drewN n
                  clear hy2' hm hm2 hput hL7 hst hro hrz hra hx hlo hcz hca hl hy hxy hco hm1 hnn
                  go_wp2
                  go_quiet (fail)
                  go_wp2_with (at_builtin; refine wpList_append_elem _ rfl _ _ 37 rfl 0 9 j0 _ 16 Tryz.underlying37 hj hy0 hy1 hy2 rfl _ out (by rfl) (HST.out nq).ol x (svl_ok x) (by rfl) hby (by omega) (Nat.zero_le _) ?_; intro v7 w7 hown7 hg7 hat7; have h7 := (HST.out nq).grewOl hown7 hg7 hat7 (by simp); rw [← HL.out] at h7 hown7; obtain ⟨A7, c7, rfl, -, -, -, -⟩ := hown7.form; clear hown7 hg7 hat7)
                  go_roundw
                  case rel => exact ⟨L7, A7, c7, i + 1, j, by omega, by omega, rfl, by go_num, by go_num, Hlo.out, Hm2.out, h7⟩
                  case measure => simp [intOf]; omega
end Go.Proofs.YthnaipgdjbaebaaGreat
