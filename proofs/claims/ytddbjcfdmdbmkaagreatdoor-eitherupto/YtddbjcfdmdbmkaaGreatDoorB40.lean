import Derived.Test.YtddbjcfdmdbmkaaGreatDoorB24
import Derived.Test.YtddbjcfdmdbmkaaGreatDoorB39
import Derived.Test.YtddbjcfdmdbmkaaGreatDoorB20
import Derived.Test.YtddbjcfdmdbmkaaGreatDoorB32
set_option linter.unusedVariables false
set_option linter.unusedSimpArgs false
namespace Go.Proofs.YtddbjcfdmdbmkaaGreatDoor
open Go.RowKit

def bindB (names : List ByteArray) (o : BOp) : ByteArray × Nat := (o.1, if isFieldB o.1 then stepOfP o.2.2 names else o.2.1)
def askL (names : List ByteArray) (x : Lf) : WWant := ⟨x.kind, x.cond.map (bindB (names ++ [x.name]))⟩
def accL (a : WAcc) (x : Lf) : WAcc :=
  if x.step then ⟨a.steps ++ [⟨askL a.names x, a.guards⟩], a.names ++ [x.name], []⟩ else ⟨a.steps, a.names, a.guards ++ [askL a.names x]⟩
def stepsL (E : List Lf) : List WStep := (E.foldl accL ⟨[], [], []⟩).steps
theorem ask_bare (names : List ByteArray) (p : PPart) : askP names p = askL names p.bare := by
  unfold askP askL PPart.bare
  rw [List.map_map]
  rfl
theorem acc_bare (a : WAcc) (p : PPart) : accP a p = accL a p.bare := by
  unfold accP accL
  rw [step_bare, ask_bare]
  rfl
theorem steps_bare (l : List PPart) : stepsP l = stepsL (l.map PPart.bare) := by
  unfold stepsP stepsAcc stepsL
  rw [List.take_length]
  generalize (⟨[], [], []⟩ : WAcc) = a
  induction l generalizing a with
  | nil => rfl
  | cons p l ih => rw [List.foldl_cons, List.map_cons, List.foldl_cons, ← acc_bare]; exact ih _
def wellA : List BOp → Nat → Bool
  | [], h => decide (1 ≤ h)
  | o :: l, h => decide (arityP (o.1, 0) ≤ h) && wellA l (h - arityP (o.1, 0) + 1)
theorem do_len (es : List Ev) (it : Ev) (s : List Int × Bool) (o : ByteArray × Nat) (h : arityP o ≤ s.1.length) : (doP es it s o).1.length = s.1.length - arityP o + 1 := by
  unfold arityP at h ⊢
  unfold doP
  generalize o.1.toList = t at *
  by_cases h1 : (t == [112, 117, 115, 104]) = true
  · simp [h1]
  by_cases h2 : (t == [97]) = true
  · simp [h1, h2]
  by_cases h3 : (t == [98]) = true
  · simp [h1, h2, h3]
  by_cases h4 : (t == [99]) = true
  · simp [h1, h2, h3, h4]
  by_cases h5 : (t == [116]) = true
  · simp [h1, h2, h3, h4, h5]
  by_cases h6 : (t == [111, 112, 112, 111, 115, 105, 116, 101]) = true
  · simp [h1, h2, h3, h4, h5, h6]
  · simp [h1, h2, h3, h4, h5, h6] at h ⊢
    omega
theorem well_run {ops : List (ByteArray × Nat)} {bo : List BOp} (e : ops.map (·.1) = bo.map (·.1)) (hl : bo.length ≤ 10000) (h : bo = [] ∨ wellA bo 0 = true) : WellRun ops := by
  have hlen : ops.length = bo.length := by have := congrArg List.length e; simpa using this
  have key : ∀ (es : List Ev) (it : Ev) (bo : List BOp) (ops : List (ByteArray × Nat)) (s : List Int × Bool), ops.map (·.1) = bo.map (·.1) → wellA bo s.1.length = true → (∀ k, (h : k < ops.length) → arityP ops[k] ≤ ((ops.take k).foldl (doP es it) s).1.length) ∧ 1 ≤ (ops.foldl (doP es it) s).1.length := by
    intro es it bo
    induction bo with
    | nil =>
      intro ops s e h
      have : ops = [] := by simpa using e
      subst this
      exact ⟨fun k h => by simp at h, by simpa [wellA] using h⟩
    | cons o bo ih =>
      intro ops s e h
      cases ops with
      | nil => simp at e
      | cons x ops =>
        simp only [List.map_cons, List.cons.injEq] at e
        have ha : arityP x = arityP (o.1, 0) := by unfold arityP; rw [e.1]
        unfold wellA at h
        rw [Bool.and_eq_true, decide_eq_true_eq, ← ha] at h
        have hd := do_len es it s x h.1
        obtain ⟨r1, r2⟩ := ih ops (doP es it s x) e.2 (by rw [hd]; exact h.2)
        refine ⟨fun k hk => ?_, by rw [List.foldl_cons]; exact r2⟩
        cases k with
        | zero => simpa using h.1
        | succ k =>
          have := r1 k (by simpa using hk)
          simpa using this
  rcases h with rfl | h
  · have : ops = [] := by simpa using e
    subst this
    exact ⟨by simp, fun _ _ k h => by simp at h, fun _ _ h => by simp at h⟩
  · refine ⟨by omega, fun es it k hk => ?_, fun es it _ => ?_⟩
    · unfold runP
      exact (key es it bo ops ([], false) e h).1 k hk
    · unfold runP
      rw [List.take_length]
      exact (key es it bo ops ([], false) e h).2
def okC (E : List Lf) : Bool := E.all fun x => decide (x.cond.length ≤ 1000) && (x.cond.isEmpty || wellA x.cond 0)
theorem ask_well {names : List ByteArray} {x : Lf} (h : (decide (x.cond.length ≤ 1000) && (x.cond.isEmpty || wellA x.cond 0)) = true) : WellRun (askL names x).cond := by
  simp only [Bool.and_eq_true, decide_eq_true_eq, Bool.or_eq_true, List.isEmpty_iff] at h
  refine well_run (bo := x.cond) ?_ (by omega) h.2
  unfold askL
  simp only [List.map_map]
  rfl
theorem acc_well (E : List Lf) (h : okC E = true) : ∀ (a : WAcc) (k : Nat), (∀ s ∈ a.steps, WellRun s.want.cond ∧ (∀ g ∈ s.guards, WellRun g.cond) ∧ s.guards.length ≤ k) → (∀ g ∈ a.guards, WellRun g.cond) → a.guards.length ≤ k → (∀ s ∈ (E.foldl accL a).steps, WellRun s.want.cond ∧ (∀ g ∈ s.guards, WellRun g.cond) ∧ s.guards.length ≤ k + E.length) ∧ (E.foldl accL a).steps.length = a.steps.length + cntL E := by
  induction E with
  | nil => intro a k h1 h2 h3; exact ⟨h1, rfl⟩
  | cons x E ih =>
    intro a k h1 h2 h3
    unfold okC at h
    rw [List.all_cons, Bool.and_eq_true] at h
    have hx := ask_well (names := a.names) h.1
    rw [List.foldl_cons]
    cases hs : x.step with
    | true =>
      have ea : accL a x = ⟨a.steps ++ [⟨askL a.names x, a.guards⟩], a.names ++ [x.name], []⟩ := by unfold accL; rw [hs, if_pos rfl]
      rw [ea]
      obtain ⟨r1, r2⟩ := ih h.2 ⟨a.steps ++ [⟨askL a.names x, a.guards⟩], a.names ++ [x.name], []⟩ (k + 1) (fun s hs => by
        rcases List.mem_append.1 hs with hs | hs
        · exact ⟨(h1 s hs).1, (h1 s hs).2.1, by have := (h1 s hs).2.2; omega⟩
        · rw [List.mem_singleton.1 hs]; exact ⟨hx, h2, by simp only; omega⟩) (fun g hg => by simp at hg) (by simp)
      refine ⟨fun s hs => ⟨(r1 s hs).1, (r1 s hs).2.1, by have := (r1 s hs).2.2; rw [List.length_cons]; omega⟩, ?_⟩
      rw [r2]
      unfold cntL
      rw [List.filter_cons_of_pos hs]
      simp; omega
    | false =>
      have ea : accL a x = ⟨a.steps, a.names, a.guards ++ [askL a.names x]⟩ := by unfold accL; rw [hs, if_neg (by decide)]
      rw [ea]
      obtain ⟨r1, r2⟩ := ih h.2 ⟨a.steps, a.names, a.guards ++ [askL a.names x]⟩ (k + 1) (fun s hs => ⟨(h1 s hs).1, (h1 s hs).2.1, by have := (h1 s hs).2.2; omega⟩) (fun g hg => by
        rcases List.mem_append.1 hg with hg | hg
        · exact h2 g hg
        · rw [List.mem_singleton.1 hg]; exact hx) (by simp; omega)
      refine ⟨fun s hs => ⟨(r1 s hs).1, (r1 s hs).2.1, by have := (r1 s hs).2.2; rw [List.length_cons]; omega⟩, ?_⟩
      rw [r2]
      unfold cntL
      rw [List.filter_cons_of_neg (by simp [hs])]
theorem steps_well {E : List Lf} (h : okC E = true) (hl : E.length ≤ 1000) : (∀ s ∈ stepsL E, WellS s) ∧ (stepsL E).length = cntL E := by
  obtain ⟨r1, r2⟩ := acc_well E h ⟨[], [], []⟩ 0 (fun s hs => by simp at hs) (fun g hg => by simp at hg) (by simp)
  refine ⟨fun s hs => ⟨(r1 s hs).1, (r1 s hs).2.1, ?_⟩, by unfold stepsL; rw [r2]; simp⟩
  have := (r1 s hs).2.2
  omega
end Go.Proofs.YtddbjcfdmdbmkaaGreatDoor

namespace Go.Proofs.YtddbjcfdmdbmkaaGreatDoor
open Go.RowKit

structure TextOK (S : ByteArray) (W R bd : Nat) (paths : List (List WStep)) : Prop where
  her : ∃ body ps, herP S = .inl (⟨W, R, body⟩, bd, ps) ∧ ps.map stepsP = paths ∧ ps.length ≤ 1000 ∧ ∀ l ∈ ps, l.length ≤ 100000 ∧ l ≠ [] ∧ ∀ p ∈ l, p.cond.length ≤ 1000000
  well : ∀ pv svs, WellE ⟨W, R, pv, paths, svs⟩
  bnd : boundA R (absP paths) = bd
def okX (xs : List Lf) : Bool := okF xs && okC (rowL xs) && decide ((rowL xs).length ≤ 1000) && decide (1 ≤ cntL (rowL xs)) && decide (cntL (rowL xs) ≤ 8)
theorem okX_parts {xs : List Lf} (h : okX xs = true) : okF xs = true ∧ okC (rowL xs) = true ∧ (rowL xs).length ≤ 1000 ∧ 1 ≤ cntL (rowL xs) ∧ cntL (rowL xs) ≤ 8 := by
  unfold okX at h
  simp only [Bool.and_eq_true, decide_eq_true_eq] at h
  exact ⟨h.1.1.1.1, h.1.1.1.2, h.1.1.2, h.1.2, h.2⟩
theorem most_le : ((List.range 13).all fun r => (List.range 9).all fun s => decide (mostP r s ≤ 3301)) = true := by kernel_rfl
theorem mostP_le {r s : Nat} (hr : r ≤ 12) (hs : s ≤ 8) : mostP r s ≤ 3301 := by
  have := List.all_eq_true.1 most_le r (List.mem_range.2 (by omega))
  have := List.all_eq_true.1 this s (List.mem_range.2 (by omega))
  simpa using this
theorem row_okay {xs : List Lf} {ps : List PPart} (h : Flat xs ps) (hx : okX xs = true) : (ps.flatMap expP).length ≤ 100000 ∧ ps.flatMap expP ≠ [] ∧ ∀ p ∈ ps.flatMap expP, p.cond.length ≤ 1000000 := by
  obtain ⟨_, h2, h3, h4, _⟩ := okX_parts hx
  have e := row_bare ps
  rw [h.1] at e
  have hl : (rowL xs).length = (ps.flatMap expP).length := by rw [← e, List.length_map]
  refine ⟨by omega, fun hn => ?_, fun p hp => ?_⟩
  · rw [hn] at e
    rw [← e] at h4
    simp [cntL] at h4
  · unfold okC at h2
    rw [List.all_eq_true] at h2
    have := h2 p.bare (e ▸ List.mem_map_of_mem hp)
    simp only [Bool.and_eq_true, decide_eq_true_eq] at this
    have h5 := this.1
    unfold PPart.bare at h5
    simp only [List.length_map] at h5
    omega
theorem row_steps {xs : List Lf} {ps : List PPart} (h : Flat xs ps) : stepsP (ps.flatMap expP) = stepsL (rowL xs) := by
  rw [steps_bare, row_bare, h.1]
theorem bound_one {R : Nat} {xs : List Lf} (hR : R ≤ 12) (hx : okX xs = true) : sumCho R (((stepsL (rowL xs)).map stepA).length - 1) = mostP R (cntL (rowL xs)) := by
  obtain ⟨_, h2, h3, h4, h5⟩ := okX_parts hx
  rw [List.length_map, (steps_well h2 h3).2]
  exact sumCho_most hR (by omega)
theorem text_flat {S : ByteArray} {m : Nat} {g W R : List UInt8} {L : List Pc} {xs : List Lf} (hS : S.data.toList = layL (headPc g W R ++ L)) (hok : okN 0 (headPc g W R ++ L) = true) (hz : S.size ≤ 600) (hm : m ≤ 8) (hW : 1 ≤ numVal (txt W) ∧ numVal (txt W) ≤ 1000000) (hR : 1 ≤ numVal (txt R) ∧ numVal (txt R) ≤ 12) (hL : 3 ≤ L.length) (hQ : ∀ n, RdQ m (n + 8) L xs) (hx : okX xs = true) :
    TextOK S (numVal (txt W)) (numVal (txt R)) (mostP (numVal (txt R)) (cntL (rowL xs))) [stepsL (rowL xs)] := by
  obtain ⟨h1, h2, h3, h4, h5⟩ := okX_parts hx
  have hb := mostP_le hR.2 h5
  obtain ⟨body, hf, hh⟩ := her_flat hS hok hz hm hW hR hL hQ h1 (by omega)
  have hbd : boundA (numVal (txt R)) (absP [stepsL (rowL xs)]) = mostP (numVal (txt R)) (cntL (rowL xs)) := by
    unfold boundA absP
    simp only [List.map_cons, List.map_nil, List.sum_cons, List.sum_nil, Nat.add_zero]
    exact bound_one hR.2 hx
  have hw := steps_well h2 h3
  refine ⟨⟨body, _, hh, by rw [List.map_cons, row_steps hf, List.map_nil], by simp, fun l hl => ?_⟩, fun pv svs => ⟨⟨hW.1, hW.2, by show numVal (txt R) ≤ 1000; omega, fun p hp s hs => ?_, fun p hp => ?_, by simp⟩, by show boundA (numVal (txt R)) (absP [stepsL (rowL xs)]) ≤ 4000; omega⟩, hbd⟩
  · rw [List.mem_singleton.1 hl]; exact row_okay hf hx
  · rw [List.mem_singleton.1 hp] at hs; exact hw.1 s hs
  · rw [List.mem_singleton.1 hp, hw.2]; omega
theorem text_two {S : ByteArray} {m : Nat} {g W R : List UInt8} {L : List Pc} {xs ys : List Lf} (hS : S.data.toList = layL (headPc g W R ++ L)) (hok : okN 0 (headPc g W R ++ L) = true) (hz : S.size ≤ 600) (hm : m ≤ 8) (hW : 1 ≤ numVal (txt W) ∧ numVal (txt W) ≤ 1000000) (hR : 1 ≤ numVal (txt R) ∧ numVal (txt R) ≤ 12) (hL : 3 ≤ L.length) (hQ : ∀ n, RdG m (n + 8) L (TwoB xs ys)) (hx : okX xs = true) (hy : okX ys = true) (hb : mostP (numVal (txt R)) (cntL (rowL xs)) + mostP (numVal (txt R)) (cntL (rowL ys)) ≤ 4000) :
    TextOK S (numVal (txt W)) (numVal (txt R)) (mostP (numVal (txt R)) (cntL (rowL xs)) + mostP (numVal (txt R)) (cntL (rowL ys))) [stepsL (rowL xs), stepsL (rowL ys)] := by
  obtain ⟨h1, h2, h3, h4, h5⟩ := okX_parts hx
  obtain ⟨g1, g2, g3, g4, g5⟩ := okX_parts hy
  obtain ⟨body, a, b, hf, hf2, hh⟩ := her_two hS hok hz hm hW hR hL hQ h1 g1 hb
  have hbd : boundA (numVal (txt R)) (absP [stepsL (rowL xs), stepsL (rowL ys)]) = mostP (numVal (txt R)) (cntL (rowL xs)) + mostP (numVal (txt R)) (cntL (rowL ys)) := by
    unfold boundA absP
    simp only [List.map_cons, List.map_nil, List.sum_cons, List.sum_nil, Nat.add_zero]
    rw [bound_one hR.2 hx, bound_one hR.2 hy]
  have hw := steps_well h2 h3
  have hv := steps_well g2 g3
  refine ⟨⟨body, _, hh, by rw [List.map_cons, List.map_cons, row_steps hf, row_steps hf2, List.map_nil], by simp, fun l hl => ?_⟩, fun pv svs => ⟨⟨hW.1, hW.2, by show numVal (txt R) ≤ 1000; omega, fun p hp s hs => ?_, fun p hp => ?_, by simp⟩, by show boundA (numVal (txt R)) (absP [stepsL (rowL xs), stepsL (rowL ys)]) ≤ 4000; omega⟩, hbd⟩
  · simp only [List.mem_cons, List.not_mem_nil, or_false] at hl
    rcases hl with rfl | rfl
    · exact row_okay hf hx
    · exact row_okay hf2 hy
  · simp only [List.mem_cons, List.not_mem_nil, or_false] at hp
    rcases hp with rfl | rfl
    · exact hw.1 s hs
    · exact hv.1 s hs
  · simp only [List.mem_cons, List.not_mem_nil, or_false] at hp
    rcases hp with rfl | rfl
    · rw [hw.2]; omega
    · rw [hv.2]; omega
theorem compile_text {S : ByteArray} {W R bd : Nat} {paths : List (List WStep)} (h : TextOK S W R bd paths) (w : World) :
    Calls Tryz.prog 15 #[.string S] w fun x w' => ∃ E Z pv svs, x = .returned (.tuple #[.pointer (some ⟨E, 0, none⟩), .int .i64 0, .int .i64 0]) ∧ Below w.heap.size w w' ∧ (∀ b, Z b → w.heap.size ≤ b) ∧ Eng Z w' E bd 0 ⟨W, R, pv, paths, svs⟩ [] := by
  obtain ⟨body, ps, h1, rfl, h3, h4⟩ := h.her
  exact compile_eng0 S w h1 ⟨h3, h4⟩
end Go.Proofs.YtddbjcfdmdbmkaaGreatDoor

namespace Go.Proofs.YtddbjcfdmdbmkaaGreatDoor
open Go.RowKit

def decN : Nat → Nat → List UInt8
  | 0, _ => []
  | f + 1, n => if n < 10 then [UInt8.ofNat (48 + n)] else decN f (n / 10) ++ [UInt8.ofNat (48 + n % 10)]
def decL (n : Nat) : List UInt8 := decN (n + 1) n
theorem dec_fuel : ∀ f g n, n < f → n < g → decN f n = decN g n := by
  intro f
  induction f with
  | zero => intro g n h; omega
  | succ f ih =>
    intro g n h1 h2
    cases g with
    | zero => omega
    | succ g =>
      unfold decN
      split
      · rfl
      · rw [ih g (n / 10) (by omega) (by omega)]
theorem dec_step {n : Nat} (h : ¬ n < 10) : decL n = decL (n / 10) ++ [UInt8.ofNat (48 + n % 10)] := by
  unfold decL
  conv => lhs; unfold decN
  rw [if_neg h, dec_fuel n (n / 10 + 1) (n / 10) (by omega) (by omega)]
theorem dec_small {n : Nat} (h : n < 10) : decL n = [UInt8.ofNat (48 + n)] := by unfold decL decN; rw [if_pos h]
theorem dec_digit {d : Nat} (h : d < 10) : isDigitB (UInt8.ofNat (48 + d)) = true ∧ (UInt8.ofNat (48 + d)).toNat - 48 = d := by
  have key : ∀ d : Fin 10, isDigitB (UInt8.ofNat (48 + d.val)) = true ∧ (UInt8.ofNat (48 + d.val)).toNat - 48 = d.val := by decide +kernel
  exact key ⟨d, h⟩
theorem dec_all (n : Nat) : (decL n).all isDigitB = true ∧ 1 ≤ (decL n).length ∧ numVal (txt (decL n)) = n := by
  induction n using Nat.strongRecOn with
  | _ n ih =>
    by_cases h : n < 10
    · rw [dec_small h]
      refine ⟨by simp only [List.all_cons, List.all_nil, (dec_digit h).1, Bool.and_true], by simp, ?_⟩
      unfold numVal txt
      simp only [List.toList_toArray, List.foldl_cons, List.foldl_nil, (dec_digit h).2]
      omega
    · obtain ⟨h1, h2, h3⟩ := ih (n / 10) (by omega)
      rw [dec_step h]
      have hd := dec_digit (show n % 10 < 10 by omega)
      refine ⟨by rw [List.all_append, h1]; simp only [List.all_cons, List.all_nil, hd.1, Bool.and_true], by simp, ?_⟩
      unfold numVal txt at h3 ⊢
      simp only [List.toList_toArray] at h3 ⊢
      rw [List.foldl_append, h3]
      simp only [List.foldl_cons, List.foldl_nil, hd.2]
      omega
theorem dec_len : ∀ k n, n < 10 ^ (k + 1) → (decL n).length ≤ k + 1 := by
  intro k
  induction k with
  | zero => intro n h; rw [dec_small (by simpa using h)]; simp
  | succ k ih =>
    intro n h
    by_cases h10 : n < 10
    · rw [dec_small h10]; simp
    · rw [dec_step h10, List.length_append]
      have := ih (n / 10) (by rw [Nat.pow_succ] at h; omega)
      simp; omega
def tenK : ByteArray := ⟨#[48, 49, 50, 51, 52, 53, 54, 55, 56, 57]⟩
theorem tenK_at (d : Nat) (h : d < 10) : tenK.extract d (d + 1) = ⟨[UInt8.ofNat (48 + d)].toArray⟩ := by
  have key : ∀ d : Fin 10, (tenK.extract d.val (d.val + 1)).data.toList = [UInt8.ofNat (48 + d.val)] := by decide +kernel
  apply ByteArray.ext
  apply Array.toList_inj.1
  have := key ⟨d, h⟩
  simpa using this
def decR (n : Nat) (v : Nat) (m : List UInt8) : Prop := (if v = 0 then m else decL v ++ m) = decL n
theorem decR_start (n : Nat) : decR n (n / 10) [UInt8.ofNat (48 + n % 10)] := by
  unfold decR
  by_cases h : n < 10
  · rw [if_pos (by omega), dec_small h, Nat.mod_eq_of_lt h]
  · rw [if_neg (by omega), ← dec_step h]
theorem decR_step {n v : Nat} {m : List UInt8} (h : decR n v m) (hv : 0 < v) : decR n (v / 10) (UInt8.ofNat (48 + v % 10) :: m) := by
  have := decR_start v
  unfold decR at h this ⊢
  rw [if_neg (by omega)] at h
  rw [← h, ← this]
  split
  · simp
  · simp
theorem decR_len {n v : Nat} {m : List UInt8} (hn : n ≤ 1000000000000) (h : decR n v m) : m.length ≤ 13 := by
  have h1 := dec_len 12 n (by omega)
  have h2 := congrArg List.length h
  split at h2
  · omega
  · rw [List.length_append] at h2; omega
set_option maxRecDepth 100000 in
set_option maxHeartbeats 1600000 in
theorem decimal_p (n : Nat) (hn : n ≤ 1000000000000) (w : World) : Calls Tryz.prog 33 #[.int .i64 n] w fun e w' => e = .returned (.string (txt (decL n))) ∧ w' = w := by
  have hs := decR_start n
  have hx := tenK_at (n % 10) (by omega)
  unfold tenK at hx
  have h0 : (0 : Int) ≤ (n : Int) := by omega
  go_enter Tryz.func33, Tryz.ntmps33
  go_wp2
  go_loopw [0, 4] (fun a b wr => ∃ (v : Nat) (m : List UInt8), v ≤ 1000000000000 ∧ a = .int .i64 v ∧ b = .string ⟨m.toArray⟩ ∧ decR n v m ∧ wr = w) (fun a _ _ => (intOf a).toNat)
  case atStart => exact ⟨n / 10, _, by omega, by simp, by rw [hx], hs, rfl⟩
  case round =>
    obtain ⟨v, m, hv, rfl, rfl, hr, rfl⟩ := hrel
    clear hs hx
    by_cases hp : 0 < v
    · have hp' : (0 : Int) < (v : Int) := by omega
      have h0v : (0 : Int) ≤ (v : Int) := by omega
      have hx := tenK_at (v % 10) (by omega)
      unfold tenK at hx
      have hst := decR_step hr hp
      have hml : ¬ 9223372036854775807 < 1 + m.length := by have := decR_len hn hr; omega
      go_wp2
      go_roundw
      case rel => exact ⟨v / 10, UInt8.ofNat (48 + v % 10) :: m, by omega, by simp, by congr 1; apply ByteArray.ext; simp, hst, trivial⟩
      case measure => simp [intOf]; omega
    · have hp' : v = 0 := by omega
      subst hp'
      go_wp2
      go_ret
      have : decL n = m := by unfold decR at hr; rw [if_pos rfl] at hr; exact hr.symm
      unfold txt
      rw [this]; exact ⟨rfl, rfl⟩
end Go.Proofs.YtddbjcfdmdbmkaaGreatDoor

namespace Go.Proofs.YtddbjcfdmdbmkaaGreatDoor
open Go.RowKit

def st1 : List ByteArray := [] ++ [tStar, tSlash]
def st2 : List ByteArray := st1 ++ [tPlus, tMinus]
def st3 : List ByteArray := st2 ++ [tAnd]
def st4 : List ByteArray := st3 ++ [tOr]
theorem st_a : ∀ s ∈ [tStar, tSlash], off [] s = true := fun _ _ => rfl
theorem st_b : ∀ s ∈ [tPlus, tMinus], off st1 s = true := by
  intro s hs
  simp only [List.mem_cons, List.not_mem_nil, or_false] at hs
  rcases hs with rfl | rfl <;> kernel_rfl
theorem st_c : ∀ s ∈ sTest, off st2 s = true := by
  intro s hs
  unfold sTest at hs
  simp only [List.mem_cons, List.not_mem_nil, or_false] at hs
  rcases hs with rfl | rfl | rfl | rfl | rfl | rfl <;> kernel_rfl
theorem st_d : ∀ s ∈ [tAnd], off st2 s = true := by
  intro s hs
  rw [List.mem_singleton.1 hs]; kernel_rfl
theorem st_e : ∀ s ∈ [tOr], off st3 s = true := by
  intro s hs
  rw [List.mem_singleton.1 hs]; kernel_rfl
theorem st_all : ∀ t, off stopAll t = true → off st4 t = true := off_sub (by
  intro x hx
  unfold st4 st3 st2 st1 at hx
  unfold stopAll
  simp only [List.mem_append, List.mem_cons, List.not_mem_nil, or_false, false_or] at hx ⊢
  rcases hx with ((h | h) | h) | h
  · rcases h with h | h
    · exact .inl (.inl (.inl h))
    · exact .inl (.inl (.inr (.inl h)))
  · rcases h with h | h
    · exact .inl (.inl (.inr (.inr (.inl h))))
    · exact .inl (.inl (.inr (.inr (.inr h))))
  · exact .inr (.inl h)
  · exact .inr (.inr (.inl h)))
section
variable {m n : Nat} {f : Rd → Rd} {L L' A B : List Pc} {bo bo' a b : List BOp}
theorem prod1 (h : Rds m f L bo []) : Rds m (productP f) L bo st1 := rds_one h st_a
theorem prodN (h : Rds m f L bo []) (h' : Items m f [tStar, tSlash] [] L' bo') : Rds m (productP f) (L ++ L') (bo ++ bo') st1 := rds_chain h h' st_a
theorem sum1 (h : Rds m (productP f) L bo st1) : Rds m (sumP f) L bo st2 := rds_one h st_b
theorem sumN (h : Rds m (productP f) L bo st1) (h' : Items m (productP f) [tPlus, tMinus] st1 L' bo') : Rds m (sumP f) (L ++ L') (bo ++ bo') st2 := rds_chain h h' st_b
theorem test1 {g s : List UInt8} (ha : Rds m (sumP f) A a st2) (hb : Rds m (sumP f) B b st2) (hs : txt s ∈ sTest) : Rds m (testP f) (A ++ ⟨g, 5, s⟩ :: B) (a ++ (b ++ [(txt s, 0, ⟨#[]⟩)])) st2 := rds_test ha hb hs st_c
theorem both1 (h : Rds m (testP f) L bo st2) : Rds m (bothP f) L bo st3 := rds_one h st_d
theorem bothN (h : Rds m (testP f) L bo st2) (h' : Items m (testP f) [tAnd] st2 L' bo') : Rds m (bothP f) (L ++ L') (bo ++ bo') st3 := rds_chain h h' st_d
theorem or1 (h : Rds m (bothP f) L bo st3) : Rds m (chainP (bothP f) [tOr]) L bo st4 := rds_one h st_e
theorem orN (h : Rds m (bothP f) L bo st3) (h' : Items m (bothP f) [tOr] st3 L' bo') : Rds m (chainP (bothP f) [tOr]) (L ++ L') (bo ++ bo') st4 := rds_chain h h' st_e
theorem condOf {g : List UInt8} (h : Rds m (chainP (bothP (factorP n)) [tOr]) L bo st4) : RdC m n (⟨g, 4, [105, 102]⟩ :: L) bo stopAll := rdc_if (h.stop st_all)
theorem condNone : RdC m n [] [] stopAll := by
  intro ts ht r rest d o hd ho
  exact rdc_none ts ht r rest d o (by omega) (off_sub (by simp [stopAll]) _ ho)
theorem condOne {g g1 s : List UInt8} (ha : Rds m (factorP n) A a []) (hb : Rds m (factorP n) B b []) (hs : txt s ∈ sTest) : RdC m n (⟨g, 4, [105, 102]⟩ :: (A ++ ⟨g1, 5, s⟩ :: B)) (a ++ (b ++ [(txt s, 0, ⟨#[]⟩)])) stopAll :=
  condOf (or1 (both1 (test1 (sum1 (prod1 ha)) (sum1 (prod1 hb)) hs)))
end
def fldPc (g : List UInt8) (x f : UInt8) : List Pc := [⟨g, 3, [x]⟩, ⟨[], 5, [46]⟩, ⟨[], 3, [f]⟩]
def itPc (g : List UInt8) (f : UInt8) : List Pc := [⟨g, 4, [105, 116]⟩, ⟨[], 5, [46]⟩, ⟨[], 3, [f]⟩]
def fldOp (x f : UInt8) : BOp := (txt [f], 0, txt [x])
def itOp (f : UInt8) : BOp := (txt [f], 0, ⟨#[]⟩)
theorem rds_fldPc {n : Nat} {g : List UInt8} {x f : UInt8} (h1 : off [tMinus] (txt [x]) = true) (h2 : off [tOpen] (txt [x]) = true) (hf : txt [f] ∈ sField) : Rds 0 (factorP (n + 1)) (fldPc g x f) [fldOp x f] [] := rds_fld h1 h2 hf
theorem rds_itPc {n : Nat} {g : List UInt8} {f : UInt8} (hf : txt [f] ∈ sField) : Rds 0 (factorP (n + 1)) (itPc g f) [itOp f] [] := rds_it hf
theorem fA : txt [97] ∈ sField := by simp [sField, txt]
theorem fB : txt [98] ∈ sField := by simp [sField, txt]
theorem fC : txt [99] ∈ sField := by simp [sField, txt]
theorem fT : txt [116] ∈ sField := by simp [sField, txt]
theorem cEq : txt [61] ∈ sTest := by simp [sTest, txt]
theorem cNe : txt [33, 61] ∈ sTest := by simp [sTest, txt]
theorem cLt : txt [60] ∈ sTest := by simp [sTest, txt]
theorem cLe : txt [60, 61] ∈ sTest := by simp [sTest, txt]
theorem cGt : txt [62] ∈ sTest := by simp [sTest, txt]
theorem cGe : txt [62, 61] ∈ sTest := by simp [sTest, txt]
def stepPc (g : List UInt8) (x : UInt8) (k : List UInt8) : List Pc := [⟨g, 3, [x]⟩, ⟨[], 5, [58]⟩, ⟨[], 2, k⟩]
def ifPc : Pc := ⟨[32], 4, [105, 102]⟩
def thenPc : Pc := ⟨[32], 4, [116, 104, 101, 110]⟩
def exText : ByteArray := ⟨#[119, 105, 116, 104, 105, 110, 32, 49, 48, 32, 114, 97, 116, 101, 32, 53, 32, 120, 58, 49, 32, 116, 104, 101, 110, 32, 121, 58, 50, 32, 105, 102, 32, 121, 46, 97, 32, 61, 32, 120, 46, 97]⟩
def exL : List Pc := stepPc [32] 120 [49] ++ (thenPc :: ((stepPc [32] 121 [50] ++ (ifPc :: (fldPc [32] 121 97 ++ ⟨[32], 5, [61]⟩ :: fldPc [32] 120 97))) ++ []))
def exX : List Lf := [⟨txt [120], 1, numVal (txt [49]), []⟩, ⟨txt [121], 1, numVal (txt [50]), [fldOp 121 97] ++ ([fldOp 120 97] ++ [(txt [61], 0, ⟨#[]⟩)])⟩]
theorem ex_read (n : Nat) : RdQ 0 (n + 8) exL exX := by
  refine rdq_seq (rdp_step condNone (.inl rfl) (by decide)) (.cons (rdp_step (condOne (rds_fldPc (by kernel_rfl) (by kernel_rfl) fA) (rds_fldPc (by kernel_rfl) (by kernel_rfl) fA) cEq) (.inr ⟨_, _, rfl⟩) (by decide)) .nil)
theorem ex_text : TextOK exText 10 5 5 [stepsL (rowL exX)] := by
  have e1 : numVal (txt [49, 48]) = 10 := by kernel_rfl
  have e2 : numVal (txt [53]) = 5 := by kernel_rfl
  have e3 : mostP 5 (cntL (rowL exX)) = 5 := by kernel_rfl
  have e4 : exText.size = 42 := by kernel_rfl
  have := text_flat (S := exText) (g := []) (W := [49, 48]) (R := [53]) (L := exL) (xs := exX) (by kernel_rfl) (by kernel_rfl) (by rw [e4]; omega) (m := 0) (by omega) (by rw [e1]; omega) (by rw [e2]; omega) (by decide) ex_read (by kernel_rfl)
  rw [e1, e2, e3] at this
  exact this
end Go.Proofs.YtddbjcfdmdbmkaaGreatDoor

namespace Go.Proofs.YtddbjcfdmdbmkaaGreatDoor
open Go.RowKit

theorem Chg.bel {M : Nat → Prop} {w w' : World} (h : Chg M w w') {k : Nat} (hk : k ≤ w.heap.size) (hM : ∀ b, M b → k ≤ b) : Below k w w' := ⟨h.os, h.tape, h.output, Chg.size h, fun b hb => h.at b (by omega) (fun m => by have := hM b m; omega)⟩
structure ListsR (w : World) (v : Value) (ys : List (List Nat)) : Prop where
  form : ∃ a c, v = .slice a ys.length c ∧ (0 < ys.length → ∃ g, a = some ⟨g, 0, none⟩ ∧ g < w.heap.size ∧ ∀ k, (hk : k < ys.length) → ∃ u, w.cell? ⟨g, k, none⟩ = some u ∧ IntsAt w u ys[k])
theorem ListsAt.read {B : Nat} {w : World} {v : Value} {ys : List VL} (h : ListsAt B w v ys) : ListsR w v (ys.map (·.2)) := by
  refine ⟨?_⟩
  rcases h.row.2 with ⟨rfl, h0⟩ | ⟨g, cap, cur, rfl, _, hg, _⟩
  · exact ⟨none, 0, by rw [List.length_map, h0], fun hp => by rw [List.length_map] at hp; omega⟩
  · refine ⟨_, _, by rw [List.length_map], fun _ => ⟨g, rfl, (Array.getElem?_eq_some_iff.1 hg).1, fun k hk => ?_⟩⟩
    have hk' : k < ys.length := by simpa using hk
    refine ⟨ys[k].1, ?_, ?_⟩
    · have := h.row.cells (g := g) rfl k ys[k].1 (by rw [List.getElem?_map, List.getElem?_eq_getElem hk']; rfl)
      rw [addr_add, Nat.zero_add] at this; exact this
    · have := IntsAt.of_row (h.inner ys[k] (List.getElem_mem hk'))
      simpa using this
theorem feed_go {S : Nat → Prop} {w : World} {E bd : Nat} {c : WC} {evs : List Ev} (h : Eng S w E bd 0 c evs) (hc : WellE c) (hel : evs.length ≤ 100000000) (e : Ev) (he : In64 e.time) (hz : feedFP c.win c.rate evs e.time = 0) :
    Calls Tryz.prog 27 #[.pointer (some ⟨E, 0, none⟩), evVal e] w fun x w' => ∃ S' v B ys, x = .returned (.tuple #[v, .int .i64 0]) ∧ (∀ b, S' b → S b ∨ w.heap.size ≤ b) ∧ Chg S w w' ∧ ListsAt B w' v ys ∧ w.heap.size ≤ B ∧ (∀ b, (v.ownBlock = some b ∨ ∃ y ∈ ys, y.1.ownBlock = some b) → ¬ S' b) ∧ SortedL (ys.map (·.2)) ∧ (∀ t, t ∈ ys.map (·.2) ↔ MatchOK (absP c.paths) c.win (evs ++ [e]) t) ∧ Eng S' w' E bd 0 c (evs ++ [e]) := by
  refine (feed_eng h hc hel e he).mono ?_
  rintro x w' ⟨S', f', evs', h1, h2, h3, h4⟩
  generalize hf0 : (0 : Nat) = f0 at h3
  cases h3 with
  | failed hf => exact absurd hf0.symm hf
  | fault hf => exact absurd hz hf
  | ok h5 h6 h7 h8 h9 h10 => exact ⟨S', _, _, _, rfl, h1, h2, h6, h7, h8, h9, h10, h4⟩
def exPaths : List (List ASt) := absP [stepsL (rowL exX)]
def exE1 : Ev := ⟨0, 1, 7, 0, 0⟩
def exE2 : Ev := ⟨9, 2, 7, 0, 0⟩
theorem ex_m1 : allMatches exPaths 10 [exE1] = [] := by kernel_rfl
theorem ex_m2 : allMatches exPaths 10 [exE1, exE2] = [[0, 1]] := by kernel_rfl
theorem ex_ne : ∀ p ∈ exPaths, p ≠ [] := by
  intro p hp
  have e : exPaths.all (fun p => !p.isEmpty) = true := by kernel_rfl
  have := List.all_eq_true.1 e p hp
  rintro rfl
  simp at this
theorem mono1 (e : Ev) : Mono [e] := by
  intro i j hij hj
  simp at hj
  subst hj
  have : i = 0 := by omega
  rw [this]; exact Int.le_refl _
theorem mono2 {e f : Ev} (h : e.time ≤ f.time) : Mono [e, f] := by
  intro i j hij hj
  simp at hj
  match i, j, hij, hj with
  | 0, 0, _, _ => exact Int.le_refl _
  | 0, 1, _, _ => exact h
  | 1, 1, _, _ => exact Int.le_refl _
  | i + 2, j, h1, h2 => omega
theorem ex_no {t : List Nat} : ¬ MatchOK exPaths 10 [exE1] t := by
  rw [← match_mem (mono1 _) ex_ne, ex_m1]; simp
theorem ex_yes {t : List Nat} : MatchOK exPaths 10 [exE1, exE2] t ↔ t ∈ [[0, 1]] := by
  rw [← match_mem (mono2 (by decide)) ex_ne, ex_m2]
theorem sorted1 (t : List Nat) : SortedL [t] := List.pairwise_singleton _ _
set_option maxRecDepth 100000 in
set_option maxHeartbeats 1600000 in
theorem begin_p {s : ByteArray} {W R bd : Nat} {paths : List (List WStep)} (h : TextOK s W R bd paths) (w : World) :
    Calls Tryz.prog 24 #[.string s] w fun x w' => ∃ E Z pv svs, x = .returned (.pointer (some ⟨E, 0, none⟩)) ∧ Below w.heap.size w w' ∧ (∀ b, Z b → w.heap.size ≤ b) ∧ Eng Z w' E bd 0 ⟨W, R, pv, paths, svs⟩ [] := by
  have hx := compile_text ex_text w
  have hs := fun w1 => compile_text h w1
  unfold exText at hx
  have f1 : feedFP 10 5 [] exE1.time = 0 := by kernel_rfl
  have f2 : feedFP 10 5 ([] ++ [exE1]) exE2.time = 0 := by kernel_rfl
  go_enter Tryz.func24, Tryz.ntmps24
  go_upto_region 4 with (first
    | (go_at_call 15; refine hx.mono ?_; rintro x1 w1 ⟨E1, Z1, pv1, sv1, rfl, hb1, hz1, hE1⟩))
  have hc1 := ex_text.well pv1 sv1
  have hfe := feed_go hE1 hc1 (by simp) exE1 (by unfold In64 exE1; simp) f1
  unfold evVal exE1 at hfe
  simp only at hfe
  go_upto_region 5 with (first
    | (go_at_call 27; refine hfe.mono ?_; rintro x2 w2 ⟨Z2, v2, B2, ys2, rfl, hz2, hch2, hl2, hB2, hbl2, hso2, hm2, hE2⟩))
  have hy2 : ys2 = [] := by
    cases ys2 with
    | nil => rfl
    | cons y l => exact absurd ((hm2 y.2).1 (by simp)) ex_no
  subst hy2
  obtain ⟨a2, c2, rfl, _⟩ := hl2.read.form
  have hfe2 := feed_go hE2 hc1 (by simp) exE2 (by unfold In64 exE2; simp) f2
  unfold evVal exE2 at hfe2
  simp only at hfe2
  clear hfe hx hl2 hbl2 hso2 hm2 f1 f2 hE1 hE2
  go_upto_region 6 with (first
    | (go_at_call 27; refine hfe2.mono ?_; rintro x3 w3 ⟨Z3, v3, B3, ys3, rfl, hz3, hch3, hl3, hB3, hbl3, hso3, hm3, hE3⟩))
  have hy3 : ys3.map (·.2) = [[0, 1]] := sorted_uniq hso3 (sorted1 _) (fun t => (hm3 t).trans ex_yes)
  have hr3 := hl3.read
  rw [hy3] at hr3
  obtain ⟨a3, c3, rfl, hg3⟩ := hr3.form
  obtain ⟨g3, rfl, hg3l, hk3⟩ := hg3 (by simp)
  obtain ⟨u3, hu3, hi3⟩ := hk3 0 (by simp)
  obtain ⟨a4, c4, rfl, hg4⟩ := hi3
  obtain ⟨g4, rfl, hg4l, hk4⟩ := hg4 (by simp)
  have k0 := hk4 0 (by simp)
  have k1 := hk4 1 (by simp)
  simp at hu3 k0 k1
  have hb3 : Below w.heap.size w w3 := by
    have s1 := hb1.size
    have s2 := Chg.size hch2
    refine (hb1.trans (hch2.bel s1 hz1)).trans (hch3.bel (by omega) (fun b hb => ?_))
    rcases hz2 b hb with k | k
    · exact hz1 b k
    · omega
  clear hfe2 hk4 hk3 hg3 hg4 hr3 hy3 hl3 hbl3 hso3 hm3 hch2 hch3 hz2 hz3 hE3
  have hs3 := hs w3
  clear hs
  go_wp2_with (first
    | (go_at_call 15; refine hs3.mono ?_; rintro x4 w4 ⟨E4, Z4, pv4, sv4, rfl, hb4, hz4, hE4⟩))
  go_ret
  exact ⟨E4, Z4, pv4, sv4, rfl, hb3.trans (hb4.mono hb3.size), fun b hb => Nat.le_trans hb3.size (hz4 b hb), hE4⟩
end Go.Proofs.YtddbjcfdmdbmkaaGreatDoor
