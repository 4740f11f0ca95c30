import Derived.Test.YtddbjcfdmdbmkaaGreatDoorB24
import Derived.Test.YtddbjcfdmdbmkaaGreatDoorB39
import Derived.Test.YtddbjcfdmdbmkaaGreatDoorB20
import Derived.Test.YtddbjcfdmdbmkaaGreatDoorB32
set_option linter.unusedVariables false
set_option linter.unusedSimpArgs false
namespace Go.Proofs.YtddbjcfdmdbmkaaGreatDoor
open Go.RowKit

def bindB (names : List ByteArray) (o : BOp) : ByteArray × Nat := (o.1, if isFieldB o.1 then stepOfP o.2.2 names else o.2.1)
def askL (names : List ByteArray) (x : Lf) : WWant := ⟨x.kind, x.cond.map (bindB (names ++ [x.name]))⟩
def accL (a : WAcc) (x : Lf) : WAcc :=
  if x.step then ⟨a.steps ++ [⟨askL a.names x, a.guards⟩], a.names ++ [x.name], []⟩ else ⟨a.steps, a.names, a.guards ++ [askL a.names x]⟩
def stepsL (E : List Lf) : List WStep := (E.foldl accL ⟨[], [], []⟩).steps
theorem ask_bare (names : List ByteArray) (p : PPart) : askP names p = askL names p.bare := by
  unfold askP askL PPart.bare
  rw [List.map_map]
  rfl
theorem acc_bare (a : WAcc) (p : PPart) : accP a p = accL a p.bare := by
  unfold accP accL
  rw [step_bare, ask_bare]
  rfl
theorem steps_bare (l : List PPart) : stepsP l = stepsL (l.map PPart.bare) := by
  unfold stepsP stepsAcc stepsL
  rw [List.take_length]
  generalize (⟨[], [], []⟩ : WAcc) = a
  induction l generalizing a with
  | nil => rfl
  | cons p l ih => rw [List.foldl_cons, List.map_cons, List.foldl_cons, ← acc_bare]; exact ih _
def wellA : List BOp → Nat → Bool
  | [], h => decide (1 ≤ h)
  | o :: l, h => decide (arityP (o.1, 0) ≤ h) && wellA l (h - arityP (o.1, 0) + 1)
theorem do_len (es : List Ev) (it : Ev) (s : List Int × Bool) (o : ByteArray × Nat) (h : arityP o ≤ s.1.length) : (doP es it s o).1.length = s.1.length - arityP o + 1 := by
  unfold arityP at h ⊢
  unfold doP
  generalize o.1.toList = t at *
  by_cases h1 : (t == [112, 117, 115, 104]) = true
  · simp [h1]
  by_cases h2 : (t == [97]) = true
  · simp [h1, h2]
  by_cases h3 : (t == [98]) = true
  · simp [h1, h2, h3]
  by_cases h4 : (t == [99]) = true
  · simp [h1, h2, h3, h4]
  by_cases h5 : (t == [116]) = true
  · simp [h1, h2, h3, h4, h5]
  by_cases h6 : (t == [111, 112, 112, 111, 115, 105, 116, 101]) = true
  · simp [h1, h2, h3, h4, h5, h6]
  · simp [h1, h2, h3, h4, h5, h6] at h ⊢
    omega
theorem well_run {ops : List (ByteArray × Nat)} {bo : List BOp} (e : ops.map (·.1) = bo.map (·.1)) (hl : bo.length ≤ 10000) (h : bo = [] ∨ wellA bo 0 = true) : WellRun ops := by
  have hlen : ops.length = bo.length := by have := congrArg List.length e; simpa using this
  have key : ∀ (es : List Ev) (it : Ev) (bo : List BOp) (ops : List (ByteArray × Nat)) (s : List Int × Bool), ops.map (·.1) = bo.map (·.1) → wellA bo s.1.length = true → (∀ k, (h : k < ops.length) → arityP ops[k] ≤ ((ops.take k).foldl (doP es it) s).1.length) ∧ 1 ≤ (ops.foldl (doP es it) s).1.length := by
    intro es it bo
    induction bo with
    | nil =>
      intro ops s e h
      have : ops = [] := by simpa using e
      subst this
      exact ⟨fun k h => by simp at h, by simpa [wellA] using h⟩
    | cons o bo ih =>
      intro ops s e h
      cases ops with
      | nil => simp at e
      | cons x ops =>
        simp only [List.map_cons, List.cons.injEq] at e
        have ha : arityP x = arityP (o.1, 0) := by unfold arityP; rw [e.1]
        unfold wellA at h
        rw [Bool.and_eq_true, decide_eq_true_eq, ← ha] at h
        have hd := do_len es it s x h.1
        obtain ⟨r1, r2⟩ := ih ops (doP es it s x) e.2 (by rw [hd]; exact h.2)
        refine ⟨fun k hk => ?_, by rw [List.foldl_cons]; exact r2⟩
        cases k with
        | zero => simpa using h.1
        | succ k =>
          have := r1 k (by simpa using hk)
          simpa using this
  rcases h with rfl | h
  · have : ops = [] := by simpa using e
    subst this
    exact ⟨by simp, fun _ _ k h => by simp at h, fun _ _ h => by simp at h⟩
  · refine ⟨by omega, fun es it k hk => ?_, fun es it _ => ?_⟩
    · unfold runP
      exact (key es it bo ops ([], false) e h).1 k hk
    · unfold runP
      rw [List.take_length]
      exact (key es it bo ops ([], false) e h).2
def okC (E : List Lf) : Bool := E.all fun x => decide (x.cond.length ≤ 1000) && (x.cond.isEmpty || wellA x.cond 0)
theorem ask_well {names : List ByteArray} {x : Lf} (h : (decide (x.cond.length ≤ 1000) && (x.cond.isEmpty || wellA x.cond 0)) = true) : WellRun (askL names x).cond := by
  simp only [Bool.and_eq_true, decide_eq_true_eq, Bool.or_eq_true, List.isEmpty_iff] at h
  refine well_run (bo := x.cond) ?_ (by omega) h.2
  unfold askL
  simp only [List.map_map]
  rfl
theorem acc_well (E : List Lf) (h : okC E = true) : ∀ (a : WAcc) (k : Nat), (∀ s ∈ a.steps, WellRun s.want.cond ∧ (∀ g ∈ s.guards, WellRun g.cond) ∧ s.guards.length ≤ k) → (∀ g ∈ a.guards, WellRun g.cond) → a.guards.length ≤ k → (∀ s ∈ (E.foldl accL a).steps, WellRun s.want.cond ∧ (∀ g ∈ s.guards, WellRun g.cond) ∧ s.guards.length ≤ k + E.length) ∧ (E.foldl accL a).steps.length = a.steps.length + cntL E := by
  induction E with
  | nil => intro a k h1 h2 h3; exact ⟨h1, rfl⟩
  | cons x E ih =>
    intro a k h1 h2 h3
    unfold okC at h
    rw [List.all_cons, Bool.and_eq_true] at h
    have hx := ask_well (names := a.names) h.1
    rw [List.foldl_cons]
    cases hs : x.step with
    | true =>
      have ea : accL a x = ⟨a.steps ++ [⟨askL a.names x, a.guards⟩], a.names ++ [x.name], []⟩ := by unfold accL; rw [hs, if_pos rfl]
      rw [ea]
      obtain ⟨r1, r2⟩ := ih h.2 ⟨a.steps ++ [⟨askL a.names x, a.guards⟩], a.names ++ [x.name], []⟩ (k + 1) (fun s hs => by
        rcases List.mem_append.1 hs with hs | hs
        · exact ⟨(h1 s hs).1, (h1 s hs).2.1, by have := (h1 s hs).2.2; omega⟩
        · rw [List.mem_singleton.1 hs]; exact ⟨hx, h2, by simp only; omega⟩) (fun g hg => by simp at hg) (by simp)
      refine ⟨fun s hs => ⟨(r1 s hs).1, (r1 s hs).2.1, by have := (r1 s hs).2.2; rw [List.length_cons]; omega⟩, ?_⟩
      rw [r2]
      unfold cntL
      rw [List.filter_cons_of_pos hs]
      simp; omega
    | false =>
      have ea : accL a x = ⟨a.steps, a.names, a.guards ++ [askL a.names x]⟩ := by unfold accL; rw [hs, if_neg (by decide)]
      rw [ea]
      obtain ⟨r1, r2⟩ := ih h.2 ⟨a.steps, a.names, a.guards ++ [askL a.names x]⟩ (k + 1) (fun s hs => ⟨(h1 s hs).1, (h1 s hs).2.1, by have := (h1 s hs).2.2; omega⟩) (fun g hg => by
        rcases List.mem_append.1 hg with hg | hg
        · exact h2 g hg
        · rw [List.mem_singleton.1 hg]; exact hx) (by simp; omega)
      refine ⟨fun s hs => ⟨(r1 s hs).1, (r1 s hs).2.1, by have := (r1 s hs).2.2; rw [List.length_cons]; omega⟩, ?_⟩
      rw [r2]
      unfold cntL
      rw [List.filter_cons_of_neg (by simp [hs])]
theorem steps_well {E : List Lf} (h : okC E = true) (hl : E.length ≤ 1000) : (∀ s ∈ stepsL E, WellS s) ∧ (stepsL E).length = cntL E := by
  obtain ⟨r1, r2⟩ := acc_well E h ⟨[], [], []⟩ 0 (fun s hs => by simp at hs) (fun g hg => by simp at hg) (by simp)
  refine ⟨fun s hs => ⟨(r1 s hs).1, (r1 s hs).2.1, ?_⟩, by unfold stepsL; rw [r2]; simp⟩
  have := (r1 s hs).2.2
  omega
end Go.Proofs.YtddbjcfdmdbmkaaGreatDoor

namespace Go.Proofs.YtddbjcfdmdbmkaaGreatDoor
open Go.RowKit

structure TextOK (S : ByteArray) (W R bd : Nat) (paths : List (List WStep)) : Prop where
  her : ∃ body ps, herP S = .inl (⟨W, R, body⟩, bd, ps) ∧ ps.map stepsP = paths ∧ ps.length ≤ 1000 ∧ ∀ l ∈ ps, l.length ≤ 100000 ∧ l ≠ [] ∧ ∀ p ∈ l, p.cond.length ≤ 1000000
  well : ∀ pv svs, WellE ⟨W, R, pv, paths, svs⟩
  bnd : boundA R (absP paths) = bd
def okX (xs : List Lf) : Bool := okF xs && okC (rowL xs) && decide ((rowL xs).length ≤ 1000) && decide (1 ≤ cntL (rowL xs)) && decide (cntL (rowL xs) ≤ 8)
theorem okX_parts {xs : List Lf} (h : okX xs = true) : okF xs = true ∧ okC (rowL xs) = true ∧ (rowL xs).length ≤ 1000 ∧ 1 ≤ cntL (rowL xs) ∧ cntL (rowL xs) ≤ 8 := by
  unfold okX at h
  simp only [Bool.and_eq_true, decide_eq_true_eq] at h
  exact ⟨h.1.1.1.1, h.1.1.1.2, h.1.1.2, h.1.2, h.2⟩
theorem most_le : ((List.range 13).all fun r => (List.range 9).all fun s => decide (mostP r s ≤ 3301)) = true := by kernel_rfl
theorem mostP_le {r s : Nat} (hr : r ≤ 12) (hs : s ≤ 8) : mostP r s ≤ 3301 := by
  have := List.all_eq_true.1 most_le r (List.mem_range.2 (by omega))
  have := List.all_eq_true.1 this s (List.mem_range.2 (by omega))
  simpa using this
theorem row_okay {xs : List Lf} {ps : List PPart} (h : Flat xs ps) (hx : okX xs = true) : (ps.flatMap expP).length ≤ 100000 ∧ ps.flatMap expP ≠ [] ∧ ∀ p ∈ ps.flatMap expP, p.cond.length ≤ 1000000 := by
  obtain ⟨_, h2, h3, h4, _⟩ := okX_parts hx
  have e := row_bare ps
  rw [h.1] at e
  have hl : (rowL xs).length = (ps.flatMap expP).length := by rw [← e, List.length_map]
  refine ⟨by omega, fun hn => ?_, fun p hp => ?_⟩
  · rw [hn] at e
    rw [← e] at h4
    simp [cntL] at h4
  · unfold okC at h2
    rw [List.all_eq_true] at h2
    have := h2 p.bare (e ▸ List.mem_map_of_mem hp)
    simp only [Bool.and_eq_true, decide_eq_true_eq] at this
    have h5 := this.1
    unfold PPart.bare at h5
    simp only [List.length_map] at h5
    omega
theorem row_steps {xs : List Lf} {ps : List PPart} (h : Flat xs ps) : stepsP (ps.flatMap expP) = stepsL (rowL xs) := by
  rw [steps_bare, row_bare, h.1]
theorem bound_one {R : Nat} {xs : List Lf} (hR : R ≤ 12) (hx : okX xs = true) : sumCho R (((stepsL (rowL xs)).map stepA).length - 1) = mostP R (cntL (rowL xs)) := by
  obtain ⟨_, h2, h3, h4, h5⟩ := okX_parts hx
  rw [List.length_map, (steps_well h2 h3).2]
  exact sumCho_most hR (by omega)
theorem text_flat {S : ByteArray} {m : Nat} {g W R : List UInt8} {L : List Pc} {xs : List Lf} (hS : S.data.toList = layL (headPc g W R ++ L)) (hok : okN 0 (headPc g W R ++ L) = true) (hz : S.size ≤ 600) (hm : m ≤ 8) (hW : 1 ≤ numVal (txt W) ∧ numVal (txt W) ≤ 1000000) (hR : 1 ≤ numVal (txt R) ∧ numVal (txt R) ≤ 12) (hL : 3 ≤ L.length) (hQ : ∀ n, RdQ m (n + 8) L xs) (hx : okX xs = true) :
    TextOK S (numVal (txt W)) (numVal (txt R)) (mostP (numVal (txt R)) (cntL (rowL xs))) [stepsL (rowL xs)] := by
  obtain ⟨h1, h2, h3, h4, h5⟩ := okX_parts hx
  have hb := mostP_le hR.2 h5
  obtain ⟨body, hf, hh⟩ := her_flat hS hok hz hm hW hR hL hQ h1 (by omega)
  have hbd : boundA (numVal (txt R)) (absP [stepsL (rowL xs)]) = mostP (numVal (txt R)) (cntL (rowL xs)) := by
    unfold boundA absP
    simp only [List.map_cons, List.map_nil, List.sum_cons, List.sum_nil, Nat.add_zero]
    exact bound_one hR.2 hx
  have hw := steps_well h2 h3
  refine ⟨⟨body, _, hh, by rw [List.map_cons, row_steps hf, List.map_nil], by simp, fun l hl => ?_⟩, fun pv svs => ⟨⟨hW.1, hW.2, by show numVal (txt R) ≤ 1000; omega, fun p hp s hs => ?_, fun p hp => ?_, by simp⟩, by show boundA (numVal (txt R)) (absP [stepsL (rowL xs)]) ≤ 4000; omega⟩, hbd⟩
  · rw [List.mem_singleton.1 hl]; exact row_okay hf hx
  · rw [List.mem_singleton.1 hp] at hs; exact hw.1 s hs
  · rw [List.mem_singleton.1 hp, hw.2]; omega
theorem text_two {S : ByteArray} {m : Nat} {g W R : List UInt8} {L : List Pc} {xs ys : List Lf} (hS : S.data.toList = layL (headPc g W R ++ L)) (hok : okN 0 (headPc g W R ++ L) = true) (hz : S.size ≤ 600) (hm : m ≤ 8) (hW : 1 ≤ numVal (txt W) ∧ numVal (txt W) ≤ 1000000) (hR : 1 ≤ numVal (txt R) ∧ numVal (txt R) ≤ 12) (hL : 3 ≤ L.length) (hQ : ∀ n, RdG m (n + 8) L (TwoB xs ys)) (hx : okX xs = true) (hy : okX ys = true) (hb : mostP (numVal (txt R)) (cntL (rowL xs)) + mostP (numVal (txt R)) (cntL (rowL ys)) ≤ 4000) :
    TextOK S (numVal (txt W)) (numVal (txt R)) (mostP (numVal (txt R)) (cntL (rowL xs)) + mostP (numVal (txt R)) (cntL (rowL ys))) [stepsL (rowL xs), stepsL (rowL ys)] := by
  obtain ⟨h1, h2, h3, h4, h5⟩ := okX_parts hx
  obtain ⟨g1, g2, g3, g4, g5⟩ := okX_parts hy
  obtain ⟨body, a, b, hf, hf2, hh⟩ := her_two hS hok hz hm hW hR hL hQ h1 g1 hb
  have hbd : boundA (numVal (txt R)) (absP [stepsL (rowL xs), stepsL (rowL ys)]) = mostP (numVal (txt R)) (cntL (rowL xs)) + mostP (numVal (txt R)) (cntL (rowL ys)) := by
    unfold boundA absP
    simp only [List.map_cons, List.map_nil, List.sum_cons, List.sum_nil, Nat.add_zero]
    rw [bound_one hR.2 hx, bound_one hR.2 hy]
  have hw := steps_well h2 h3
  have hv := steps_well g2 g3
  refine ⟨⟨body, _, hh, by rw [List.map_cons, List.map_cons, row_steps hf, row_steps hf2, List.map_nil], by simp, fun l hl => ?_⟩, fun pv svs => ⟨⟨hW.1, hW.2, by show numVal (txt R) ≤ 1000; omega, fun p hp s hs => ?_, fun p hp => ?_, by simp⟩, by show boundA (numVal (txt R)) (absP [stepsL (rowL xs), stepsL (rowL ys)]) ≤ 4000; omega⟩, hbd⟩
  · simp only [List.mem_cons, List.not_mem_nil, or_false] at hl
    rcases hl with rfl | rfl
    · exact row_okay hf hx
    · exact row_okay hf2 hy
  · simp only [List.mem_cons, List.not_mem_nil, or_false] at hp
    rcases hp with rfl | rfl
    · exact hw.1 s hs
    · exact hv.1 s hs
  · simp only [List.mem_cons, List.not_mem_nil, or_false] at hp
    rcases hp with rfl | rfl
    · rw [hw.2]; omega
    · rw [hv.2]; omega
theorem compile_text {S : ByteArray} {W R bd : Nat} {paths : List (List WStep)} (h : TextOK S W R bd paths) (w : World) :
    Calls Tryz.prog 15 #[.string S] w fun x w' => ∃ E Z pv svs, x = .returned (.tuple #[.pointer (some ⟨E, 0, none⟩), .int .i64 0, .int .i64 0]) ∧ Below w.heap.size w w' ∧ (∀ b, Z b → w.heap.size ≤ b) ∧ Eng Z w' E bd 0 ⟨W, R, pv, paths, svs⟩ [] := by
  obtain ⟨body, ps, h1, rfl, h3, h4⟩ := h.her
  exact compile_eng0 S w h1 ⟨h3, h4⟩
end Go.Proofs.YtddbjcfdmdbmkaaGreatDoor

namespace Go.Proofs.YtddbjcfdmdbmkaaGreatDoor
open Go.RowKit

def decN : Nat → Nat → List UInt8
  | 0, _ => []
  | f + 1, n => if n < 10 then [UInt8.ofNat (48 + n)] else decN f (n / 10) ++ [UInt8.ofNat (48 + n % 10)]
def decL (n : Nat) : List UInt8 := decN (n + 1) n
theorem dec_fuel : ∀ f g n, n < f → n < g → decN f n = decN g n := by
  intro f
  induction f with
  | zero => intro g n h; omega
  | succ f ih =>
    intro g n h1 h2
    cases g with
    | zero => omega
    | succ g =>
      unfold decN
      split
      · rfl
      · rw [ih g (n / 10) (by omega) (by omega)]
theorem dec_step {n : Nat} (h : ¬ n < 10) : decL n = decL (n / 10) ++ [UInt8.ofNat (48 + n % 10)] := by
  unfold decL
  conv => lhs; unfold decN
  rw [if_neg h, dec_fuel n (n / 10 + 1) (n / 10) (by omega) (by omega)]
theorem dec_small {n : Nat} (h : n < 10) : decL n = [UInt8.ofNat (48 + n)] := by unfold decL decN; rw [if_pos h]
theorem dec_digit {d : Nat} (h : d < 10) : isDigitB (UInt8.ofNat (48 + d)) = true ∧ (UInt8.ofNat (48 + d)).toNat - 48 = d := by
  have key : ∀ d : Fin 10, isDigitB (UInt8.ofNat (48 + d.val)) = true ∧ (UInt8.ofNat (48 + d.val)).toNat - 48 = d.val := by decide +kernel
  exact key ⟨d, h⟩
theorem dec_all (n : Nat) : (decL n).all isDigitB = true ∧ 1 ≤ (decL n).length ∧ numVal (txt (decL n)) = n := by
  induction n using Nat.strongRecOn with
  | _ n ih =>
    by_cases h : n < 10
    · rw [dec_small h]
      refine ⟨by simp only [List.all_cons, List.all_nil, (dec_digit h).1, Bool.and_true], by simp, ?_⟩
      unfold numVal txt
      simp only [List.toList_toArray, List.foldl_cons, List.foldl_nil, (dec_digit h).2]
      omega
    · obtain ⟨h1, h2, h3⟩ := ih (n / 10) (by omega)
      rw [dec_step h]
      have hd := dec_digit (show n % 10 < 10 by omega)
      refine ⟨by rw [List.all_append, h1]; simp only [List.all_cons, List.all_nil, hd.1, Bool.and_true], by simp, ?_⟩
      unfold numVal txt at h3 ⊢
      simp only [List.toList_toArray] at h3 ⊢
      rw [List.foldl_append, h3]
      simp only [List.foldl_cons, List.foldl_nil, hd.2]
      omega
theorem dec_len : ∀ k n, n < 10 ^ (k + 1) → (decL n).length ≤ k + 1 := by
  intro k
  induction k with
  | zero => intro n h; rw [dec_small (by simpa using h)]; simp
  | succ k ih =>
    intro n h
    by_cases h10 : n < 10
    · rw [dec_small h10]; simp
    · rw [dec_step h10, List.length_append]
      have := ih (n / 10) (by rw [Nat.pow_succ] at h; omega)
      simp; omega
def tenK : ByteArray := ⟨#[48, 49, 50, 51, 52, 53, 54, 55, 56, 57]⟩
theorem tenK_at (d : Nat) (h : d < 10) : tenK.extract d (d + 1) = ⟨[UInt8.ofNat (48 + d)].toArray⟩ := by
  have key : ∀ d : Fin 10, (tenK.extract d.val (d.val + 1)).data.toList = [UInt8.ofNat (48 + d.val)] := by decide +kernel
  apply ByteArray.ext
  apply Array.toList_inj.1
  have := key ⟨d, h⟩
  simpa using this
def decR (n : Nat) (v : Nat) (m : List UInt8) : Prop := (if v = 0 then m else decL v ++ m) = decL n
theorem decR_start (n : Nat) : decR n (n / 10) [UInt8.ofNat (48 + n % 10)] := by
  unfold decR
  by_cases h : n < 10
  · rw [if_pos (by omega), dec_small h, Nat.mod_eq_of_lt h]
  · rw [if_neg (by omega), ← dec_step h]
theorem decR_step {n v : Nat} {m : List UInt8} (h : decR n v m) (hv : 0 < v) : decR n (v / 10) (UInt8.ofNat (48 + v % 10) :: m) := by
  have := decR_start v
  unfold decR at h this ⊢
  rw [if_neg (by omega)] at h
  rw [← h, ← this]
  split
  · simp
  · simp
theorem decR_len {n v : Nat} {m : List UInt8} (hn : n ≤ 1000000000000) (h : decR n v m) : m.length ≤ 13 := by
  have h1 := dec_len 12 n (by omega)
  have h2 := congrArg List.length h
  split at h2
  · omega
  · rw [List.length_append] at h2; omega
set_option maxRecDepth 100000 in
set_option maxHeartbeats 1600000 in
theorem decimal_p (n : Nat) (hn : n ≤ 1000000000000) (w : World) : Calls Tryz.prog 33 #[.int .i64 n] w fun e w' => e = .returned (.string (txt (decL n))) ∧ w' = w := by
  have hs := decR_start n
  have hx := tenK_at (n % 10) (by omega)
  unfold tenK at hx
  have h0 : (0 : Int) ≤ (n : Int) := by omega
  go_enter Tryz.func33, Tryz.ntmps33
  go_wp2
  go_loopw [0, 4] (fun a b wr => ∃ (v : Nat) (m : List UInt8), v ≤ 1000000000000 ∧ a = .int .i64 v ∧ b = .string ⟨m.toArray⟩ ∧ decR n v m ∧ wr = w) (fun a _ _ => (intOf a).toNat)
  case atStart => exact ⟨n / 10, _, by omega, by simp, by rw [hx], hs, rfl⟩
  case round =>
    obtain ⟨v, m, hv, rfl, rfl, hr, rfl⟩ := hrel
    clear hs hx
    by_cases hp : 0 < v
    · have hp' : (0 : Int) < (v : Int) := by omega
      have h0v : (0 : Int) ≤ (v : Int) := by omega
      have hx := tenK_at (v % 10) (by omega)
      unfold tenK at hx
      have hst := decR_step hr hp
      have hml : ¬ 9223372036854775807 < 1 + m.length := by have := decR_len hn hr; omega
      go_wp2
      go_roundw
      case rel => exact ⟨v / 10, UInt8.ofNat (48 + v % 10) :: m, by omega, by simp, by congr 1; apply ByteArray.ext; simp, hst, trivial⟩
      case measure => simp [intOf]; omega
    · have hp' : v = 0 := by omega
      subst hp'
      go_wp2
      go_ret
      have : decL n = m := by unfold decR at hr; rw [if_pos rfl] at hr; exact hr.symm
      unfold txt
      rw [this]; exact ⟨rfl, rfl⟩
end Go.Proofs.YtddbjcfdmdbmkaaGreatDoor

namespace Go.Proofs.YtddbjcfdmdbmkaaGreatDoor
open Go.RowKit

def headB (W R : Nat) : ByteArray := ⟨#[119, 105, 116, 104, 105, 110, 32]⟩ ++ txt (decL W) ++ ⟨#[32, 114, 97, 116, 101, 32]⟩ ++ txt (decL R) ++ ⟨#[32]⟩
theorem txt_size (l : List UInt8) : (txt l).size = l.length := by show l.toArray.size = _; simp
set_option maxRecDepth 100000 in
set_option maxHeartbeats 1600000 in
theorem head_p (W R : Nat) (hW : W ≤ 999999999) (hR : R ≤ 999999999) (w : World) : Calls Tryz.prog 22 #[.int .i64 W, .int .i64 R] w fun e w' => e = .returned (.string (headB W R)) ∧ w' = w := by
  have h1 := dec_len 8 W (by omega)
  have h2 := dec_len 8 R (by omega)
  have hdec : ∀ n : Nat, n ≤ 999999999 → ∀ w1, Calls Tryz.prog 33 #[.int .i64 n] w1 fun e w' => e = .returned (.string (txt (decL n))) ∧ w' = w1 := fun n h w1 => decimal_p n (by omega) w1
  rw [← txt_size] at h1 h2
  unfold headB
  have g1 : ¬ 9223372036854775807 < 7 + (txt (decL W)).size := by omega
  have g2 : ¬ 9223372036854775807 < 7 + (txt (decL W)).size + 6 := by omega
  have g3 : ¬ 9223372036854775807 < 7 + (txt (decL W)).size + 6 + (txt (decL R)).size := by omega
  have g4 : ¬ 9223372036854775807 < 7 + (txt (decL W)).size + 6 + (txt (decL R)).size + 1 := by omega
  clear h1 h2
  go_enter Tryz.func22, Tryz.ntmps22
  go_wp2_with (first
    | (go_at_call 33; refine (hdec _ (by assumption) _).mono ?_; rintro x1 w1 ⟨rfl, rfl⟩))
  go_ret
  exact ⟨rfl, rfl⟩
def nameB (i : Nat) : UInt8 := UInt8.ofNat (117 + i)
set_option maxRecDepth 100000 in
set_option maxHeartbeats 1600000 in
theorem name_p (i : Nat) (hi : i < 6) (w : World) : Calls Tryz.prog 23 #[.int .i64 i] w fun e w' => e = .returned (.string (txt [nameB i])) ∧ Below w.heap.size w w' := by
  match i, hi with
  | 0, _ | 1, _ | 2, _ | 3, _ | 4, _ | 5, _ =>
    go_enter Tryz.func23, Tryz.ntmps23
    go_wp2
    go_ret
    exact ⟨rfl, (Below.refl _ w).alloc (Nat.le_refl _) _⟩
def accN (n : Nat) : Nat → Nat
  | 0 => 1
  | i + 1 => accN n i * (n - i) / (i + 1)
theorem acc_tab : ((List.range 10).all fun n => (List.range 6).all fun i => decide (accN n i ≤ 200) && decide (n < i → accN n i = 0) && decide ((if n < i then 0 else accN n i) = cho n i)) = true := by kernel_rfl
theorem acc_at {n i : Nat} (hn : n ≤ 9) (hi : i ≤ 5) : accN n i ≤ 200 ∧ (n < i → accN n i = 0) ∧ (if n < i then 0 else accN n i) = cho n i := by
  have := List.all_eq_true.1 acc_tab n (List.mem_range.2 (by omega))
  have := List.all_eq_true.1 this i (List.mem_range.2 (by omega))
  simp only [Bool.and_eq_true, decide_eq_true_eq] at this
  exact ⟨this.1.1, this.1.2, this.2⟩
theorem acc_mul {n i : Nat} (hn : n ≤ 9) (hi : i ≤ 5) : (accN n i : Int) * ((n : Int) - (i : Int)) = ((accN n i * (n - i) : Nat) : Int) := by
  by_cases h : n < i
  · rw [(acc_at hn hi).2.1 h]; simp
  · rw [Int.natCast_mul]
    congr 1
    omega
set_option maxRecDepth 100000 in
set_option maxHeartbeats 1600000 in
theorem choose_p (n k : Nat) (hn : n ≤ 9) (hk : k ≤ 5) (w : World) : Calls Tryz.prog 25 #[.int .i64 n, .int .i64 k] w fun e w' => e = .returned (.int .i64 (cho n k : Nat)) ∧ w' = w := by
  go_enter Tryz.func25, Tryz.ntmps25
  go_wp2
  go_loopw [5, 6] (fun a b wr => ∃ i : Nat, i ≤ k ∧ a = .int .i64 (accN n i : Nat) ∧ b = .int .i64 (i : Nat) ∧ wr = w) (fun _ b _ => k - (intOf b).toNat)
  case atStart => exact ⟨0, Nat.zero_le _, rfl, rfl, rfl⟩
  case round =>
    obtain ⟨i, hik, rfl, rfl, rfl⟩ := hrel
    obtain ⟨t1, t2, t3⟩ := acc_at (i := i) hn (by omega)
    by_cases hp : i < k
    · have hp' : (i : Int) < (k : Int) := by omega
      have hm := acc_mul (i := i) hn (by omega)
      have hst : accN n (i + 1) = accN n i * (n - i) / (i + 1) := rfl
      have hb : accN n i * (n - i) ≤ 2000 := Nat.le_trans (Nat.mul_le_mul t1 (show n - i ≤ 9 by omega)) (by omega)
      generalize accN n i * (n - i) = p at *
      generalize hcc : accN n i = c at *
      clear t2 t3
      have hwr : wrap64 ((p : Int) / ((i : Int) + 1)) = ((p / (i + 1) : Nat) : Int) := by
        have e : (p : Int) / ((i : Int) + 1) = ((p / (i + 1) : Nat) : Int) := by rw [Int.natCast_ediv]; rfl
        have hle : p / (i + 1) ≤ p := Nat.div_le_self _ _
        rw [e]
        generalize p / (i + 1) = r at *
        unfold wrap64
        omega
      go_wp2
      go_roundw
      case rel => exact ⟨i + 1, by omega, by rw [hst, hwr], by simp, trivial⟩
      case measure => simp [intOf]; omega
    · have hik' : i = k := by omega
      subst hik'
      by_cases hlt : n < i
      · have hlt' : (n : Int) < (i : Int) := by omega
        go_wp2
        go_ret
        refine ⟨?_, rfl⟩
        rw [if_pos hlt] at t3
        rw [← t3]; rfl
      · have hlt' : ¬ (n : Int) < (i : Int) := by omega
        go_wp2
        go_ret
        refine ⟨?_, rfl⟩
        rw [if_neg hlt] at t3
        rw [← t3]; rfl
end Go.Proofs.YtddbjcfdmdbmkaaGreatDoor

namespace Go.Proofs.YtddbjcfdmdbmkaaGreatDoor
open Go.RowKit

def st1 : List ByteArray := [] ++ [tStar, tSlash]
def st2 : List ByteArray := st1 ++ [tPlus, tMinus]
def st3 : List ByteArray := st2 ++ [tAnd]
def st4 : List ByteArray := st3 ++ [tOr]
theorem st_a : ∀ s ∈ [tStar, tSlash], off [] s = true := fun _ _ => rfl
theorem st_b : ∀ s ∈ [tPlus, tMinus], off st1 s = true := by
  intro s hs
  simp only [List.mem_cons, List.not_mem_nil, or_false] at hs
  rcases hs with rfl | rfl <;> kernel_rfl
theorem st_c : ∀ s ∈ sTest, off st2 s = true := by
  intro s hs
  unfold sTest at hs
  simp only [List.mem_cons, List.not_mem_nil, or_false] at hs
  rcases hs with rfl | rfl | rfl | rfl | rfl | rfl <;> kernel_rfl
theorem st_d : ∀ s ∈ [tAnd], off st2 s = true := by
  intro s hs
  rw [List.mem_singleton.1 hs]; kernel_rfl
theorem st_e : ∀ s ∈ [tOr], off st3 s = true := by
  intro s hs
  rw [List.mem_singleton.1 hs]; kernel_rfl
theorem st_all : ∀ t, off stopAll t = true → off st4 t = true := off_sub (by
  intro x hx
  unfold st4 st3 st2 st1 at hx
  unfold stopAll
  simp only [List.mem_append, List.mem_cons, List.not_mem_nil, or_false, false_or] at hx ⊢
  rcases hx with ((h | h) | h) | h
  · rcases h with h | h
    · exact .inl (.inl (.inl h))
    · exact .inl (.inl (.inr (.inl h)))
  · rcases h with h | h
    · exact .inl (.inl (.inr (.inr (.inl h))))
    · exact .inl (.inl (.inr (.inr (.inr h))))
  · exact .inr (.inl h)
  · exact .inr (.inr (.inl h)))
section
variable {m n : Nat} {f : Rd → Rd} {L L' A B : List Pc} {bo bo' a b : List BOp}
theorem prod1 (h : Rds m f L bo []) : Rds m (productP f) L bo st1 := rds_one h st_a
theorem prodN (h : Rds m f L bo []) (h' : Items m f [tStar, tSlash] [] L' bo') : Rds m (productP f) (L ++ L') (bo ++ bo') st1 := rds_chain h h' st_a
theorem sum1 (h : Rds m (productP f) L bo st1) : Rds m (sumP f) L bo st2 := rds_one h st_b
theorem sumN (h : Rds m (productP f) L bo st1) (h' : Items m (productP f) [tPlus, tMinus] st1 L' bo') : Rds m (sumP f) (L ++ L') (bo ++ bo') st2 := rds_chain h h' st_b
theorem test1 {g s : List UInt8} (ha : Rds m (sumP f) A a st2) (hb : Rds m (sumP f) B b st2) (hs : txt s ∈ sTest) : Rds m (testP f) (A ++ ⟨g, 5, s⟩ :: B) (a ++ (b ++ [(txt s, 0, ⟨#[]⟩)])) st2 := rds_test ha hb hs st_c
theorem both1 (h : Rds m (testP f) L bo st2) : Rds m (bothP f) L bo st3 := rds_one h st_d
theorem bothN (h : Rds m (testP f) L bo st2) (h' : Items m (testP f) [tAnd] st2 L' bo') : Rds m (bothP f) (L ++ L') (bo ++ bo') st3 := rds_chain h h' st_d
theorem or1 (h : Rds m (bothP f) L bo st3) : Rds m (chainP (bothP f) [tOr]) L bo st4 := rds_one h st_e
theorem orN (h : Rds m (bothP f) L bo st3) (h' : Items m (bothP f) [tOr] st3 L' bo') : Rds m (chainP (bothP f) [tOr]) (L ++ L') (bo ++ bo') st4 := rds_chain h h' st_e
theorem condOf {g : List UInt8} (h : Rds m (chainP (bothP (factorP n)) [tOr]) L bo st4) : RdC m n (⟨g, 4, [105, 102]⟩ :: L) bo stopAll := rdc_if (h.stop st_all)
theorem condNone : RdC m n [] [] stopAll := by
  intro ts ht r rest d o hd ho
  exact rdc_none ts ht r rest d o (by omega) (off_sub (by simp [stopAll]) _ ho)
theorem condOne {g g1 s : List UInt8} (ha : Rds m (factorP n) A a []) (hb : Rds m (factorP n) B b []) (hs : txt s ∈ sTest) : RdC m n (⟨g, 4, [105, 102]⟩ :: (A ++ ⟨g1, 5, s⟩ :: B)) (a ++ (b ++ [(txt s, 0, ⟨#[]⟩)])) stopAll :=
  condOf (or1 (both1 (test1 (sum1 (prod1 ha)) (sum1 (prod1 hb)) hs)))
end
def fldPc (g : List UInt8) (x f : UInt8) : List Pc := [⟨g, 3, [x]⟩, ⟨[], 5, [46]⟩, ⟨[], 3, [f]⟩]
def itPc (g : List UInt8) (f : UInt8) : List Pc := [⟨g, 4, [105, 116]⟩, ⟨[], 5, [46]⟩, ⟨[], 3, [f]⟩]
def fldOp (x f : UInt8) : BOp := (txt [f], 0, txt [x])
def itOp (f : UInt8) : BOp := (txt [f], 0, ⟨#[]⟩)
theorem rds_fldPc {n : Nat} {g : List UInt8} {x f : UInt8} (h1 : off [tMinus] (txt [x]) = true) (h2 : off [tOpen] (txt [x]) = true) (hf : txt [f] ∈ sField) : Rds 0 (factorP (n + 1)) (fldPc g x f) [fldOp x f] [] := rds_fld h1 h2 hf
theorem rds_itPc {n : Nat} {g : List UInt8} {f : UInt8} (hf : txt [f] ∈ sField) : Rds 0 (factorP (n + 1)) (itPc g f) [itOp f] [] := rds_it hf
theorem fA : txt [97] ∈ sField := by simp [sField, txt]
theorem fB : txt [98] ∈ sField := by simp [sField, txt]
theorem fC : txt [99] ∈ sField := by simp [sField, txt]
theorem fT : txt [116] ∈ sField := by simp [sField, txt]
theorem cEq : txt [61] ∈ sTest := by simp [sTest, txt]
theorem cNe : txt [33, 61] ∈ sTest := by simp [sTest, txt]
theorem cLt : txt [60] ∈ sTest := by simp [sTest, txt]
theorem cLe : txt [60, 61] ∈ sTest := by simp [sTest, txt]
theorem cGt : txt [62] ∈ sTest := by simp [sTest, txt]
theorem cGe : txt [62, 61] ∈ sTest := by simp [sTest, txt]
def stepPc (g : List UInt8) (x : UInt8) (k : List UInt8) : List Pc := [⟨g, 3, [x]⟩, ⟨[], 5, [58]⟩, ⟨[], 2, k⟩]
def ifPc : Pc := ⟨[32], 4, [105, 102]⟩
def thenPc : Pc := ⟨[32], 4, [116, 104, 101, 110]⟩
def exText : ByteArray := ⟨#[119, 105, 116, 104, 105, 110, 32, 49, 48, 32, 114, 97, 116, 101, 32, 53, 32, 120, 58, 49, 32, 116, 104, 101, 110, 32, 121, 58, 50, 32, 105, 102, 32, 121, 46, 97, 32, 61, 32, 120, 46, 97]⟩
def exL : List Pc := stepPc [32] 120 [49] ++ (thenPc :: ((stepPc [32] 121 [50] ++ (ifPc :: (fldPc [32] 121 97 ++ ⟨[32], 5, [61]⟩ :: fldPc [32] 120 97))) ++ []))
def exX : List Lf := [⟨txt [120], 1, numVal (txt [49]), []⟩, ⟨txt [121], 1, numVal (txt [50]), [fldOp 121 97] ++ ([fldOp 120 97] ++ [(txt [61], 0, ⟨#[]⟩)])⟩]
theorem ex_read (n : Nat) : RdQ 0 (n + 8) exL exX := by
  refine rdq_seq (rdp_step condNone (.inl rfl) (by decide)) (.cons (rdp_step (condOne (rds_fldPc (by kernel_rfl) (by kernel_rfl) fA) (rds_fldPc (by kernel_rfl) (by kernel_rfl) fA) cEq) (.inr ⟨_, _, rfl⟩) (by decide)) .nil)
theorem ex_text : TextOK exText 10 5 5 [stepsL (rowL exX)] := by
  have e1 : numVal (txt [49, 48]) = 10 := by kernel_rfl
  have e2 : numVal (txt [53]) = 5 := by kernel_rfl
  have e3 : mostP 5 (cntL (rowL exX)) = 5 := by kernel_rfl
  have e4 : exText.size = 42 := by kernel_rfl
  have := text_flat (S := exText) (g := []) (W := [49, 48]) (R := [53]) (L := exL) (xs := exX) (by kernel_rfl) (by kernel_rfl) (by rw [e4]; omega) (m := 0) (by omega) (by rw [e1]; omega) (by rw [e2]; omega) (by decide) ex_read (by kernel_rfl)
  rw [e1, e2, e3] at this
  exact this
end Go.Proofs.YtddbjcfdmdbmkaaGreatDoor
