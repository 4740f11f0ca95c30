import Derived.Test.YtddbjcfdmdbmkaaGreatDoorB25
import Derived.Test.YtddbjcfdmdbmkaaGreatDoorB02
import Derived.Test.YtddbjcfdmdbmkaaGreatDoorB19
import Derived.Test.YtddbjcfdmdbmkaaGreatDoorB23
import Derived.Deep.QuietTactic
import Derived.BigQuiet
set_option linter.unusedVariables false
set_option linter.unusedSimpArgs false
namespace Go.Proofs.YtddbjcfdmdbmkaaGreatDoor
open Go.RowKit

attribute [local go_sem] step_field0 step_field1
def TestW (f : Nat) (lb : Array Value) (p : WWant → Bool) (S : Nat → Prop) (w : World) (gs : List WWant) : Prop := (∀ args w, (callFunc f args).run Tryz.prog w = .ok (.enter f args) w) ∧
  ∀ (w' : World) (x : WWant) (cv : Value), x ∈ gs → Below w.heap.size w w' → CondS S w' cv x.cond → Calls Tryz.prog f (#[.agg #[.int .i64 x.kind, cv]] ++ lb) w' fun e w'' => e = .returned (.bool (p x)) ∧ Below w'.heap.size w' w''
def idxW (p : WWant → Bool) (l : List WWant) : Int := match l.findIdx? p with | some k => (k : Int) | none => -1
theorem idxW_hit {p : WWant → Bool} {l : List WWant} {k : Nat} (hk : k < l.length) (h : p l[k] = true) (hn : ∀ j, (hj : j < k) → p (l[j]'(by omega)) = false) : idxW p l = k := by
  have : l.findIdx? p = some k := List.findIdx?_eq_some_iff_getElem.2 ⟨hk, h, fun j hj => by simp [hn j hj]⟩
  unfold idxW; rw [this]
theorem idxW_miss {p : WWant → Bool} {l : List WWant} (hn : ∀ j, (hj : j < l.length) → p l[j] = false) : idxW p l = -1 := by
  have : l.findIdx? p = none := List.findIdx?_eq_none_iff.2 (fun x hx => by obtain ⟨j, hj, rfl⟩ := List.getElem_of_mem hx; exact hn j hj)
  unfold idxW; rw [this]
theorem idxW_any (p : WWant → Bool) (l : List WWant) : decide ((0 : Int) ≤ idxW p l) = l.any p := by
  unfold idxW
  cases h : l.findIdx? p with
  | none =>
    have := List.findIdx?_eq_none_iff.1 h
    have e : l.any p = false := by rw [List.any_eq_false]; intro x hx; simp [this x hx]
    rw [e]; rfl
  | some k =>
    obtain ⟨hk, hp, _⟩ := List.findIdx?_eq_some_iff_getElem.1 h
    have e : l.any p = true := List.any_eq_true.2 ⟨_, List.getElem_mem hk, hp⟩
    rw [e]; simp
theorem WantsS.at {S : Nat → Prop} {w : World} {v : Value} {gs : List WWant} (h : WantsS S w v gs) : ∃ a c, v = .slice a gs.length c ∧ (0 < gs.length → ∃ g, a = some ⟨g, 0, none⟩ ∧ g < w.heap.size ∧ ∀ k, (hk : k < gs.length) → ∃ cv, w.cell? ⟨g, k * 2, none⟩ = some (.int .i64 gs[k].kind) ∧ w.cell? ⟨g, k * 2 + 1, none⟩ = some cv ∧ CondS S w cv gs[k].cond) := by
  obtain ⟨⟨cvs, h1, hrow, h3⟩, _⟩ := h
  rcases hrow.2 with ⟨rfl, h0⟩ | ⟨g, cap, cur, rfl, _, hg, _⟩
  · exact ⟨none, 0, by rw [h0], fun h => by omega⟩
  · refine ⟨_, _, rfl, fun _ => ⟨g, rfl, (Array.getElem?_eq_some_iff.1 hg).1, fun k hk => ⟨cvs[k], ?_⟩⟩⟩
    have hz : k < (gs.zip cvs).length := by rw [List.length_zip]; omega
    have key : ∀ i, i < 2 → ∀ u, (wcells (gs.zip cvs)[k])[i]? = some u → w.cell? ⟨g, k * 2 + i, none⟩ = some u := by
      intro i hi u hu
      have := hrow.cells (g := g) rfl (k * 2 + i) u (by rw [flat_get wcells 2 (fun _ => rfl) _ _ _ hz hi]; exact hu)
      rw [addr_add, Nat.zero_add] at this; exact this
    rw [List.getElem_zip] at key
    exact ⟨key 0 (by decide) _ rfl, key 1 (by decide) _ rfl, h3 k hk (by omega)⟩
set_option maxRecDepth 100000 in
set_option maxHeartbeats 1600000 in
theorem indexW_p {S : Nat → Prop} {w : World} {v : Value} {gs : List WWant} (h : WantsS S w v gs) (hl : gs.length ≤ 1000000) {f : Nat} {lb : Array Value} {p : WWant → Bool} (hp : TestW f lb p S w gs) :
    Calls Tryz.prog 154 #[v, .func (.func f) #[] lb] w fun e w' => e = .returned (.int .i64 (idxW p gs)) ∧ Below w.heap.size w w' := by
  obtain ⟨ef, hpc⟩ := hp
  obtain ⟨a, c, rfl, hcell⟩ := h.at
  go_enter Tryz.func154, Tryz.ntmps154
  go_wp2
  go_loopw [8] (fun i wr => ∃ k : Nat, k ≤ gs.length ∧ i = .int .i64 k ∧ Below w.heap.size w wr ∧ Hid (∀ j, (hj : j < k) → (hj' : j < gs.length) → p gs[j] = false)) (fun i _ => gs.length - (intOf i).toNat)
  case atStart => exact ⟨0, Nat.zero_le _, rfl, Below.refl _ _, fun j hj => absurd hj (Nat.not_lt_zero _)⟩
  case round =>
    obtain ⟨k, hk, rfl, hbel, HN⟩ := hrel
    by_cases hlt : k < gs.length
    · obtain ⟨g, rfl, hg, hc⟩ := hcell (by omega)
      obtain ⟨cv, d0, d1, hcs⟩ := hc k hlt
      have hcs2 : CondS S wr cv gs[k].cond := hcs.to (fun b hS hb => ⟨hS, hbel.block b hb⟩)
      have hcall := hpc wr gs[k] cv (List.getElem_mem hlt) hbel hcs2
      obtain ⟨ca, cb, cc, rfl⟩ := hcs.form
      have e0 := (hbel.cell (p := ⟨g, k * 2, none⟩) hg).trans d0
      have e1 := (hbel.cell (p := ⟨g, k * 2 + 1, none⟩) hg).trans d1
      have hgl : g < wr.heap.size := Nat.lt_of_lt_of_le hg hbel.size
      have hki : (k : Int) < (gs.length : Int) := by omega
      have hk0 : (0 : Int) ≤ (k : Int) := by omega
      clear hc hcell d0 d1 hcs hcs2 hpc h
      cases hb : p gs[k] with
      | true =>
        rw [hb] at hcall
        have HI : Hid (idxW p gs = (k : Int)) := idxW_hit hlt hb (fun j hj => HN.out j hj (by omega))
        clear hb
        go_wp2_with (go_at_fn f; refine hcall.mono ?_; rintro e w1 ⟨rfl, hb1⟩)
        go_ret
        rw [HI.out]
        exact ⟨rfl, hbel.trans (hb1.mono hbel.size)⟩
      | false =>
        rw [hb] at hcall
        have HN' : Hid (∀ j, (hj : j < k + 1) → (hj' : j < gs.length) → p gs[j] = false) := fun j hj hj' => by
          by_cases e : j = k
          · subst e; exact hb
          · exact HN.out j (by omega) hj'
        clear hb
        go_wp2_with (go_at_fn f; refine hcall.mono ?_; rintro e w1 ⟨rfl, hb1⟩)
        go_roundw
        case rel => exact ⟨k + 1, hlt, by go_num, hbel.trans (hb1.mono hbel.size), HN'⟩
        case measure => simp [intOf]; omega
    · have ek : k = gs.length := by omega
      subst ek
      have HI : Hid (idxW p gs = -1) := idxW_miss (fun j hj => HN.out j hj hj)
      go_wp2
      go_ret
      rw [HI.out]
      exact ⟨rfl, hbel⟩
set_option maxHeartbeats 800000 in
theorem containsW_p {S : Nat → Prop} {w : World} {v : Value} {gs : List WWant} (h : WantsS S w v gs) (hl : gs.length ≤ 1000000) {f : Nat} {lb : Array Value} {p : WWant → Bool} (hp : TestW f lb p S w gs) :
    Calls Tryz.prog 112 #[v, .func (.func f) #[] lb] w fun e w' => e = .returned (.bool (gs.any p)) ∧ Below w.heap.size w w' := by
  have hc := indexW_p h hl hp
  obtain ⟨va, vb, vc, rfl⟩ := h.form
  have HA : Hid (decide ((0 : Int) ≤ idxW p gs) = gs.any p) := idxW_any p gs
  generalize idxW p gs = r at *
  go_enter Tryz.func112, Tryz.ntmps112
  go_wp2_with (go_at_call 154; refine hc.mono ?_; rintro e w1 ⟨rfl, hb1⟩)
  go_ret
  exact ⟨ret_bool HA.out, hb1⟩
set_option maxRecDepth 100000 in
set_option maxHeartbeats 1600000 in
theorem testStops {S : Nat → Prop} {w : World} {N M : Nat} {sv tv : Value} {ps : List Nat} {es : List Ev} {ip : Nat} {it : Ev} {gs : List WWant} (hN : w.cell? ⟨N, 1, none⟩ = some tv) (hNl : N < w.heap.size) (hM : w.cell? ⟨M, 0, none⟩ = some (.pointer (some ⟨ip, 0, none⟩))) (hMl : M < w.heap.size) (hC : Ctx w w.heap.size tv ps es ip it) (hW : ∀ x ∈ gs, WellRun x.cond) :
    TestW 114 #[.pointer (some ⟨N, 0, none⟩), .pointer (some ⟨M, 0, none⟩)] (fun x => fitsW x es it) S w gs := by
  refine ⟨Go.Proofs.enters_of Tryz.func114 (by kernel_rfl) rfl, fun w' x cv hx hbel hcs => ?_⟩
  have hN' := (hbel.cell (p := ⟨N, 1, none⟩) hNl).trans hN
  have hM' := (hbel.cell (p := ⟨M, 0, none⟩) hMl).trans hM
  have hNl' := Nat.lt_of_lt_of_le hNl hbel.size
  have hMl' := Nat.lt_of_lt_of_le hMl hbel.size
  have hb0 : Below w'.heap.size w' (w'.alloc (.cells #[.int .i64 x.kind, cv] 194)) := (Below.refl _ w').alloc (Nat.le_refl _) _
  have hfits := fits_p (S := S) (k := x.kind) (hcs.to (fun b hS hb => ⟨hS, hb0.block b hb⟩)) (hW x hx) (((hC.keep hbel).up hbel.size).keep hb0 |>.up hb0.size)
  obtain ⟨aa, ac, rfl, _⟩ := hC.ah
  obtain ⟨ca, cb, cc, rfl⟩ := hcs.form
  show Calls Tryz.prog 114 #[.agg #[.int .i64 x.kind, .slice ca cb cc], .pointer (some ⟨N, 0, none⟩), .pointer (some ⟨M, 0, none⟩)] w' _
  have hfw : (fun x => fitsW x es it) x = fitsW x es it := rfl
  rw [hfw]
  have hfe : (decide (it.kind = x.kind) && holdsP x.cond es it) = fitsW x es it := rfl
  rw [hfe] at hfits
  generalize fitsW x es it = fv at *
  go_enter Tryz.func114, Tryz.ntmps114
  go_wp2_with (go_at_call 115; refine hfits.mono ?_; rintro e w1 ⟨rfl, hb1⟩)
  go_ret
  exact ⟨rfl, hb0.trans (hb1.mono hb0.size)⟩
set_option maxRecDepth 100000 in
set_option maxHeartbeats 3200000 in
theorem stops_p {S : Nat → Prop} {w : World} {g n c k : Nat} {s : WStep} {cv gv : Value} {ta : Option Addr} {tc : Nat} {ps : List Nat} {es : List Ev} {ip : Nat} {it : Ev} (h : StepV S w g k s cv gv) (hk : k < n) (hW : ∀ x ∈ s.guards, WellRun x.cond) (hgl : s.guards.length ≤ 1000000) (hC : Ctx w w.heap.size (.slice ta k tc) ps es ip it) :
    Calls Tryz.prog 76 #[.agg #[.slice (some ⟨g, 0, none⟩) n c, .slice ta k tc], .pointer (some ⟨ip, 0, none⟩)] w fun e w' => e = .returned (.bool (s.guards.any fun x => fitsW x es it)) ∧ Below w.heap.size w w' := by
  have hA := Blk.new w #[.slice (some ⟨g, 0, none⟩) n c, .slice ta k tc] 163
  have hA2 := hA.alloc (.cells #[.pointer (some ⟨ip, 0, none⟩)] 156)
  have hB2 := Blk.new (w.alloc (.cells #[.slice (some ⟨g, 0, none⟩) n c, .slice ta k tc] 163)) #[.pointer (some ⟨ip, 0, none⟩)] 156
  have hb0 : Below w.heap.size w ((w.alloc (.cells #[.slice (some ⟨g, 0, none⟩) n c, .slice ta k tc] 163)).alloc (.cells #[.pointer (some ⟨ip, 0, none⟩)] 156)) := ((Below.refl _ w).alloc (Nat.le_refl _) _).alloc (by simp) _
  rw [alloc_size] at hB2
  have hnext := next_p (S := S) (n := n) (c := c) (ta := ta) (tc := tc) (h.keep hb0) hk
  have hC0 := (hC.keep hb0).up hb0.size
  have hG0 := (h.keep hb0).guards
  have hcont : ∀ W, Below ((w.alloc (.cells #[.slice (some ⟨g, 0, none⟩) n c, .slice ta k tc] 163)).alloc (.cells #[.pointer (some ⟨ip, 0, none⟩)] 156)).heap.size ((w.alloc (.cells #[.slice (some ⟨g, 0, none⟩) n c, .slice ta k tc] 163)).alloc (.cells #[.pointer (some ⟨ip, 0, none⟩)] 156)) W → Calls Tryz.prog 112 #[gv, .func (.func 114) #[] #[.pointer (some ⟨w.heap.size, 0, none⟩), .pointer (some ⟨w.heap.size + 1, 0, none⟩)]] W fun e w' => e = .returned (.bool (s.guards.any fun x => fitsW x es it)) ∧ Below w.heap.size w w' := fun W hW1 => by
    have hbW : Below w.heap.size w W := hb0.trans (hW1.mono hb0.size)
    have hA3 := hA2.of_eq (hW1.block _ hA2.lt)
    have hB3 := hB2.of_eq (hW1.block _ hB2.lt)
    refine (containsW_p (S := S) (hG0.to (fun b hS hb => ⟨hS, hW1.block b hb⟩)) hgl (testStops (sv := .slice (some ⟨g, 0, none⟩) n c) (hA3.cell 1) hA3.lt (hB3.cell 0) hB3.lt ((hC0.keep hW1).up hW1.size) hW)).mono ?_
    rintro e w' ⟨h1, h2⟩
    exact ⟨h1, hbW.trans (h2.mono hbW.size)⟩
  obtain ⟨ca, cb, cc, rfl⟩ := h.cond.form
  obtain ⟨ga, gb, gc, rfl⟩ := h.guards.form
  generalize (s.guards.any fun x => fitsW x es it) = fv at *
  go_enter Tryz.func76, Tryz.ntmps76
  go_wp2_with (first
    | (go_at_call 113; refine hnext.mono ?_; rintro e w1 ⟨rfl, hb1⟩)
    | (go_at_call 112; refine (hcont _ hb1).mono ?_; rintro e w2 ⟨rfl, hb2⟩))
  go_ret
  exact ⟨rfl, hb2⟩
end Go.Proofs.YtddbjcfdmdbmkaaGreatDoor

namespace Go.Proofs.YtddbjcfdmdbmkaaGreatDoor
open Go.RowKit

def In64 (n : Int) : Prop := -9223372036854775808 ≤ n ∧ n ≤ 9223372036854775807
theorem near_u64 {early late win : Int} (h : early ≤ late) (he : In64 early) (hl : In64 late) (hw : 0 ≤ win ∧ win ≤ 1000000) : ((late % 18446744073709551616 - early % 18446744073709551616) % 18446744073709551616 < win % 18446744073709551616) ↔ late - early < win := by
  unfold In64 at *
  omega
set_option maxRecDepth 100000 in
set_option maxHeartbeats 800000 in
theorem isNear_p {w : World} {X : Nat} {early late win : Int} (hX : X < w.heap.size) (hc : w.cell? ⟨X, 0, none⟩ = some (.int .i64 win)) (h : early ≤ late) (he : In64 early) (hl : In64 late) (hw : 0 ≤ win ∧ win ≤ 1000000) :
    Calls Tryz.prog 105 #[.pointer (some ⟨X, 0, none⟩), .int .i64 early, .int .i64 late] w fun e w' => e = .returned (.bool (decide (late - early < win))) ∧ w' = w := by
  have hn := near_u64 h he hl hw
  go_enter Tryz.func105, Tryz.ntmps105
  go_wp2
  go_ret
  refine ⟨?_, rfl⟩
  simp [IntKind.wrap, IntKind.bits, IntKind.signed]
  unfold In64 at *
  omega
theorem times_at {w : World} {tv : Value} {ts : List Int} (h : w.ownsRow 0 3 1 tv ts.length (ts.map (Value.int .i64))) : ∃ a c, tv = .slice a ts.length c ∧ (0 < ts.length → ∃ g, a = some ⟨g, 0, none⟩ ∧ g < w.heap.size ∧ ∀ k, (hk : k < ts.length) → w.cell? ⟨g, k, none⟩ = some (.int .i64 ts[k])) := by
  rcases h.2 with ⟨rfl, h0⟩ | ⟨g, cap, cur, rfl, _, hg, _⟩
  · exact ⟨none, 0, by rw [h0], fun h => by omega⟩
  · refine ⟨_, _, rfl, fun _ => ⟨g, rfl, (Array.getElem?_eq_some_iff.1 hg).1, fun k hk => ?_⟩⟩
    have := h.cells (g := g) rfl k (.int .i64 ts[k]) (by rw [List.getElem?_map, List.getElem?_eq_getElem hk]; rfl)
    rw [addr_add, Nat.zero_add] at this; exact this
set_option maxRecDepth 100000 in
set_option maxHeartbeats 1600000 in
theorem passed_p {w : World} {X : Nat} {win now : Int} {x1 x2 x3 tv rv : Value} {ts : List Int} (hX : Blk w X #[.int .i64 win, x1, x2, x3, tv, rv] 110) (ht : w.ownsRow 0 3 1 tv ts.length (ts.map (Value.int .i64))) (hl : ts.length ≤ 1000000) (hle : ∀ t ∈ ts, t ≤ now ∧ In64 t) (hn : In64 now) (hw : 0 ≤ win ∧ win ≤ 1000000) :
    Calls Tryz.prog 71 #[.pointer (some ⟨X, 0, none⟩), .int .i64 now] w fun e w' => e = .returned (.int .i64 (passedP win now ts)) ∧ w' = w := by
  obtain ⟨a, c, rfl, hcell⟩ := times_at ht
  have c0 := hX.cell 0; have c4 := hX.cell 4; have hXl := hX.lt
  simp at c0 c4
  clear ht hX
  go_enter Tryz.func71, Tryz.ntmps71
  go_wp2
  go_loopw [5] (fun n wr => ∃ k : Nat, k ≤ ts.length ∧ n = .int .i64 k ∧ wr = w ∧ Hid (∀ i, (h : i < k) → (h' : i < ts.length) → win ≤ now - ts[i])) (fun n _ => ts.length - (intOf n).toNat)
  case atStart => exact ⟨0, Nat.zero_le _, rfl, rfl, fun i h => absurd h (Nat.not_lt_zero _)⟩
  case round =>
    obtain ⟨k, hk, rfl, rfl, HF⟩ := hrel
    by_cases hlt : k < ts.length
    · obtain ⟨g, rfl, hg, hc⟩ := hcell (by omega)
      have hck := hc k hlt
      obtain ⟨h1, h2⟩ := hle ts[k] (List.getElem_mem hlt)
      have hnear := isNear_p hXl c0 h1 h2 hn hw
      have hki : (k : Int) < (ts.length : Int) := by omega
      have hk0 : (0 : Int) ≤ (k : Int) := by omega
      clear hc hcell hle
      by_cases hb : now - ts[k] < win
      · rw [decide_eq_true hb] at hnear
        have HP : Hid (passedP win now ts = k) := passedP_step win now ts k hlt (fun i hi => Int.not_lt.2 (HF.out i hi (by omega))) hb
        generalize ts[k] = tk at *
        clear hb
        go_wp2_with (go_at_call 105; refine hnear.mono ?_; rintro e w1 ⟨rfl, rfl⟩)
        go_ret
        rw [HP.out]
        exact ⟨rfl, rfl⟩
      · rw [decide_eq_false hb] at hnear
        have HF' : Hid (∀ i, (h : i < k + 1) → (h' : i < ts.length) → win ≤ now - ts[i]) := fun i hi hi' => by
          by_cases e : i = k
          · subst e; omega
          · exact HF.out i (by omega) hi'
        generalize ts[k] = tk at *
        clear hb
        go_wp2_with (go_at_call 105; refine hnear.mono ?_; rintro e w1 ⟨rfl, rfl⟩)
        go_roundw
        case rel => exact ⟨k + 1, hlt, by go_num, trivial, HF'⟩
        case measure => simp [intOf]; omega
    · have e : k = ts.length := by omega
      subst e
      have HP : Hid (passedP win now ts = ts.length) := passedP_all win now ts (fun i hi => Int.not_lt.2 (HF.out i hi hi))
      go_wp2
      go_ret
      rw [HP.out]
      exact ⟨rfl, rfl⟩
def evVal (e : Ev) : Value := .agg #[.int .i64 e.time, .int .i64 e.kind, .int .i64 e.a, .int .i64 e.b, .int .i64 e.c]
def faultT (win : Int) (rate : Nat) (ts : List Int) (now : Int) : Nat := if 0 < ts.length ∧ now < ts.getLastD 0 then 7 else if rate ≤ ts.length - passedP win now ts then 8 else 0
set_option maxRecDepth 100000 in
set_option maxHeartbeats 3200000 in
theorem fault_p {w : World} {X : Nat} {win : Int} {rate : Nat} {x2 x3 tv rv : Value} {ts : List Int} (ev : Ev) (hX : Blk w X #[.int .i64 win, .int .i64 rate, x2, x3, tv, rv] 110) (ht : w.ownsRow 0 3 1 tv ts.length (ts.map (Value.int .i64))) (hl : ts.length ≤ 1000000) (hr : rate ≤ 1000000) (hle : ∀ t ∈ ts, t ≤ ts.getLastD 0 ∧ In64 t) (hn : In64 ev.time) (hw : 0 ≤ win ∧ win ≤ 1000000) :
    Calls Tryz.prog 48 #[.pointer (some ⟨X, 0, none⟩), evVal ev] w fun e w' => e = .returned (.int .i64 (faultT win rate ts ev.time)) ∧ Below w.heap.size w w' := by
  have hE := Blk.new w #[.int .i64 ev.time, .int .i64 ev.kind, .int .i64 ev.a, .int .i64 ev.b, .int .i64 ev.c] 44
  have hb0 : Below w.heap.size w (w.alloc (.cells #[.int .i64 ev.time, .int .i64 ev.kind, .int .i64 ev.a, .int .i64 ev.b, .int .i64 ev.c] 44)) := (Below.refl _ w).alloc (Nat.le_refl _) _
  have hX1 := hX.alloc (.cells #[.int .i64 ev.time, .int .i64 ev.kind, .int .i64 ev.a, .int .i64 ev.b, .int .i64 ev.c] 44)
  have ht1 := ht.alloc (.cells #[.int .i64 ev.time, .int .i64 ev.kind, .int .i64 ev.a, .int .i64 ev.b, .int .i64 ev.c] 44)
  unfold evVal faultT
  generalize hW : w.alloc (.cells #[.int .i64 ev.time, .int .i64 ev.kind, .int .i64 ev.a, .int .i64 ev.b, .int .i64 ev.c] 44) = W at *
  have hP : ∀ m n, (∀ t ∈ ts, t ≤ ev.time ∧ In64 t) → Calls Tryz.prog 71 #[.pointer (some ⟨X, 0, none⟩), .int .i64 ev.time] (W.drewN (m + n)) fun e w' => e = .returned (.int .i64 (passedP win ev.time ts)) ∧ ∃ k, w' = W.drewN (m + k) := fun m n hle => by
    refine (passed_p (w := W.drewN (m + n)) hX1 ht1 hl hle hn hw).mono ?_
    rintro e w' ⟨h1, h2⟩
    exact ⟨h1, n, h2⟩
  obtain ⟨a, c, rfl, hcell⟩ := times_at ht1
  have e0 := hE.cell 0; have hEl := hE.lt
  have c4 := hX1.cell 4; have c1 := hX1.cell 1; have hXl := hX1.lt
  simp at e0 c4 c1
  have hbd : ∀ n, Below w.heap.size w (W.drewN n) := fun n => ⟨hb0.os, hb0.tape, hb0.output, hb0.size, hb0.block⟩
  have hpl := passedP_le win ev.time ts
  have HPd : Hid (passedP win ev.time ts = passedP win ev.time ts) := rfl
  by_cases h1 : 0 < ts.length
  · obtain ⟨g, rfl, hg, hc⟩ := hcell h1
    obtain ⟨m, hm⟩ : ∃ m, ts.length = m + 1 := ⟨ts.length - 1, by omega⟩
    have hlast : ts.getLastD 0 = ts[m] := by
      rw [List.getLastD_eq_getLast?, List.getLast?_eq_getElem?]
      simp [hm]
    have hcm := hc m (by omega)
    rw [hlast] at hle ⊢
    have hmi : (ts.length : Int) - 1 = (m : Int) := by omega
    have hm0 : (0 : Int) ≤ (m : Int) := by omega
    have hm1 : (m : Int) < (ts.length : Int) := by omega
    clear hc hcell
    by_cases h2 : ev.time < ts[m]
    · rw [if_pos ⟨h1, h2⟩]
      generalize ts[m] = tm at *
      clear hP
      go_enter Tryz.func48, Tryz.ntmps48
      go_upto_region 2 with fail
      go_quiet (fail)
      go_wp2
      go_ret
      exact ⟨rfl, hbd _⟩
    · rw [if_neg (fun h => h2 h.2)]
      have hP2 := fun m n => hP m n (fun t ht => ⟨Int.le_trans (hle t ht).1 (Int.not_lt.1 h2), (hle t ht).2⟩)
      have h2' : decide (ev.time < ts[m]) = false := decide_eq_false h2
      clear hP
      generalize passedP win ev.time ts = pd at *
      generalize ts[m] = tm at *
      by_cases h3 : rate ≤ ts.length - pd
      · rw [if_pos h3]
        have h3' : (rate : Int) ≤ (ts.length : Int) - (pd : Int) := by omega
        go_enter Tryz.func48, Tryz.ntmps48
        go_upto_region 2 with fail
        go_quiet (fail)
        go_upto_region 4 with fail
        go_quiet (first | (go_at_call 71; refine hP2 _ _))
        go_wp2
        go_ret
        exact ⟨rfl, hbd _⟩
      · rw [if_neg h3]
        have h3' : (ts.length : Int) - (pd : Int) < (rate : Int) := by omega
        go_enter Tryz.func48, Tryz.ntmps48
        go_upto_region 2 with fail
        go_quiet (fail)
        go_upto_region 4 with fail
        go_quiet (first | (go_at_call 71; refine hP2 _ _))
        go_wp2
        go_ret
        exact ⟨rfl, hbd _⟩
  · rw [if_neg (fun h => h1 h.1)]
    have hz : ts.length = 0 := by omega
    have hP2 := fun m n => hP m n (fun t ht => by rw [List.length_eq_zero_iff.1 hz] at ht; simp at ht)
    rw [List.length_eq_zero_iff.1 hz] at hP2 c4 hpl ⊢
    clear hP hcell
    have hpd : passedP win ev.time [] = 0 := rfl
    rw [hpd] at hP2 ⊢
    by_cases h3 : rate ≤ 0
    · rw [if_pos (by simpa using h3)]
      have h3' : rate = 0 := by omega
      subst h3'
      go_enter Tryz.func48, Tryz.ntmps48
      go_upto_region 2 with fail
      go_quiet (fail)
      go_upto_region 4 with fail
      go_quiet (first | (go_at_call 71; refine hP2 _ _))
      go_wp2
      go_ret
      exact ⟨rfl, hbd _⟩
    · rw [if_neg (by simpa using h3)]
      have h3' : (0 : Int) < (rate : Int) := by omega
      go_enter Tryz.func48, Tryz.ntmps48
      go_upto_region 2 with fail
      go_quiet (fail)
      go_upto_region 4 with fail
      go_quiet (first | (go_at_call 71; refine hP2 _ _))
      go_wp2
      go_ret
      exact ⟨rfl, hbd _⟩
end Go.Proofs.YtddbjcfdmdbmkaaGreatDoor

namespace Go.Proofs.YtddbjcfdmdbmkaaGreatDoor
open Go.RowKit

set_option maxHeartbeats 400000 in
theorem events_p {w : World} {X : Nat} {win rate : Int} {pv : Value} (h : Blk w X (WatchC win rate pv) 110) :
    Calls Tryz.prog 37 #[.pointer (some ⟨X, 0, none⟩)] w fun e w' => e = .returned (.int .i64 0) ∧ w' = w := by
  have x3 := h.cell 3
  have hX := h.lt
  simp [WatchC] at x3
  go_enter Tryz.func37, Tryz.ntmps37
  go_wp2
  go_ret
  exact ⟨rfl, rfl⟩
set_option maxHeartbeats 400000 in
theorem runs_p {w : World} {X : Nat} {win rate : Int} {pv : Value} (h : Blk w X (WatchC win rate pv) 110) :
    Calls Tryz.prog 38 #[.pointer (some ⟨X, 0, none⟩)] w fun e w' => e = .returned (.int .i64 0) ∧ w' = w := by
  have x5 := h.cell 5
  have hX := h.lt
  simp [WatchC] at x5
  go_enter Tryz.func38, Tryz.ntmps38
  go_wp2
  go_ret
  exact ⟨rfl, rfl⟩
def EngineC (bd : Int) (X : Nat) : Array Value := #[.int .i64 bd, .int .i64 0, .pointer (some ⟨X, 0, none⟩)]
def ProgComp (w : World) (r : (PPat × Nat × List (List PPart)) ⊕ (Nat × Nat)) (v : Value) (w' : World) : Prop := Below w.heap.size w w' ∧ match r with
  | .inr (p, e) => v = .tuple #[.pointer none, .int .i64 p, .int .i64 e]
  | .inl (_, bd, _) => ∃ E X win rate pv, v = .tuple #[.pointer (some ⟨E, 0, none⟩), .int .i64 0, .int .i64 0] ∧ w.heap.size ≤ E ∧ Blk w' E (EngineC bd X) 73 ∧ Blk w' X (WatchC win rate pv) 110

set_option maxRecDepth 100000 in
set_option maxHeartbeats 1600000 in
theorem compile_p (s : ByteArray) (w : World) (hok : ∀ pat bd ps, herP s = .inl (pat, bd, ps) → ps.length ≤ 1000 ∧ ∀ l ∈ ps, l.length ≤ 100000 ∧ l ≠ [] ∧ ∀ p ∈ l, p.cond.length ≤ 1000000) (hnz : ∀ p e, herP s = .inr (p, e) → 1 ≤ e ∧ e ≤ 8) :
    Calls Tryz.prog 15 #[.string s] w fun e w' => ∃ v, e = .returned v ∧ ProgComp w (herP s) v w' := by
  have hread := read_h s w
  cases hr : herP s with
  | inr r =>
    obtain ⟨pl, er⟩ := r
    have he := hnz pl er hr
    have he' : ((er : Int) != 0) = true := by simp; omega
    have HR : Hid (herP s = .inr (pl, er)) := hr
    clear hok hnz he hr
    have hp0 := fun (W : World) => Blk.new W zeroPlan 67
    go_enter Tryz.func15, Tryz.ntmps15
    go_wp2_with fail
    refine hread.mono ?_
    rintro e w1 ⟨v, rfl, hbel, hpost⟩
    rw [HR.out] at hpost
    obtain ⟨tv, rfl⟩ := hpost
    unfold zeroPlan
    go_wp2
    exact bodyPost_ret (v := .tuple #[.pointer none, .int .i64 pl, .int .i64 er]) (by simp [results, Tryz.results15, go_sem]) rfl ⟨_, rfl, hbel.alloc hbel.size _, rfl⟩
  | inl r =>
    obtain ⟨pat, bd, ps⟩ := r
    obtain ⟨hl, hps⟩ := hok pat bd ps hr
    have HR : Hid (herP s = .inl (pat, bd, ps)) := hr
    clear hok hnz hr
    go_enter Tryz.func15, Tryz.ntmps15
    go_wp2_with fail
    refine hread.mono ?_
    rintro e w1 ⟨v, rfl, hbel, hpost⟩
    rw [HR.out] at hpost
    obtain ⟨tv, sv, rfl, hP, _⟩ := hpost
    obtain ⟨pa, pn, pc, epv⟩ : ∃ a n c, sv = .slice a n c := by obtain ⟨vs, _, h, _⟩ := hP; exact row_form h
    subst epv
    go_upto_region 4 with fail
    have hBp := Blk.new w1 #[.int .i64 pat.window, .int .i64 pat.rate, .int .i64 bd, .slice pa pn pc] 67
    have hbel1 : Below w.heap.size w (w1.alloc (.cells #[.int .i64 pat.window, .int .i64 pat.rate, .int .i64 bd, .slice pa pn pc] 67)) := hbel.alloc hbel.size _
    have hP1 : PathsLie all7 (w1.alloc (.cells #[.int .i64 pat.window, .int .i64 pat.rate, .int .i64 bd, .slice pa pn pc] 67)) (.slice pa pn pc) ps := hP.ext ((Ext.refl all7 w1).alloc _)
    have hNlt := hBp.lt
    generalize w1.alloc (.cells #[.int .i64 pat.window, .int .i64 pat.rate, .int .i64 bd, .slice pa pn pc] 67) = W1 at *
    generalize w1.heap.size = N at *
    have hcall : ∀ W, Below W1.heap.size W1 W → Calls Tryz.prog 36 #[.agg #[.int .i64 pat.window, .int .i64 pat.rate, .int .i64 bd, .slice pa pn pc]] W fun e w' => ∃ X, e = .returned (.pointer (some ⟨X, 0, none⟩)) ∧ Below W1.heap.size W1 w' ∧ ∃ pv, Blk w' X (WatchC pat.window pat.rate pv) 110 := fun W hW => by
      refine (new_weak (hP1.ext (Ext.of_below (own := all7) hW)) pat.window pat.rate bd hl hps).mono ?_
      rintro e w' ⟨X, h1, h2, h3, a, n, c, h4⟩
      exact ⟨X, h1, hW.trans (h2.mono hW.size), _, h4⟩
    have p0 := hBp.cell 0; have p1 := hBp.cell 1; have p2 := hBp.cell 2; have p3 := hBp.cell 3
    simp at p0 p1 p2 p3
    have hpf : ∀ w5, Below W1.heap.size W1 w5 → w5.cell? ⟨N, 2, none⟩ = some (.int .i64 bd) := fun w5 h => (h.cell (p := ⟨N, 2, none⟩) hNlt).trans p2
    go_region_with (first
      | (go_at_call 36; refine (hcall _ (by first | exact Below.refl _ _ | exact ⟨rfl, rfl, rfl, Nat.le_refl _, fun _ _ => rfl⟩)).mono ?_; rintro e w5 ⟨X, rfl, hb5, pv5, hX5⟩; have p2' := hpf w5 hb5; have hNl5 : N < w5.heap.size := Nat.lt_of_lt_of_le hNlt hb5.size))
    all_goals
      go_wp2
      have hb6 : Below w.heap.size w w5 := hbel1.trans (hb5.mono hbel1.size)
      refine bodyPost_ret (v := .tuple #[.pointer (some ⟨w5.heap.size, 0, none⟩), .int .i64 0, .int .i64 0]) (by simp [results, Tryz.results15, go_sem]) rfl ⟨_, rfl, hb6.alloc hb6.size _, ?_⟩
      exact ⟨w5.heap.size, X, _, _, _, rfl, hb6.size, Blk.new _ _ _, hX5.alloc _⟩

end Go.Proofs.YtddbjcfdmdbmkaaGreatDoor

namespace Go.Proofs.YtddbjcfdmdbmkaaGreatDoor
open Go.RowKit

theorem below_set4 (W : World) (n : Nat) (a b c d : Value) : Below n W ((((W.setCell ⟨n, 0, none⟩ a).setCell ⟨n, 1, none⟩ b).setCell ⟨n, 2, none⟩ c).setCell ⟨n, 3, none⟩ d).drew :=
  ⟨rfl, rfl, rfl, by simp [World.setCell], fun k hk => by
    refine Eq.trans (Below.heap_setCell _ _ _ _ (Nat.ne_of_lt hk)) (Eq.trans (Below.heap_setCell _ _ _ _ (Nat.ne_of_lt hk)) (Eq.trans (Below.heap_setCell _ _ _ _ (Nat.ne_of_lt hk)) (Below.heap_setCell _ _ _ _ (Nat.ne_of_lt hk))))⟩

set_option maxRecDepth 100000 in
set_option maxHeartbeats 1600000 in
theorem look_p {w : World} {E X : Nat} {bd : Nat} {win rate : Int} {pv : Value} (hE : Blk w E (EngineC bd X) 73) (hX : Blk w X (WatchC win rate pv) 110) :
    Calls Tryz.prog 16 #[.pointer (some ⟨E, 0, none⟩)] w fun e w' => e = .returned (.agg #[.int .i64 0, .int .i64 0, .int .i64 (bd : Nat), .int .i64 0]) ∧ Below w.heap.size w w' := by
  have hE1 := hE.alloc (.cells #[.int .i64 0, .int .i64 0, .int .i64 0, .int .i64 0] 27)
  have hX1 := hX.alloc (.cells #[.int .i64 0, .int .i64 0, .int .i64 0, .int .i64 0] 27)
  have hN := Blk.new w #[.int .i64 0, .int .i64 0, .int .i64 0, .int .i64 0] 27
  have hbel : Below w.heap.size w (w.alloc (.cells #[.int .i64 0, .int .i64 0, .int .i64 0, .int .i64 0] 27)) := (Below.refl _ w).alloc (Nat.le_refl _) _
  go_enter Tryz.func16, Tryz.ntmps16
  go_upto_region 1 with fail
  have hb2 : ∀ W', Below w.heap.size (w.alloc (.cells #[.int .i64 0, .int .i64 0, .int .i64 0, .int .i64 0] 27)) W' → Below w.heap.size w W' := fun W' h => hbel.trans h
  generalize w.alloc (.cells #[.int .i64 0, .int .i64 0, .int .i64 0, .int .i64 0] 27) = W at *
  have e0 := hE1.cell 0; have e1 := hE1.cell 1; have e2 := hE1.cell 2; have l1 := hE1.lt; have l2 := hX1.lt; have l3 := hN.lt
  simp [EngineC] at e0 e1 e2
  have v0 := hN.cell 0; have v1 := hN.cell 1; have v2 := hN.cell 2; have v3 := hN.cell 3; have f0 := hN.frozen 0; have f1 := hN.frozen 1; have f2 := hN.frozen 2; have f3 := hN.frozen 3
  simp at v0 v1 v2 v3
  have hev := fun (w' : World) (h : Blk w' X (WatchC win rate pv) 110) => events_p (w := w') h
  have hru := fun (w' : World) (h : Blk w' X (WatchC win rate pv) 110) => runs_p (w := w') h
  have hne : ¬ E = w.heap.size := Nat.ne_of_lt hE.lt
  have hne' : ¬ w.heap.size = E := fun h => hne h.symm
  go_region_held3 (fun w' => w'.cell? ⟨E, 2, none⟩ = some (.pointer (some ⟨X, 0, none⟩)) ∧ w'.cell? ⟨E, 0, none⟩ = some (.int .i64 bd) ∧ w'.cell? ⟨E, 1, none⟩ = some (.int .i64 0)) (simp [*, World.cell?_setCell_other])
   (first
    | (go_at_call 38; refine (hru _ hX1.drew).mono ?_; rintro e w5 ⟨rfl, rfl⟩)
    | (go_at_call 37; refine (hev _ hX1.drew).mono ?_; rintro e w5 ⟨rfl, rfl⟩))
  all_goals
    go_wp2
    clear hev hru hE1 hX1 hE hX e0 e1 e2 hne hne'
    rename_i hheld
    clear hheld
    have hB : Below w.heap.size W ((((W.setCell ⟨w.heap.size, 0, none⟩ (.int .i64 0)).setCell ⟨w.heap.size, 1, none⟩ (.int .i64 0)).setCell ⟨w.heap.size, 2, none⟩ (.int .i64 (bd : Nat))).setCell ⟨w.heap.size, 3, none⟩ (.int .i64 0)).drew :=
      below_set4 _ _ _ _ _ _
    have g0 : ((((W.setCell ⟨w.heap.size, 0, none⟩ (.int .i64 0)).setCell ⟨w.heap.size, 1, none⟩ (.int .i64 0)).setCell ⟨w.heap.size, 2, none⟩ (.int .i64 (bd : Nat))).setCell ⟨w.heap.size, 3, none⟩ (.int .i64 0)).drew.cell? ⟨w.heap.size, 0, none⟩ = some (.int .i64 0) := by simp [World.cell?_setCell_other, v0, v1, v2, v3, go_sem]
    have g1 : ((((W.setCell ⟨w.heap.size, 0, none⟩ (.int .i64 0)).setCell ⟨w.heap.size, 1, none⟩ (.int .i64 0)).setCell ⟨w.heap.size, 2, none⟩ (.int .i64 (bd : Nat))).setCell ⟨w.heap.size, 3, none⟩ (.int .i64 0)).drew.cell? ⟨w.heap.size, 1, none⟩ = some (.int .i64 0) := by simp [World.cell?_setCell_other, v0, v1, v2, v3, go_sem]
    have g2 : ((((W.setCell ⟨w.heap.size, 0, none⟩ (.int .i64 0)).setCell ⟨w.heap.size, 1, none⟩ (.int .i64 0)).setCell ⟨w.heap.size, 2, none⟩ (.int .i64 (bd : Nat))).setCell ⟨w.heap.size, 3, none⟩ (.int .i64 0)).drew.cell? ⟨w.heap.size, 2, none⟩ = some (.int .i64 (bd : Nat)) := by simp [World.cell?_setCell_other, v0, v1, v2, v3, go_sem]
    have g3 : ((((W.setCell ⟨w.heap.size, 0, none⟩ (.int .i64 0)).setCell ⟨w.heap.size, 1, none⟩ (.int .i64 0)).setCell ⟨w.heap.size, 2, none⟩ (.int .i64 (bd : Nat))).setCell ⟨w.heap.size, 3, none⟩ (.int .i64 0)).drew.cell? ⟨w.heap.size, 3, none⟩ = some (.int .i64 0) := by simp [World.cell?_setCell_other, v0, v1, v2, v3, go_sem]
    generalize ((((W.setCell ⟨w.heap.size, 0, none⟩ (.int .i64 0)).setCell ⟨w.heap.size, 1, none⟩ (.int .i64 0)).setCell ⟨w.heap.size, 2, none⟩ (.int .i64 (bd : Nat))).setCell ⟨w.heap.size, 3, none⟩ (.int .i64 0)).drew = W4 at *
    refine bodyPost_ret (v := .agg #[.int .i64 0, .int .i64 0, .int .i64 (bd : Nat), .int .i64 0]) (by simp [results, Tryz.results16, go_sem, g0, g1, g2, g3]) rfl ⟨rfl, hb2 _ hB⟩
end Go.Proofs.YtddbjcfdmdbmkaaGreatDoor

namespace Go.Proofs.YtddbjcfdmdbmkaaGreatDoor
open Go.RowKit

def pickP (c : Int) (n : Nat) : Nat := ((if c < 0 then -(c + 1) else c) % (n : Int)).toNat
theorem pick_lt (c : Int) {n : Nat} (h : 0 < n) : pickP c n < n := by
  unfold pickP
  have h1 := Int.emod_nonneg (if c < 0 then -(c + 1) else c) (show (n : Int) ≠ 0 by omega)
  have h2 := Int.emod_lt_of_pos (if c < 0 then -(c + 1) else c) (show 0 < (n : Int) by omega)
  omega
theorem pick_int (c : Int) {n : Nat} (h : 0 < n) : ((pickP c n : Nat) : Int) = (if c < 0 then -(c + 1) else c) % (n : Int) := by
  unfold pickP
  have h1 := Int.emod_nonneg (if c < 0 then -(c + 1) else c) (show (n : Int) ≠ 0 by omega)
  omega
set_option maxHeartbeats 800000 in
theorem pick_p (c : Int) (n : Nat) (hc : In64 c) (hn : 0 < n) (hn2 : n ≤ 4611686018427387904) (w : World) : Calls Tryz.prog 21 #[.int .i64 c, .int .i64 n] w fun e w' => e = .returned (.int .i64 (pickP c n : Nat)) ∧ w' = w := by
  rw [pick_int c hn]
  unfold In64 at hc
  have hn0 : ¬ (n : Int) = 0 := by omega
  by_cases h : c < 0
  · rw [if_pos h]
    go_enter Tryz.func21, Tryz.ntmps21
    go_wp2
    go_ret
    refine ⟨?_, rfl⟩
    show Ending.returned (.int .i64 (-(c + 1).tmod (n : Int))) = _
    rw [← Int.neg_tmod, Int.tmod_eq_emod_of_nonneg (by omega)]
  · rw [if_neg h]
    go_enter Tryz.func21, Tryz.ntmps21
    go_wp2
    go_ret
    exact ⟨rfl, rfl⟩
end Go.Proofs.YtddbjcfdmdbmkaaGreatDoor

namespace Go.Proofs.YtddbjcfdmdbmkaaGreatDoor
open Go.RowKit

set_option maxRecDepth 100000 in
set_option maxHeartbeats 1600000 in
theorem evK_p (c time : Int) (hc : In64 c) (h0 : 0 ≤ time) (h1 : time ≤ 4000000000000) (w : World) :
    Calls Tryz.prog 34 #[.int .i64 c, .int .i64 time] w fun x w' => x = .returned (evVal (evM (pickP c 1099511627776) time)) ∧ Below w.heap.size w w' := by
  have p1 := fun w1 => pick_p c 1099511627776 hc (by omega) (by omega) w1
  have k1 := pick_lt c (show 0 < 1099511627776 by omega)
  generalize pickP c 1099511627776 = n at *
  simp only [Int.cast_ofNat_Int] at p1
  unfold evVal evM
  have hN := Blk.new w #[.int .i64 0, .int .i64 0, .int .i64 0, .int .i64 0, .int .i64 0] 44
  have hl := hN.lt
  go_enter Tryz.func34, Tryz.ntmps34
  go_upto_region 2 with (go_at_call 21; refine (p1 _).mono ?_; rintro x1 w1 ⟨rfl, e⟩; rw [e]; clear e w1)
  go_wp2
  have hM := Blk.new w #[.int .i64 (time + (n : Int) % 4), .int .i64 ((n : Int) / 4 % 3), .int .i64 ((n : Int) / 12 % 5 - 1), .int .i64 ((n : Int) / 60 % 4 - 1), .int .i64 ((n : Int) / 240 % 4)] 44
  have hbel : Below w.heap.size w (w.alloc (.cells #[.int .i64 (time + (n : Int) % 4), .int .i64 ((n : Int) / 4 % 3), .int .i64 ((n : Int) / 12 % 5 - 1), .int .i64 ((n : Int) / 60 % 4 - 1), .int .i64 ((n : Int) / 240 % 4)] 44)) := (Below.refl _ w).alloc (Nat.le_refl _) _
  have v0 := hM.cell 0; have v1 := hM.cell 1; have v2 := hM.cell 2; have v3 := hM.cell 3; have v4 := hM.cell 4; have l3 := hM.lt
  simp only [List.getElem?_toArray, List.getElem?_cons_zero, List.getElem?_cons_succ] at v0 v1 v2 v3 v4
  generalize w.alloc (.cells #[.int .i64 (time + (n : Int) % 4), .int .i64 ((n : Int) / 4 % 3), .int .i64 ((n : Int) / 12 % 5 - 1), .int .i64 ((n : Int) / 60 % 4 - 1), .int .i64 ((n : Int) / 240 % 4)] 44) = W at *
  refine bodyPost_ret (v := .agg #[.int .i64 (time + (n : Int) % 4), .int .i64 ((n : Int) / 4 % 3), .int .i64 ((n : Int) / 12 % 5 - 1), .int .i64 ((n : Int) / 60 % 4 - 1), .int .i64 ((n : Int) / 240 % 4)]) (by simp [results, Tryz.results34, go_sem, v0, v1, v2, v3, v4]) rfl ⟨by simp, hbel⟩
end Go.Proofs.YtddbjcfdmdbmkaaGreatDoor
