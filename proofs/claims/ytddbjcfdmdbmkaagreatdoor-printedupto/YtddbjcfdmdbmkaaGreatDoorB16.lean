import Derived.Test.YtddbjcfdmdbmkaaGreatDoorB15
import Derived.Test.YtddbjcfdmdbmkaaGreatDoorB01
set_option linter.unusedVariables false
set_option linter.unusedSimpArgs false
namespace Go.Proofs.YtddbjcfdmdbmkaaGreatDoor
open Go.RowKit

def TestAt (g : Nat) (lb : Array Value) (p : PPart → Bool) (w : World) : Prop := (∀ args w, (callFunc g args).run Tryz.prog w = .ok (.enter g args) w) ∧
  ∀ (w' : World) (x : PPart) (cv hv : Value), Below w.heap.size w w' → (∃ a b c, cv = .slice a b c) → (∃ a b c, hv = .slice a b c) → Calls Tryz.prog g (#[partVal x cv hv] ++ lb) w' fun e w'' => e = .returned (.bool (p x)) ∧ Below w'.heap.size w' w''
def idxP (p : PPart → Bool) (l : List PPart) : Int := match l.findIdx? p with | some k => (k : Int) | none => -1
theorem idxP_hit {p : PPart → Bool} {l : List PPart} {k : Nat} (hk : k < l.length) (h : p l[k] = true) (hn : ∀ j, (hj : j < k) → p (l[j]'(by omega)) = false) : idxP p l = k := by
  have : l.findIdx? p = some k := List.findIdx?_eq_some_iff_getElem.2 ⟨hk, h, fun j hj => by simp [hn j hj]⟩
  unfold idxP; rw [this]
theorem idxP_miss {p : PPart → Bool} {l : List PPart} (hn : ∀ j, (hj : j < l.length) → p l[j] = false) : idxP p l = -1 := by
  have : l.findIdx? p = none := List.findIdx?_eq_none_iff.2 (fun x hx => by obtain ⟨j, hj, rfl⟩ := List.getElem_of_mem hx; exact hn j hj)
  unfold idxP; rw [this]
theorem idxP_any (p : PPart → Bool) (l : List PPart) : decide ((0 : Int) ≤ idxP p l) = l.any p := by
  unfold idxP
  cases h : l.findIdx? p with
  | none =>
    have := List.findIdx?_eq_none_iff.1 h
    have e : l.any p = false := by rw [List.any_eq_false]; intro x hx; simp [this x hx]
    rw [e]; rfl
  | some k =>
    obtain ⟨hk, hp, _⟩ := List.findIdx?_eq_some_iff_getElem.1 h
    have e : l.any p = true := List.any_eq_true.2 ⟨_, List.getElem_mem hk, hp⟩
    rw [e]; simp

set_option maxRecDepth 100000 in
set_option maxHeartbeats 800000 in
theorem indexFunc_p {own : Nat → Nat} {w : World} {v : Value} {l : List PPart} (h : PathV own w v l) (hl : l.length ≤ 1000000) {g : Nat} {lb : Array Value} {p : PPart → Bool} (hp : TestAt g lb p w) :
    Calls Tryz.prog 172 #[v, .func (.func g) #[] lb] w fun e w' => e = .returned (.int .i64 (idxP p l)) ∧ Below w.heap.size w w' := by
  obtain ⟨eg, hpc⟩ := hp
  rcases h with ⟨rfl, p0, c0, rfl⟩ | ⟨gb, off, cap, rfl, hcap, hP⟩
  · go_enter Tryz.func172, Tryz.ntmps172
    go_wp2
    go_loopw [8] (fun i wr => i = .int .i64 0 ∧ wr = w) (fun _ _ => 0)
    case atStart => exact ⟨rfl, rfl⟩
    case round =>
      obtain ⟨rfl, rfl⟩ := hrel
      go_wp2
      go_ret
      exact ⟨rfl, Below.refl _ _⟩
  · go_enter Tryz.func172, Tryz.ntmps172
    go_wp2
    go_loopw [8] (fun i wr => ∃ k : Nat, k ≤ l.length ∧ i = .int .i64 k ∧ Below w.heap.size w wr ∧ Hid (∀ j, (hj : j < k) → (hj' : j < l.length) → p l[j] = false)) (fun i _ => l.length - (intOf i).toNat)
    case atStart => exact ⟨0, Nat.zero_le _, rfl, Below.refl _ _, fun j hj => absurd hj (Nat.not_lt_zero _)⟩
    case round =>
      obtain ⟨k, hk, rfl, hbel, HN⟩ := hrel
      by_cases hlt : k < l.length
      · obtain ⟨cv, hv, ho, hf, d0, d1, d2, d3, d4, d5⟩ := (hP.ext (Ext.of_below hbel)).part k hlt
        have e6 : (off + k) * 6 = off * 6 + k * 6 := by omega
        rw [e6] at d0 d1 d2 d3 d4 d5
        have hcall := hpc wr l[k] cv hv hbel (row_form ho.1) hf
        obtain ⟨cp, cn, cc, rfl⟩ := row_form ho.1
        obtain ⟨a', b', c', rfl⟩ := hf
        have hki : (k : Int) < (l.length : Int) := by omega
        have hk0 : (0 : Int) ≤ (k : Int) := by omega
        simp only [partVal] at hcall
        clear e6 ho hpc
        generalize off * 6 = of6 at *
        cases hb : p l[k] with
        | true =>
          rw [hb] at hcall
          have HI : Hid (idxP p l = (k : Int)) := idxP_hit hlt hb (fun j hj => HN.out j hj (by omega))
          clear hb
          go_wp2_with (go_at_fn g; refine hcall.mono ?_; rintro e w1 ⟨rfl, hb1⟩)
          go_ret
          rw [HI.out]
          exact ⟨rfl, hbel.trans (hb1.mono hbel.size)⟩
        | false =>
          rw [hb] at hcall
          have HN' : Hid (∀ j, (hj : j < k + 1) → (hj' : j < l.length) → p l[j] = false) := fun j hj hj' => by
            by_cases e : j = k
            · subst e; exact hb
            · exact HN.out j (by omega) hj'
          clear hb
          go_wp2_with (go_at_fn g; refine hcall.mono ?_; rintro e w1 ⟨rfl, hb1⟩)
          go_roundw
          case rel => exact ⟨k + 1, hlt, by go_num, hbel.trans (hb1.mono hbel.size), HN'⟩
          case measure => simp [intOf]; omega
      · have ek : k = l.length := by omega
        subst ek
        have HI : Hid (idxP p l = -1) := idxP_miss (fun j hj => HN.out j hj hj)
        go_wp2
        go_ret
        rw [HI.out]
        exact ⟨rfl, hbel⟩
set_option maxHeartbeats 400000 in
theorem containsFunc_p {own : Nat → Nat} {w : World} {v : Value} {l : List PPart} (h : PathV own w v l) (hl : l.length ≤ 1000000) {g : Nat} {lb : Array Value} {p : PPart → Bool} (hp : TestAt g lb p w) :
    Calls Tryz.prog 137 #[v, .func (.func g) #[] lb] w fun e w' => e = .returned (.bool (l.any p)) ∧ Below w.heap.size w w' := by
  have hc := indexFunc_p h hl hp
  have hv : ∃ a b c, v = .slice a b c := by
    rcases h with ⟨_, p, c, rfl⟩ | ⟨g, off, cap, rfl, _⟩ <;> exact ⟨_, _, _, rfl⟩
  obtain ⟨va, vb, vc, rfl⟩ := hv
  have HA : Hid (decide ((0 : Int) ≤ idxP p l) = l.any p) := idxP_any p l
  generalize idxP p l = r at *
  go_enter Tryz.func137, Tryz.ntmps137
  go_wp2_with (go_at_call 172; refine hc.mono ?_; rintro e w1 ⟨rfl, hb1⟩)
  go_ret
  exact ⟨ret_bool HA.out, hb1⟩

def namedB (n : ByteArray) (x : PPart) : Bool := x.name.toList == n.toList
set_option maxHeartbeats 400000 in
theorem test_named {w : World} {B : Nat} {n : ByteArray} (hB : B < w.heap.size) (hc : w.cell? ⟨B, 0, none⟩ = some (.string n)) : TestAt 173 #[.pointer (some ⟨B, 0, none⟩)] (namedB n) w := by
  refine ⟨Go.Proofs.enters_of Tryz.func173 (by kernel_rfl) rfl, fun w' x cv hv hbel hcf hhf => ?_⟩
  obtain ⟨a, b, c, rfl⟩ := hcf
  obtain ⟨a', b', c', rfl⟩ := hhf
  have hc' := (hbel.cell (p := ⟨B, 0, none⟩) hB).trans hc
  have hB' : B < w'.heap.size := Nat.lt_of_lt_of_le hB hbel.size
  have HN : Hid (namedB n x = (x.name.toList == n.toList)) := rfl
  simp only [partVal]
  show Calls Tryz.prog 173 #[.agg #[.string x.name, .int .i64 x.place, .int .i64 x.times, .int .i64 x.kind, .slice a b c, .slice a' b' c'], .pointer (some ⟨B, 0, none⟩)] w' _
  go_enter Tryz.func173, Tryz.ntmps173
  go_wp2
  go_ret
  exact ⟨ret_bool HN.out.symm, (Below.refl _ _).alloc (Nat.le_refl _) _⟩
end Go.Proofs.YtddbjcfdmdbmkaaGreatDoor

namespace Go.Proofs.YtddbjcfdmdbmkaaGreatDoor
open Go.RowKit

theorem PathV.form {own : Nat → Nat} {w : World} {v : Value} {l : List PPart} (h : PathV own w v l) : ∃ a b c, v = .slice a b c := by
  rcases h with ⟨_, p, c, rfl⟩ | ⟨g, off, cap, rfl, _⟩ <;> exact ⟨_, _, _, rfl⟩
set_option maxHeartbeats 400000 in
theorem isNamed_p {own : Nat → Nat} {w : World} {v : Value} {l : List PPart} (h : PathV own w v l) (hl : l.length ≤ 1000000) (n : ByteArray) :
    Calls Tryz.prog 139 #[v, .string n] w fun e w' => e = .returned (.bool (l.any (namedB n))) ∧ Below w.heap.size w w' := by
  have hmf : ∀ (fn : Fn) (first cap : Array Value) (w : World), (Instr.makeFunc fn first cap).run Tryz.prog w = .ok (.func fn first cap) w := fun _ _ _ _ => rfl
  have hb : Below w.heap.size w (w.alloc (.cells #[.string n] 9)) := (Below.refl _ _).alloc (Nat.le_refl _) _
  have ht : TestAt 173 #[.pointer (some ⟨w.heap.size, 0, none⟩)] (namedB n) (w.alloc (.cells #[.string n] 9)) := test_named (by simp) ((Blk.new w #[.string n] 9).cell 0)
  have hc := containsFunc_p (h.ext (Ext.of_below (own := own) hb)) hl ht
  obtain ⟨va, vb, vc, rfl⟩ := h.form
  generalize l.any (namedB n) = r at *
  go_enter Tryz.func139, Tryz.ntmps139
  go_wp2_with (go_at_call 137; refine hc.mono ?_; rintro e w1 ⟨rfl, hb1⟩)
  go_ret
  exact ⟨rfl, hb.trans (hb1.mono hb.size)⟩

def twiceB (o x : PPart) : Bool := (x.name.toList == o.name.toList) && !(x.place == o.place)
set_option maxHeartbeats 400000 in
theorem test_twice {w : World} {B : Nat} {o : PPart} (hB : B < w.heap.size) (hc : w.cell? ⟨B, 0, none⟩ = some (.string o.name)) (hp : w.cell? ⟨B, 1, none⟩ = some (.int .i64 o.place)) : TestAt 138 #[.pointer (some ⟨B, 0, none⟩)] (twiceB o) w := by
  refine ⟨Go.Proofs.enters_of Tryz.func138 (by kernel_rfl) rfl, fun w' x cv hv hbel hcf hhf => ?_⟩
  obtain ⟨a, b, c, rfl⟩ := hcf
  obtain ⟨a', b', c', rfl⟩ := hhf
  have hc' := (hbel.cell (p := ⟨B, 0, none⟩) hB).trans hc
  have hp' := (hbel.cell (p := ⟨B, 1, none⟩) hB).trans hp
  have hB' : B < w'.heap.size := Nat.lt_of_lt_of_le hB hbel.size
  simp only [partVal]
  show Calls Tryz.prog 138 #[.agg #[.string x.name, .int .i64 x.place, .int .i64 x.times, .int .i64 x.kind, .slice a b c, .slice a' b' c'], .pointer (some ⟨B, 0, none⟩)] w' _
  cases hn : (x.name.toList == o.name.toList) with
  | true =>
    have HN : Hid (twiceB o x = !(x.place == o.place)) := by show _ = _; unfold twiceB; rw [hn]; rfl
    have HP : Hid ((!(x.place == o.place)) = ((x.place : Int) != (o.place : Int))) := by
      show _ = _; rw [Bool.eq_iff_iff]; simp; omega
    go_enter Tryz.func138, Tryz.ntmps138
    go_wp2
    go_ret
    refine ⟨ret_bool ?_, (Below.refl _ _).alloc (Nat.le_refl _) _⟩
    rw [HN.out, HP.out]
    try simp
  | false =>
    have HN : Hid (twiceB o x = false) := by show _ = _; unfold twiceB; rw [hn]; rfl
    go_enter Tryz.func138, Tryz.ntmps138
    go_wp2
    go_ret
    exact ⟨ret_bool HN.out.symm, (Below.refl _ _).alloc (Nat.le_refl _) _⟩
end Go.Proofs.YtddbjcfdmdbmkaaGreatDoor

namespace Go.Proofs.YtddbjcfdmdbmkaaGreatDoor
open Go.RowKit

def badOp (o : PPart) (ahead : List PPart) (x : POp) : Bool := !(x.name.toList == []) && !(x.name.toList == o.name.toList) && !(ahead.any (namedB x.name))
def nameFP (l : List PPart) (i : Nat) : Nat × Nat :=
  let o := l.getD i default
  if isStepB o && (l.take i).any (twiceB o) then (o.place, 4)
  else match o.cond.find? (badOp o (l.take i)) with
    | some x => (x.place, 5)
    | none => (0, 0)
theorem OpsLie.open {own : Nat → Nat} {w : World} {v : Value} {l : List POp} (h : OpsLie own w v l) : (l = [] ∧ ∃ p c, v = .slice p 0 c) ∨ ∃ g cap, v = .slice (some ⟨g, 0, none⟩) l.length cap ∧ g < w.heap.size ∧
    ∀ k, (hk : k < l.length) → w.cell? ⟨g, k * 4, none⟩ = some (.string l[k].act) ∧ w.cell? ⟨g, k * 4 + 1, none⟩ = some (.int .i64 l[k].number) ∧ w.cell? ⟨g, k * 4 + 2, none⟩ = some (.string l[k].name) ∧ w.cell? ⟨g, k * 4 + 3, none⟩ = some (.int .i64 l[k].place) := by
  obtain ⟨hrow, _⟩ := h
  rcases hrow.2 with ⟨rfl, h0⟩ | ⟨g, cap, cur, rfl, _, hg, _⟩
  · exact .inl ⟨List.eq_nil_of_length_eq_zero h0, _, _, rfl⟩
  · refine .inr ⟨g, cap, rfl, (Array.getElem?_eq_some_iff.1 hg).1, fun k hk => ?_⟩
    have key : ∀ i, i < 4 → ∀ u, (POp.cells l[k])[i]? = some u → w.cell? ⟨g, k * 4 + i, none⟩ = some u := by
      intro i hi u hu
      have := hrow.cells (g := g) rfl (k * 4 + i) u (by rw [flat_get POp.cells 4 (fun _ => rfl) _ _ _ hk hi]; exact hu)
      have hadd : (⟨g, 0, none⟩ : Addr).add (k * 4 + i) = ⟨g, k * 4 + i, none⟩ := by unfold Addr.add; split <;> simp_all
      rw [hadd] at this; exact this
    exact ⟨key 0 (by decide) _ rfl, key 1 (by decide) _ rfl, key 2 (by decide) _ rfl, key 3 (by decide) _ rfl⟩

theorem find_hit {p : POp → Bool} {l : List POp} {k : Nat} (hk : k < l.length) (h : p l[k] = true) (hn : ∀ j, (hj : j < k) → (hj' : j < l.length) → p l[j] = false) : l.find? p = some l[k] := by
  rw [List.find?_eq_some_iff_getElem]
  exact ⟨h, k, hk, rfl, fun j hj => by simp [hn j hj (by omega)]⟩
theorem find_miss {p : POp → Bool} {l : List POp} (hn : ∀ j, (hj : j < l.length) → (hj' : j < l.length) → p l[j] = false) : l.find? p = none := by
  rw [List.find?_eq_none]
  intro x hx
  obtain ⟨j, hj, rfl⟩ := List.getElem_of_mem hx
  simp [hn j hj hj]
theorem ops_len {own : Nat → Nat} {w : World} {cp : Option Addr} {cn cc : Nat} {l : List POp} (h : OpsLie own w (.slice cp cn cc) l) : cn = l.length := by
  rcases h.open with ⟨e, p, c, h⟩ | ⟨g, cap, h, _⟩
  · cases h; rw [e]; rfl
  · cases h; rfl

theorem ops_bound {own : Nat → Nat} {w : World} {v : Value} {l : List POp} (h : OpsLie own w v l) : l.length ≤ maxLen := by
  rcases h.1.2 with ⟨_, e⟩ | ⟨g, cap, cur, _, _, _, h1, h2, _⟩
  · rw [e]; exact Nat.zero_le _
  · exact Nat.le_trans h1 h2

set_option maxRecDepth 100000 in
set_option maxHeartbeats 3200000 in
theorem nameFault_p {own : Nat → Nat} {w : World} {g off cap : Nat} {l : List PPart} (hP : PathAt own w g off l) (hcap : l.length ≤ cap) (hl : l.length ≤ 1000000) {i : Nat} (hi : i < l.length) :
    Calls Tryz.prog 88 #[.slice (some ⟨g, off * 6, none⟩) l.length cap, .int .i64 i] w fun e w' => e = .returned (.tuple #[.int .i64 (nameFP l i).1, .int .i64 (nameFP l i).2]) ∧ Below w.heap.size w w' := by
  have hmf : ∀ (fn : Fn) (first cap : Array Value) (w : World), (Instr.makeFunc fn first cap).run Tryz.prog w = .ok (.func fn first cap) w := fun _ _ _ _ => rfl
  obtain ⟨cv, hv, ho, hf, d0, d1, d2, d3, d4, d5⟩ := hP.part i hi
  have e6 : (off + i) * 6 = off * 6 + i * 6 := by omega
  rw [e6] at d0 d1 d2 d3 d4 d5
  have hg := hP.lt
  have hcall := fun w => isStep_p l[i] cv hv (row_form ho.1) hf w
  have hget : l.getD i default = l[i] := by simp [List.getD, hi]
  have HG : Hid (nameFP l i = if isStepB l[i] && (l.take i).any (twiceB l[i]) then (l[i].place, 4) else match l[i].cond.find? (badOp l[i] (l.take i)) with | some x => (x.place, 5) | none => (0, 0)) := by
    show _ = _; unfold nameFP; rw [hget]
  have hT : ∀ w', Below w.heap.size w w' → PathV own w' (.slice (some ⟨g, off * 6, none⟩) i cap) (l.take i) := fun w' hb' => by
    by_cases e : i = 0
    · subst e; exact .inl ⟨rfl, _, _, rfl⟩
    · exact .inr ⟨g, off, cap, by rw [List.length_take, Nat.min_eq_left (by omega)], by rw [List.length_take]; omega, (hP.take i).ext (Ext.of_below hb')⟩
  have htl : (l.take i).length ≤ 1000000 := by rw [List.length_take]; omega
  have hcb := ops_bound ho
  unfold maxLen at hcb
  obtain ⟨cp, cn, cc, hcv⟩ := row_form ho.1
  obtain ⟨a', b', c', rfl⟩ := hf
  have hki : (i : Int) < (l.length : Int) := by omega
  have hk0 : (0 : Int) ≤ (i : Int) := by omega
  have hic : (i : Int) ≤ (cap : Int) := by omega
  simp only [partVal] at hcall
  rw [hcv] at hcall d4 ho
  clear e6 hget hcv
  generalize hoff : off * 6 = of6 at *
  cases hb : isStepB l[i] with
  | true =>
    rw [hb] at hcall
    cases ht2 : (l.take i).any (twiceB l[i]) with
    | true =>
      have HE : Hid (nameFP l i = (l[i].place, 4)) := by show _ = _; rw [HG.out, hb, ht2]; rfl
      go_enter Tryz.func88, Tryz.ntmps88
      go_wp2
      go_region
      go_wp2_with (first
        | (go_at_call 137; refine (containsFunc_p (hT _ hb1) htl (test_twice (o := l[i]) hbx.lt (hbx.cell 0) (hbx.cell 1))).mono ?_; rintro e w2 ⟨rfl, hb2⟩; rw [ht2]; have hB2 := hb1.trans (hb2.mono hb1.size); have hbx2 : Blk w2 w.heap.size #[.string l[i].name, .int .i64 l[i].place, .int .i64 l[i].times, .int .i64 l[i].kind, .slice cp cn cc, .slice a' b' c'] 189 := hbx.of_eq (hb2.block _ hbx.lt); have x1 := hbx2.cell 1; simp at x1)
        | (go_at_call 91; refine (hcall _).mono ?_; rintro e w1 ⟨rfl, o, rfl⟩; have hb1 : Below w.heap.size w ((w.alloc (.cells #[.string l[i].name, .int .i64 l[i].place, .int .i64 l[i].times, .int .i64 l[i].kind, .slice cp cn cc, .slice a' b' c'] 189)).drew.alloc o) := below_grown (below_grown ((Below.refl _ _).alloc (Nat.le_refl _) _) (grownBy_drew _ none) (fun g e => by cases e)) (World.grownBy_alloc _ o none) (fun g e => by cases e); have hbx := ((Blk.new w #[.string l[i].name, .int .i64 l[i].place, .int .i64 l[i].times, .int .i64 l[i].kind, .slice cp cn cc, .slice a' b' c'] 189).drew).alloc o))
      go_ret2
      rw [HE.out]
      exact ⟨rfl, hB2⟩
    | false =>
      have HE : Hid (nameFP l i = match l[i].cond.find? (badOp l[i] (l.take i)) with | some x => (x.place, 5) | none => (0, 0)) := by show _ = _; rw [HG.out, hb, ht2]; rfl
      go_enter Tryz.func88, Tryz.ntmps88
      go_wp2
      go_region
      go_wp2_with (first
        | (go_at_call 137; refine (containsFunc_p (hT _ hb1) htl (test_twice (o := l[i]) hbx.lt (hbx.cell 0) (hbx.cell 1))).mono ?_; rintro e w2 ⟨rfl, hb2⟩; rw [ht2]; have hB2 := hb1.trans (hb2.mono hb1.size); have hbx2 : Blk w2 w.heap.size #[.string l[i].name, .int .i64 l[i].place, .int .i64 l[i].times, .int .i64 l[i].kind, .slice cp cn cc, .slice a' b' c'] 189 := hbx.of_eq (hb2.block _ hbx.lt); have x4 := hbx2.cell 4; simp at x4)
        | (go_at_call 91; refine (hcall _).mono ?_; rintro e w1 ⟨rfl, o, rfl⟩; have hb1 : Below w.heap.size w ((w.alloc (.cells #[.string l[i].name, .int .i64 l[i].place, .int .i64 l[i].times, .int .i64 l[i].kind, .slice cp cn cc, .slice a' b' c'] 189)).drew.alloc o) := below_grown (below_grown ((Below.refl _ _).alloc (Nat.le_refl _) _) (grownBy_drew _ none) (fun g e => by cases e)) (World.grownBy_alloc _ o none) (fun g e => by cases e); have hbx := ((Blk.new w #[.string l[i].name, .int .i64 l[i].place, .int .i64 l[i].times, .int .i64 l[i].kind, .slice cp cn cc, .slice a' b' c'] 189).drew).alloc o))
      have hBB := hB2
      have hXX := hbx2
      clear hb2 hB2 hbx2 hb1 hbx
      go_loopw [29] (fun j wr => ∃ k : Nat, k ≤ l[i].cond.length ∧ j = .int .i64 k ∧ Below w.heap.size w wr ∧ Blk wr w.heap.size #[.string l[i].name, .int .i64 l[i].place, .int .i64 l[i].times, .int .i64 l[i].kind, .slice cp cn cc, .slice a' b' c'] 189 ∧ Hid (∀ q, (hq : q < k) → (hq' : q < l[i].cond.length) → badOp l[i] (l.take i) (l[i].cond[q]) = false)) (fun j _ => l[i].cond.length - (intOf j).toNat)
      case atStart => exact ⟨0, Nat.zero_le _, rfl, hBB, hXX, fun q hq => absurd hq (Nat.not_lt_zero _)⟩
      case round =>
        obtain ⟨k, hk, rfl, hbel, hX, HN⟩ := hrel
        have hcn := ops_len ho
        have hx0 := hX.cell 0
        have hNlt := hX.lt
        have hN1 : w.heap.size < wr.heap.size + 1 := by omega
        simp at hx0
        by_cases hlt : k < l[i].cond.length
        · rcases ho.open with ⟨e, _⟩ | ⟨gc, capc, e, hgc, hcell⟩
          · rw [e] at hlt; simp at hlt
          · cases e
            obtain ⟨r0, r1, r2, r3⟩ := hcell k hlt
            have tr : ∀ j u, w.cell? ⟨gc, k * 4 + j, none⟩ = some u → wr.cell? ⟨gc, k * 4 + j, none⟩ = some u := fun j u e => (hbel.cell (p := ⟨gc, k * 4 + j, none⟩) hgc).trans e
            have s0 := tr 0 _ r0; have s1 := tr 1 _ r1; have s2 := tr 2 _ r2; have s3 := tr 3 _ r3
            rw [Nat.add_zero] at s0
            have hkk : (k : Int) < (l[i].cond.length : Int) := by omega
            have hkz : (0 : Int) ≤ (k : Int) := by omega
            clear hcell tr r0 r1 r2 r3 hcn
            have HN' : badOp l[i] (l.take i) l[i].cond[k] = false → Hid (∀ q, (hq : q < k + 1) → (hq' : q < l[i].cond.length) → badOp l[i] (l.take i) (l[i].cond[q]) = false) := fun hb q hq hq' => by
              by_cases e : q = k
              · subst e; exact hb
              · exact HN.out q (by omega) hq'
            have HF : badOp l[i] (l.take i) l[i].cond[k] = true → Hid (nameFP l i = (l[i].cond[k].place, 5)) := fun hb => by
              show _ = _; rw [HE.out, find_hit hlt hb HN.out]
            have hnm := fun wx hbx => isNamed_p (hT wx hbx) htl l[i].cond[k].name
            have hbo : Below w.heap.size w (wr.alloc (.cells #[.string l[i].cond[k].act, .int .i64 l[i].cond[k].number, .string l[i].cond[k].name, .int .i64 l[i].cond[k].place] 241)) := hbel.alloc hbel.size _
            have hXo := hX.alloc (.cells #[.string l[i].cond[k].act, .int .i64 l[i].cond[k].number, .string l[i].cond[k].name, .int .i64 l[i].cond[k].place] 241)
            have eemp : ∀ x : List UInt8, x.isEmpty = (x == []) := fun x => by cases x <;> rfl
            have HD : Hid (badOp l[i] (l.take i) l[i].cond[k] = (!(l[i].cond[k].name.toList == []) && !(l[i].cond[k].name.toList == l[i].name.toList) && !((l.take i).any (namedB l[i].cond[k].name)))) := rfl
            generalize l[i].cond[k] = x at *
            cases q1 : (x.name.toList == []) with
            | true =>
              have q1' : x.name.toList.isEmpty = true := (eemp _).trans q1
              have HB := HN' (by rw [HD.out, q1]; rfl)
              clear eemp HN' HF
              go_wp2_with fail
              go_roundw
              case rel => exact ⟨k + 1, hlt, by go_num, hbo, hXo, HB⟩
              case measure => simp [intOf]; omega
            | false =>
              have q1' : x.name.toList.isEmpty = false := (eemp _).trans q1
              cases q2 : (x.name.toList == l[i].name.toList) with
              | true =>
                have HB := HN' (by rw [HD.out, q1, q2]; rfl)
                have q2' : (x.name.toList != l[i].name.toList) = false := by simp [bne, q2]
                clear eemp HN' HF
                go_wp2_with fail
                go_roundw
                case rel => exact ⟨k + 1, hlt, by go_num, hbo, hXo, HB⟩
                case measure => simp [intOf]; omega
              | false =>
                have q2' : (x.name.toList != l[i].name.toList) = true := by simp [bne, q2]
                cases q3 : (l.take i).any (namedB x.name) with
                | true =>
                  have HB := HN' (by rw [HD.out, q1, q2, q3]; rfl)
                  rw [q3] at hnm
                  clear eemp HN' HF
                  go_wp2_with (go_at_call 139; refine (hnm _ hbo).mono ?_; rintro e w3 ⟨rfl, hb3⟩)
                  go_roundw
                  case rel => exact ⟨k + 1, hlt, by go_num, hbo.trans (hb3.mono hbo.size), hXo.of_eq (hb3.block _ hXo.lt), HB⟩
                  case measure => simp [intOf]; omega
                | false =>
                  have HB := HF (by rw [HD.out, q1, q2, q3]; rfl)
                  rw [q3] at hnm
                  clear eemp HN' HF
                  go_wp2_with (go_at_call 139; refine (hnm _ hbo).mono ?_; rintro e w3 ⟨rfl, hb3⟩; have y3 := (hb3.cell (p := ⟨wr.heap.size, 3, none⟩) (by simp)).trans ((Blk.new wr #[.string x.act, .int .i64 x.number, .string x.name, .int .i64 x.place] 241).cell 3); simp at y3)
                  go_ret2
                  rw [HB.out]
                  exact ⟨rfl, hbo.trans (hb3.mono hbo.size)⟩
        · have ek : k = l[i].cond.length := by omega
          have HF : Hid (nameFP l i = (0, 0)) := by
            show _ = _; rw [HE.out, find_miss (fun j hj hj' => HN.out j (by omega) hj')]
          have hkk : ¬ (k : Int) < (cn : Int) := by omega
          clear ek hcn
          go_wp2
          go_ret2
          rw [HF.out]
          exact ⟨rfl, hbel⟩
  | false =>
    rw [hb] at hcall
    have HE : Hid (nameFP l i = match l[i].cond.find? (badOp l[i] (l.take i)) with | some x => (x.place, 5) | none => (0, 0)) := by show _ = _; rw [HG.out, hb]; rfl
    go_enter Tryz.func88, Tryz.ntmps88
    go_wp2
    go_region
    go_wp2_with ((go_at_call 91; refine (hcall _).mono ?_; rintro e w1 ⟨rfl, o, rfl⟩; have hb1 : Below w.heap.size w ((w.alloc (.cells #[.string l[i].name, .int .i64 l[i].place, .int .i64 l[i].times, .int .i64 l[i].kind, .slice cp cn cc, .slice a' b' c'] 189)).drew.alloc o) := below_grown (below_grown ((Below.refl _ _).alloc (Nat.le_refl _) _) (grownBy_drew _ none) (fun g e => by cases e)) (World.grownBy_alloc _ o none) (fun g e => by cases e); have hbx := ((Blk.new w #[.string l[i].name, .int .i64 l[i].place, .int .i64 l[i].times, .int .i64 l[i].kind, .slice cp cn cc, .slice a' b' c'] 189).drew).alloc o))
    have hBB := hb1
    have hXX := hbx
    clear hb1 hbx
    go_loopw [29] (fun j wr => ∃ k : Nat, k ≤ l[i].cond.length ∧ j = .int .i64 k ∧ Below w.heap.size w wr ∧ Blk wr w.heap.size #[.string l[i].name, .int .i64 l[i].place, .int .i64 l[i].times, .int .i64 l[i].kind, .slice cp cn cc, .slice a' b' c'] 189 ∧ Hid (∀ q, (hq : q < k) → (hq' : q < l[i].cond.length) → badOp l[i] (l.take i) (l[i].cond[q]) = false)) (fun j _ => l[i].cond.length - (intOf j).toNat)
    case atStart => exact ⟨0, Nat.zero_le _, rfl, hBB, hXX, fun q hq => absurd hq (Nat.not_lt_zero _)⟩
    case round =>
      obtain ⟨k, hk, rfl, hbel, hX, HN⟩ := hrel
      have hcn := ops_len ho
      have hx0 := hX.cell 0
      have hNlt := hX.lt
      have hN1 : w.heap.size < wr.heap.size + 1 := by omega
      simp at hx0
      by_cases hlt : k < l[i].cond.length
      · rcases ho.open with ⟨e, _⟩ | ⟨gc, capc, e, hgc, hcell⟩
        · rw [e] at hlt; simp at hlt
        · cases e
          obtain ⟨r0, r1, r2, r3⟩ := hcell k hlt
          have tr : ∀ j u, w.cell? ⟨gc, k * 4 + j, none⟩ = some u → wr.cell? ⟨gc, k * 4 + j, none⟩ = some u := fun j u e => (hbel.cell (p := ⟨gc, k * 4 + j, none⟩) hgc).trans e
          have s0 := tr 0 _ r0; have s1 := tr 1 _ r1; have s2 := tr 2 _ r2; have s3 := tr 3 _ r3
          rw [Nat.add_zero] at s0
          have hkk : (k : Int) < (l[i].cond.length : Int) := by omega
          have hkz : (0 : Int) ≤ (k : Int) := by omega
          clear hcell tr r0 r1 r2 r3 hcn
          have HN' : badOp l[i] (l.take i) l[i].cond[k] = false → Hid (∀ q, (hq : q < k + 1) → (hq' : q < l[i].cond.length) → badOp l[i] (l.take i) (l[i].cond[q]) = false) := fun hb q hq hq' => by
            by_cases e : q = k
            · subst e; exact hb
            · exact HN.out q (by omega) hq'
          have HF : badOp l[i] (l.take i) l[i].cond[k] = true → Hid (nameFP l i = (l[i].cond[k].place, 5)) := fun hb => by
            show _ = _; rw [HE.out, find_hit hlt hb HN.out]
          have hnm := fun wx hbx => isNamed_p (hT wx hbx) htl l[i].cond[k].name
          have hbo : Below w.heap.size w (wr.alloc (.cells #[.string l[i].cond[k].act, .int .i64 l[i].cond[k].number, .string l[i].cond[k].name, .int .i64 l[i].cond[k].place] 241)) := hbel.alloc hbel.size _
          have hXo := hX.alloc (.cells #[.string l[i].cond[k].act, .int .i64 l[i].cond[k].number, .string l[i].cond[k].name, .int .i64 l[i].cond[k].place] 241)
          have eemp : ∀ x : List UInt8, x.isEmpty = (x == []) := fun x => by cases x <;> rfl
          have HD : Hid (badOp l[i] (l.take i) l[i].cond[k] = (!(l[i].cond[k].name.toList == []) && !(l[i].cond[k].name.toList == l[i].name.toList) && !((l.take i).any (namedB l[i].cond[k].name)))) := rfl
          generalize l[i].cond[k] = x at *
          cases q1 : (x.name.toList == []) with
          | true =>
            have q1' : x.name.toList.isEmpty = true := (eemp _).trans q1
            have HB := HN' (by rw [HD.out, q1]; rfl)
            clear eemp HN' HF
            go_wp2_with fail
            go_roundw
            case rel => exact ⟨k + 1, hlt, by go_num, hbo, hXo, HB⟩
            case measure => simp [intOf]; omega
          | false =>
            have q1' : x.name.toList.isEmpty = false := (eemp _).trans q1
            cases q2 : (x.name.toList == l[i].name.toList) with
            | true =>
              have HB := HN' (by rw [HD.out, q1, q2]; rfl)
              have q2' : (x.name.toList != l[i].name.toList) = false := by simp [bne, q2]
              clear eemp HN' HF
              go_wp2_with fail
              go_roundw
              case rel => exact ⟨k + 1, hlt, by go_num, hbo, hXo, HB⟩
              case measure => simp [intOf]; omega
            | false =>
              have q2' : (x.name.toList != l[i].name.toList) = true := by simp [bne, q2]
              cases q3 : (l.take i).any (namedB x.name) with
              | true =>
                have HB := HN' (by rw [HD.out, q1, q2, q3]; rfl)
                rw [q3] at hnm
                clear eemp HN' HF
                go_wp2_with (go_at_call 139; refine (hnm _ hbo).mono ?_; rintro e w3 ⟨rfl, hb3⟩)
                go_roundw
                case rel => exact ⟨k + 1, hlt, by go_num, hbo.trans (hb3.mono hbo.size), hXo.of_eq (hb3.block _ hXo.lt), HB⟩
                case measure => simp [intOf]; omega
              | false =>
                have HB := HF (by rw [HD.out, q1, q2, q3]; rfl)
                rw [q3] at hnm
                clear eemp HN' HF
                go_wp2_with (go_at_call 139; refine (hnm _ hbo).mono ?_; rintro e w3 ⟨rfl, hb3⟩; have y3 := (hb3.cell (p := ⟨wr.heap.size, 3, none⟩) (by simp)).trans ((Blk.new wr #[.string x.act, .int .i64 x.number, .string x.name, .int .i64 x.place] 241).cell 3); simp at y3)
                go_ret2
                rw [HB.out]
                exact ⟨rfl, hbo.trans (hb3.mono hbo.size)⟩
      · have ek : k = l[i].cond.length := by omega
        have HF : Hid (nameFP l i = (0, 0)) := by
          show _ = _; rw [HE.out, find_miss (fun j hj hj' => HN.out j (by omega) hj')]
        have hkk : ¬ (k : Int) < (cn : Int) := by omega
        clear ek hcn
        go_wp2
        go_ret2
        rw [HF.out]
        exact ⟨rfl, hbel⟩
end Go.Proofs.YtddbjcfdmdbmkaaGreatDoor

namespace Go.Proofs.YtddbjcfdmdbmkaaGreatDoor
open Go.RowKit

structure PathsAt (own : Nat → Nat) (w : World) (g : Nat) (ps : List (List PPart)) : Prop where
  lt : g < w.heap.size
  col : own g = 7
  path : ∀ k, (hk : k < ps.length) → ∃ v, w.cell? ⟨g, k, none⟩ = some v ∧ PathV own w v ps[k]
theorem PathsAt.ext {own own' : Nat → Nat} {w w' : World} {g : Nat} {ps : List (List PPart)} (h : PathsAt own w g ps) (hE : Ext own w own' w') : PathsAt own' w' g ps := by
  have e := hE.kept.block g ⟨h.lt, by rw [h.col]; decide⟩
  refine ⟨Nat.lt_of_lt_of_le h.lt hE.size, (hE.same g h.lt).trans h.col, fun k hk => ?_⟩
  obtain ⟨v, hc, hp⟩ := h.path k hk
  exact ⟨v, (cell_eq e _).trans hc, hp.ext hE⟩
theorem PathV.gen {own : Nat → Nat} {w : World} {v : Value} {l : List PPart} (h : PathV own w v l) : ∃ P C, v = .slice P l.length C ∧ (0 < l.length → ∃ g off, P = some ⟨g, off * 6, none⟩ ∧ l.length ≤ C ∧ PathAt own w g off l) := by
  rcases h with ⟨rfl, p, c, rfl⟩ | ⟨g, off, cap, rfl, hc, hp⟩
  · exact ⟨p, c, rfl, fun h => absurd h (by simp)⟩
  · exact ⟨_, cap, rfl, fun _ => ⟨g, off, rfl, hc, hp⟩⟩

def LookAt (gl : Nat) (f : List PPart → Nat → Nat × Nat) : Prop := (∀ args w, (callFunc gl args).run Tryz.prog w = .ok (.enter gl args) w) ∧
  ∀ (own : Nat → Nat) (w : World) (g off cap : Nat) (l : List PPart), PathAt own w g off l → l.length ≤ cap → l.length ≤ 1000000 → ∀ i, i < l.length →
    Calls Tryz.prog gl #[.slice (some ⟨g, off * 6, none⟩) l.length cap, .int .i64 i] w fun e w' => e = .returned (.tuple #[.int .i64 (f l i).1, .int .i64 (f l i).2]) ∧ Below w.heap.size w w'
theorem look_guard : LookAt 87 guardFP := ⟨Go.Proofs.enters_of Tryz.func87 (by kernel_rfl) rfl, fun _ _ _ _ _ _ hP hc hl _ hi => guardFault_p hP hc hl hi⟩
theorem look_name : LookAt 88 nameFP := ⟨Go.Proofs.enters_of Tryz.func88 (by kernel_rfl) rfl, fun _ _ _ _ _ _ hP hc hl _ hi => nameFault_p hP hc hl hi⟩
def ffNew (a r : Nat × Nat) : Nat × Nat := if r.2 ≠ 0 ∧ (a.2 = 0 ∨ r.1 < a.1) then r else a
def ffPath (f : List PPart → Nat → Nat × Nat) (l : List PPart) (a : Nat × Nat) : Nat → Nat × Nat
  | 0 => a
  | k + 1 => ffNew (ffPath f l a k) (f l k)
def ffAcc (f : List PPart → Nat → Nat × Nat) (ps : List (List PPart)) (k : Nat) : Nat × Nat := (ps.take k).foldl (fun a l => ffPath f l a l.length) (0, 0)
def firstFP (f : List PPart → Nat → Nat × Nat) (ps : List (List PPart)) : Nat × Nat := ffAcc f ps ps.length
theorem ffAcc_succ (f : List PPart → Nat → Nat × Nat) (ps : List (List PPart)) (k : Nat) (h : k < ps.length) : ffAcc f ps (k + 1) = ffPath f ps[k] (ffAcc f ps k) ps[k].length := by
  unfold ffAcc; rw [List.take_succ_eq_append_getElem h, List.foldl_append]; rfl

set_option maxRecDepth 100000 in
set_option maxHeartbeats 1600000 in
theorem firstFault_p {gl : Nat} {f : List PPart → Nat → Nat × Nat} (hf : LookAt gl f) {own : Nat → Nat} {w : World} {g cap : Nat} {ps : List (List PPart)} (hP : PathsAt own w g ps) (hl : ps.length ≤ 1000000) (hll : ∀ l ∈ ps, l.length ≤ 1000000) :
    Calls Tryz.prog 86 #[.slice (some ⟨g, 0, none⟩) ps.length cap, .func (.func gl) #[] #[]] w fun e w' => e = .returned (.tuple #[.int .i64 (firstFP f ps).1, .int .i64 (firstFP f ps).2]) ∧ Below w.heap.size w w' := by
  obtain ⟨eg, hfc⟩ := hf
  have hg := hP.lt
  have HP : Hid (firstFP f ps = ffAcc f ps ps.length) := rfl
  go_enter Tryz.func86, Tryz.ntmps86
  go_wp2
  go_loopw [6, 7, 15] (fun a b i wr => ∃ k : Nat, k ≤ ps.length ∧ i = .int .i64 k ∧ a = .int .i64 (ffAcc f ps k).1 ∧ b = .int .i64 (ffAcc f ps k).2 ∧ Below w.heap.size w wr) (fun _ _ i _ => ps.length - (intOf i).toNat)
  case atStart => exact ⟨0, Nat.zero_le _, rfl, rfl, rfl, Below.refl _ _⟩
  case round =>
    obtain ⟨k, hk, rfl, rfl, rfl, hbel⟩ := hrel
    by_cases hlt : k < ps.length
    · obtain ⟨v, hc, hV⟩ := (hP.ext (Ext.of_below hbel)).path k hlt
      obtain ⟨P, C, rfl, hVg⟩ := hV.gen
      clear hV
      obtain ⟨wo, rfl⟩ : ∃ x, x = wr := ⟨_, rfl⟩
      have hlk := hll ps[k] (List.getElem_mem hlt)
      have HA : Hid (ffAcc f ps (k + 1) = ffPath f ps[k] (ffAcc f ps k) ps[k].length) := ffAcc_succ f ps k hlt
      have hki : (k : Int) < (ps.length : Int) := by omega
      have hk0 : (0 : Int) ≤ (k : Int) := by omega
      generalize ps[k] = l at *
      generalize ffAcc f ps k = acc at *
      go_wp2
      go_loopw [6, 7, 21] (fun a b i wr2 => ∃ j : Nat, j ≤ l.length ∧ i = .int .i64 j ∧ a = .int .i64 (ffPath f l acc j).1 ∧ b = .int .i64 (ffPath f l acc j).2 ∧ Below wo.heap.size wo wr2) (fun _ _ i _ => l.length - (intOf i).toNat)
      case atStart => exact ⟨0, Nat.zero_le _, rfl, rfl, rfl, Below.refl _ _⟩
      case round =>
        obtain ⟨j, hj, rfl, rfl, rfl, hbel2⟩ := hrel
        by_cases hjl : j < l.length
        · obtain ⟨pg, poff, rfl, hpc, hPA⟩ := hVg (by omega)
          have hcall := hfc own wr pg poff C l (hPA.ext (Ext.of_below hbel2)) hpc hlk j hjl
          have HS : Hid (ffPath f l acc (j + 1) = ffNew (ffPath f l acc j) (f l j)) := rfl
          have hji : (j : Int) < (l.length : Int) := by omega
          generalize ffPath f l acc j = a at *
          generalize f l j = r at *
          generalize poff * 6 = po6 at *
          clear hfc hVg hPA
          by_cases e0 : r.2 = 0
          · have HE : Hid (ffNew a r = a) := by show _ = _; unfold ffNew; rw [if_neg (fun h => h.1 e0)]
            have b0 : ((r.2 : Int) != 0) = false := by simp [e0]
            clear e0
            go_wp2_with (go_at_fn gl; refine hcall.mono ?_; rintro e w1 ⟨rfl, hb1⟩)
            go_roundw
            case rel => exact ⟨j + 1, hjl, by go_num, by rw [HS.out, HE.out], by rw [HS.out, HE.out], hbel2.trans (hb1.mono hbel2.size)⟩
            case measure => simp [intOf]; omega
          · have b0 : ((r.2 : Int) != 0) = true := by simp; omega
            by_cases e1 : a.2 = 0
            · have HE : Hid (ffNew a r = r) := by show _ = _; unfold ffNew; rw [if_pos ⟨e0, .inl e1⟩]
              have b1 : ((a.2 : Int) == 0) = true := by simp [e1]
              clear e0 e1
              go_wp2_with (go_at_fn gl; refine hcall.mono ?_; rintro e w1 ⟨rfl, hb1⟩)
              go_roundw
              case rel => exact ⟨j + 1, hjl, by go_num, by rw [HS.out, HE.out], by rw [HS.out, HE.out], hbel2.trans (hb1.mono hbel2.size)⟩
              case measure => simp [intOf]; omega
            · have b1 : ((a.2 : Int) == 0) = false := by rw [beq_eq_false_iff_ne]; omega
              by_cases e2 : r.1 < a.1
              · have HE : Hid (ffNew a r = r) := by show _ = _; unfold ffNew; rw [if_pos ⟨e0, .inr e2⟩]
                have b2 : (r.1 : Int) < (a.1 : Int) := by omega
                clear e0 e1 e2
                go_wp2_with (go_at_fn gl; refine hcall.mono ?_; rintro e w1 ⟨rfl, hb1⟩)
                go_roundw
                case rel => exact ⟨j + 1, hjl, by go_num, by rw [HS.out, HE.out], by rw [HS.out, HE.out], hbel2.trans (hb1.mono hbel2.size)⟩
                case measure => simp [intOf]; omega
              · have HE : Hid (ffNew a r = a) := by show _ = _; unfold ffNew; rw [if_neg (fun h => by rcases h.2 with h | h <;> contradiction)]
                have b2 : ¬ (r.1 : Int) < (a.1 : Int) := by omega
                clear e0 e1 e2
                go_wp2_with (go_at_fn gl; refine hcall.mono ?_; rintro e w1 ⟨rfl, hb1⟩)
                go_roundw
                case rel => exact ⟨j + 1, hjl, by go_num, by rw [HS.out, HE.out], by rw [HS.out, HE.out], hbel2.trans (hb1.mono hbel2.size)⟩
                case measure => simp [intOf]; omega
        · have ej : j = l.length := by omega
          subst ej
          go_wp2
          go_roundw
          case rel => exact ⟨k + 1, hlt, by go_num, by rw [HA.out], by rw [HA.out], hbel.trans (hbel2.mono hbel.size)⟩
          case measure => simp [intOf]; omega
    · have ek : k = ps.length := by omega
      subst ek
      go_wp2
      go_ret2
      rw [HP.out]
      exact ⟨rfl, hbel⟩
end Go.Proofs.YtddbjcfdmdbmkaaGreatDoor

namespace Go.Proofs.YtddbjcfdmdbmkaaGreatDoor

theorem sum_most : ((List.range 13).all fun r => (List.range 8).all fun m => sumCho r m == (mostAcc r m).1) = true := by kernel_rfl
theorem sumCho_most {r m : Nat} (hr : r ≤ 12) (hm : m ≤ 7) : sumCho r m = (mostAcc r m).1 := by
  have := List.all_eq_true.1 sum_most r (List.mem_range.2 (by omega))
  have := List.all_eq_true.1 this m (List.mem_range.2 (by omega))
  simpa using this
end Go.Proofs.YtddbjcfdmdbmkaaGreatDoor
