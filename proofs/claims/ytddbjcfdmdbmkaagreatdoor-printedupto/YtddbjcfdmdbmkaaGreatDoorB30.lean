import Derived.Test.YtddbjcfdmdbmkaaGreatDoorB29
set_option linter.unusedVariables false
set_option linter.unusedSimpArgs false
namespace Go.Proofs.YtddbjcfdmdbmkaaGreatDoor
open Go.RowKit

structure PathsV (F : Nat → Prop) (w : World) (pv : Value) (paths : List (List WStep)) (svs : List Value) : Prop where
  len : svs.length = paths.length
  row : w.ownsRow 0 112 1 pv paths.length svs
  blk : ∀ g, pv.ownBlock = some g → F g
  steps : ∀ i, (h : i < svs.length) → (h' : i < paths.length) → StepsS F w svs[i] paths[i]
theorem PathsV.to {F F' : Nat → Prop} {w w' : World} {pv : Value} {paths : List (List WStep)} {svs : List Value} (h : PathsV F w pv paths svs) (hk : KeepS F w F' w') : PathsV F' w' pv paths svs :=
  ⟨h.len, row_of_blk h.row fun g hg => (hk g (h.blk g hg) (h.row.lt g hg).2).2, fun g hg => (hk g (h.blk g hg) (h.row.lt g hg).2).1, fun i a b => (h.steps i a b).to hk⟩
theorem PathsV.at {F : Nat → Prop} {w : World} {pv : Value} {paths : List (List WStep)} {svs : List Value} (h : PathsV F w pv paths svs) : ∃ a c, pv = .slice a paths.length c ∧ (0 < paths.length → ∃ g, a = some ⟨g, 0, none⟩ ∧ g < w.heap.size ∧ ∀ k, (hk : k < svs.length) → w.cell? ⟨g, k, none⟩ = some svs[k]) := by
  have hrow := h.row
  rcases h.row.2 with ⟨rfl, h0⟩ | ⟨g, cap, cur, rfl, _, hg, _⟩
  · exact ⟨none, 0, by rw [h0], fun h => by omega⟩
  · refine ⟨_, _, rfl, fun _ => ⟨g, rfl, (Array.getElem?_eq_some_iff.1 hg).1, fun k hk => ?_⟩⟩
    have := hrow.cells (g := g) rfl k svs[k] (List.getElem?_eq_getElem hk)
    rw [addr_add, Nat.zero_add] at this; exact this
theorem StepsS.form {S : Nat → Prop} {w : World} {v : Value} {ss : List WStep} (h : StepsS S w v ss) : ∃ a b c, v = .slice a b c := by obtain ⟨⟨cgs, _, h, _⟩, _⟩ := h; exact row_form h
theorem GrownAt.keepS {F : Nat → Prop} {w : World} {paths : List (List WStep)} {svs : List Value} {evs : List Ev} {sps : List Nat} {e : Ev} {ip N1 N2 : Nat} {done : List (Nat × List Nat)} {wr : World} {F' : Nat → Prop} {av : Value} {gs : List MRun} (h : GrownAt F w paths svs evs sps e ip N1 N2 done wr F' av gs) : KeepS F w F' wr := fun b hb hl => ⟨h.up b hb, h.bel.block b hl⟩
def seedR (svs : List Value) (k : Nat) : MRun := ⟨svs.getD k default, none, 0, [], (k, [])⟩
theorem seed_runV {F : Nat → Prop} {w : World} {pv : Value} {paths : List (List WStep)} {svs : List Value} {evs : List Ev} {sps : List Nat} (h : PathsV F w pv paths svs) (k : Nat) (hk : k < paths.length) : RunV F w paths svs evs sps (seedR svs k) := by
  have hk' : k < svs.length := by rw [h.len]; exact hk
  refine ⟨hk, rfl, ?_, rfl, fun i hi => ?_, .inl ⟨rfl, rfl, rfl⟩, fun t e => ?_⟩
  · show StepsS F w (svs.getD k default) (paths.getD k [])
    have := h.steps k hk' hk
    simpa [List.getD, hk, hk'] using this
  · have : i ∈ ([] : List Nat) := hi
    simp at this
  · have : (none : Option Addr) = some t := e
    cases this
theorem seeds_take (paths : List (List WStep)) (k : Nat) (h : k < paths.length) : (seedsP (absP paths)).take (k + 1) = (seedsP (absP paths)).take k ++ [(k, [])] := by
  have hl : k < (seedsP (absP paths)).length := by simp [seedsP, absP, h]
  rw [List.take_succ_eq_append_getElem hl]
  simp [seedsP]
set_option maxRecDepth 100000 in
set_option maxHeartbeats 3200000 in
theorem grown_p {F : Nat → Prop} {w : World} {X : Nat} {x0 x1 pv x3 x4 rv : Value} {paths : List (List WStep)} {svs : List Value} {evs : List Ev} {sps : List Nat} {rs : List MRun} {ip : Nat} {e : Ev} (hX : Blk w X #[x0, x1, pv, x3, x4, rv] 110) (hP : PathsV F w pv paths svs) (hrow : w.ownsRow 0 163 2 rv rs.length (flat MRun.cells rs)) (hR : ∀ r ∈ rs, RunV F w paths svs evs sps r ∧ r.pl.2.length < (paths.getD r.pl.1 []).length ∧ ∃ a b c, r.sv = .slice a b c) (hS : SeenL F w evs sps) (hW : WellP paths) (hpl : ∀ p ∈ paths, 0 < p.length ∧ p.length ≤ 10000) (hpn : paths.length ≤ 1000) (hrn : rs.length ≤ 500000) (hF : ∀ b, F b → b < w.heap.size) (hip : SeenAt w ip e evs.length) :
    Calls Tryz.prog 73 #[.pointer (some ⟨X, 0, none⟩), .pointer (some ⟨ip, 0, none⟩)] w fun x w' => ∃ F' a b c gs, x = .returned (.slice a b c) ∧ GrownAt F w paths svs evs sps e ip w.heap.size (w.heap.size + 1) (seedsP (absP paths) ++ rs.map MRun.pl) w' F' (.slice a b c) gs := by
  have hN1 := Blk.new w #[.pointer (some ⟨ip, 0, none⟩)] 156
  have hN2 := Blk.new (w.alloc (.cells #[.pointer (some ⟨ip, 0, none⟩)] 156)) #[.slice none 0 0] 107
  rw [alloc_size] at hN2
  have hb0 : Below w.heap.size w ((w.alloc (.cells #[.pointer (some ⟨ip, 0, none⟩)] 156)).alloc (.cells #[.slice none 0 0] 107)) := ((Below.refl _ w).alloc (Nat.le_refl _) _).alloc (by simp) _
  have hG0 : GrownAt F w paths svs evs sps e ip w.heap.size (w.heap.size + 1) [] ((w.alloc (.cells #[.pointer (some ⟨ip, 0, none⟩)] 156)).alloc (.cells #[.slice none 0 0] 107)) F (.slice none 0 0) [] :=
    ⟨hb0, hN1.alloc _, hN2, World.ownsRow_nil _ _ _ _, rfl, fun r hr => by simp at hr, fun b hb => hb, fun b hb => .inl hb, fun b hb => Nat.lt_of_lt_of_le (hF b hb) hb0.size, fun h => by have := hF _ h; omega, fun g hg => by simp [Value.ownBlock] at hg⟩
  have hX1 := hX.of_eq (hb0.block X hX.lt)
  have c2 := hX1.cell 2; have hXl := hX1.lt
  simp at c2
  obtain ⟨pa, pc, epv, hpc⟩ := hP.at
  obtain ⟨ra, rb, rc, erv⟩ := row_form hrow
  have hrb : rb = rs.length := by
    rcases hrow.2 with ⟨e, h0⟩ | ⟨g, cap, cur, e, _⟩
    · rw [e] at erv; cases erv; exact h0.symm
    · rw [e] at erv; cases erv; rfl
  have hcall : ∀ (wr : World) (done : List (Nat × List Nat)) (F' : Nat → Prop) (a : Option Addr) (b c : Nat) (gs : List MRun) (r : MRun), GrownAt F w paths svs evs sps e ip w.heap.size (w.heap.size + 1) done wr F' (.slice a b c) gs → RunV F w paths svs evs sps r → r.pl.2.length < (paths.getD r.pl.1 []).length → (∃ a b c, r.sv = .slice a b c) → done.length ≤ 600000 →
      Calls Tryz.prog 108 #[r.val, .pointer (some ⟨w.heap.size, 0, none⟩), .pointer (some ⟨w.heap.size + 1, 0, none⟩)] wr fun x w' => x = .returned (.tuple #[]) ∧ ∃ F2 a b c gs2, GrownAt F w paths svs evs sps e ip w.heap.size (w.heap.size + 1) (done ++ [r.pl]) w' F2 (.slice a b c) gs2 := by
    intro wr done F' a b c gs r hG hr h1 h2 h3
    have hr2 := hr.to hG.keepS hG.bel.size
    have hS2 := hS.to hG.keepS hG.bel.size
    have hp8 : (paths.getD r.pl.1 []).length ≤ 10000 := by
      have hi := hr.path
      have : paths.getD r.pl.1 [] = paths[r.pl.1] := by simp [List.getD, hi]
      rw [this]; exact (hpl _ (List.getElem_mem hi)).2
    refine (try_p hr2 hS2 hW h1 hp8 h2 (Blk.of_eq hip (hG.bel.block ip hip.lt)) hG.n1 hG.n2 hG.row (Nat.le_trans hG.count (by omega)) hG.bel.size).mono ?_
    rintro x w' ⟨q1, q2⟩
    obtain ⟨F2, a2, b2, c2, gs2, q3, _⟩ := hG.step hr2 hS2 (by omega) q2 (by omega) (by omega)
    exact ⟨q1, F2, a2, b2, c2, gs2, q3⟩
  have hXw : ∀ wr, Below w.heap.size w wr → wr.cell? ⟨X, 5, none⟩ = some rv ∧ X < wr.heap.size := fun wr hb => by
    have := (hX.of_eq (hb.block X hX.lt))
    exact ⟨by rw [this.cell 5]; simp, this.lt⟩
  have hsl : (seedsP (absP paths)).length = paths.length := by simp [seedsP, absP]
  have HC : Hid _ := hcall
  have HG0 : Hid _ := hG0
  have HXw : Hid _ := hXw
  have HPl : Hid (∀ p ∈ paths, 0 < p.length ∧ p.length ≤ 10000) := hpl
  have HSL : Hid ((seedsP (absP paths)).length = paths.length) := hsl
  have HRb : Hid (rb = rs.length) := hrb
  subst epv erv
  clear hcall hG0 hXw hpl hN1 hN2 hS hip hX hX1 hsl hF hrb
  go_enter Tryz.func73, Tryz.ntmps73
  go_wp2
  go_loopw [17] (fun i wr => ∃ (k : Nat) (F' : Nat → Prop) (a : Option Addr) (b c : Nat) (gs : List MRun), k ≤ paths.length ∧ i = .int .i64 k ∧ GrownAt F w paths svs evs sps e ip w.heap.size (w.heap.size + 1) ((seedsP (absP paths)).take k) wr F' (.slice a b c) gs) (fun i _ => paths.length - (intOf i).toNat)
  case atStart => exact ⟨0, F, none, 0, 0, [], Nat.zero_le _, rfl, HG0.out⟩
  case round =>
    obtain ⟨k, F', a, b, c, gs, hk, rfl, hG⟩ := hrel
    clear HG0
    by_cases hlt : k < paths.length
    · obtain ⟨g, rfl, hg, hc⟩ := hpc (by omega)
      have hk' : k < svs.length := by rw [hP.len]; exact hlt
      have hck := (hG.bel.cell (p := ⟨g, k, none⟩) hg).trans (hc k hk')
      obtain ⟨sa, sb, sc, esv⟩ := (hP.steps k hk' hlt).form
      have hpk := (HPl.out paths[k] (List.getElem_mem hlt)).1
      have hgd : svs.getD k default = .slice sa sb sc := by simp [List.getD, hk', esv]
      have hcall := HC.out wr _ F' a b c gs (seedR svs k) hG (seed_runV hP k hlt) (by show 0 < (paths.getD k []).length; simpa [List.getD, hlt] using hpk) ⟨sa, sb, sc, hgd⟩ (by rw [List.length_take, HSL.out]; omega)
      have HT : Hid ((seedsP (absP paths)).take (k + 1) = (seedsP (absP paths)).take k ++ [(seedR svs k).pl]) := seeds_take paths k hlt
      have hval : (seedR svs k).val = .agg #[.slice sa sb sc, .slice none 0 0] := by unfold MRun.val; show Value.agg #[svs.getD k default, _] = _; rw [hgd]; rfl
      rw [hval] at hcall
      rw [esv] at hck
      have hgl : g < wr.heap.size := Nat.lt_of_lt_of_le hg hG.bel.size
      have hki : (k : Int) < (paths.length : Int) := by omega
      have hk0 : (0 : Int) ≤ (k : Int) := by omega
      clear hc hpc hG
      generalize (seedsP (absP paths)).take k = dn at *
      go_wp2_with (go_at_call 108; refine hcall.mono ?_; rintro x w1 ⟨rfl, F2, a2, b2, c2, gs2, hG2⟩)
      go_roundw
      case rel => exact ⟨k + 1, F2, a2, b2, c2, gs2, hlt, by go_num, by rw [HT.out]; exact hG2⟩
      case measure => simp [intOf]; omega
    · have ek : k = paths.length := by omega
      subst ek
      obtain ⟨y5, hXl2⟩ := HXw.out wr hG.bel
      have HG1 : Hid (GrownAt F w paths svs evs sps e ip w.heap.size (w.heap.size + 1) (seedsP (absP paths) ++ (rs.map MRun.pl).take 0) wr F' (.slice a b c) gs) := by
        show GrownAt _ _ _ _ _ _ _ _ _ _ _ _ _ _ _
        rw [List.take_of_length_le (by rw [HSL.out]; exact Nat.le_refl _)] at hG
        rw [List.take_zero, List.append_nil]
        exact hG
      have hbel1 := hG.bel
      clear hG hpc
      rw [HRb.out] at y5
      go_wp2
      obtain ⟨wo, rfl⟩ : ∃ x, x = wr := ⟨_, rfl⟩
      go_loopw [31] (fun i wr => ∃ (k : Nat) (F' : Nat → Prop) (a : Option Addr) (b c : Nat) (gs : List MRun), k ≤ rs.length ∧ i = .int .i64 k ∧ GrownAt F w paths svs evs sps e ip w.heap.size (w.heap.size + 1) (seedsP (absP paths) ++ (rs.map MRun.pl).take k) wr F' (.slice a b c) gs) (fun i _ => rs.length - (intOf i).toNat)
      case atStart => exact ⟨0, F', a, b, c, gs, Nat.zero_le _, rfl, HG1.out⟩
      case round =>
        obtain ⟨k, F3, a3, b3, c3, gs3, hk3, rfl, hG⟩ := hrel
        clear HG1
        by_cases hlt : k < rs.length
        · obtain ⟨g, cap, erow⟩ : ∃ g cap, (Value.slice ra rb rc) = .slice (some ⟨g, 0, none⟩) rs.length cap := by
            rcases hrow.2 with ⟨_, h0⟩ | ⟨g, cap, cur, e, _⟩
            · omega
            · exact ⟨g, cap, e⟩
          obtain ⟨rfl, _, rfl⟩ : ra = some ⟨g, 0, none⟩ ∧ rb = rs.length ∧ rc = cap := by simpa using erow
          have hrow' := hrow
          rw [erow] at hrow'
          obtain ⟨d0, d1⟩ := run_cells hrow' k hlt
          have hg := (hrow'.lt g rfl).2
          obtain ⟨q1, q2, sa, sb, sc, esv⟩ := hR rs[k] (List.getElem_mem hlt)
          rw [esv] at d0
          have e0 := (hG.bel.cell (p := ⟨g, k * 2, none⟩) hg).trans d0
          have e1 := (hG.bel.cell (p := ⟨g, k * 2 + 1, none⟩) hg).trans d1
          have hgl : g < wr.heap.size := Nat.lt_of_lt_of_le hg hG.bel.size
          have hbx : Below wr.heap.size wr (wr.alloc (.cells #[.slice sa sb sc, .slice rs[k].ta rs[k].ps.length rs[k].tc] 163)) := (Below.refl _ wr).alloc (Nat.le_refl _) _
          have hcall := HC.out _ _ F3 a3 b3 c3 gs3 rs[k] (hG.keep hbx) q1 q2 ⟨sa, sb, sc, esv⟩ (by rw [List.length_append, HSL.out, List.length_take, List.length_map]; omega)
          have HT : Hid (seedsP (absP paths) ++ (rs.map MRun.pl).take (k + 1) = seedsP (absP paths) ++ (rs.map MRun.pl).take k ++ [rs[k].pl]) := by
            show _ = _
            rw [List.take_succ_eq_append_getElem (by simpa using hlt), List.append_assoc]; simp
          unfold MRun.val at hcall
          rw [esv] at hcall
          have hki : (k : Int) < (rs.length : Int) := by omega
          have hk0 : (0 : Int) ≤ (k : Int) := by omega
          clear hG hR hrow hrow' d0 d1 q1 q2 erow hbx
          generalize seedsP (absP paths) ++ (rs.map MRun.pl).take k = dn at *
          generalize rs[k].pl = plk at *
          generalize rs[k].ta = ta at *
          generalize rs[k].ps.length = tb at *
          generalize rs[k].tc = tc at *
          go_wp2_with (go_at_call 108; refine hcall.mono ?_; rintro x w1 ⟨rfl, F4, a4, b4, c4, gs4, hG4⟩)
          go_roundw
          case rel => exact ⟨k + 1, F4, a4, b4, c4, gs4, hlt, by go_num, by rw [HT.out]; exact hG4⟩
          case measure => simp [intOf]; omega
        · have ek : k = rs.length := by omega
          subst ek
          have HEnd : Hid (GrownAt F w paths svs evs sps e ip w.heap.size (w.heap.size + 1) (seedsP (absP paths) ++ rs.map MRun.pl) wr F3 (.slice a3 b3 c3) gs3) := by
            show GrownAt _ _ _ _ _ _ _ _ _ _ _ _ _ _ _
            rw [List.take_of_length_le (by simp)] at hG
            exact hG
          have z0 := hG.n2.cell 0; have zl := hG.n2.lt
          simp at z0
          clear hG
          go_wp2
          go_ret
          exact ⟨F3, a3, b3, c3, gs3, rfl, HEnd.out⟩
end Go.Proofs.YtddbjcfdmdbmkaaGreatDoor

namespace Go.Proofs.YtddbjcfdmdbmkaaGreatDoor
open Go.RowKit

def IntsAt (w : World) (v : Value) (l : List Nat) : Prop := ∃ a c, v = .slice a l.length c ∧ (0 < l.length → ∃ g, a = some ⟨g, 0, none⟩ ∧ g < w.heap.size ∧ ∀ k, (hk : k < l.length) → w.cell? ⟨g, k, none⟩ = some (.int .i64 (l[k] : Nat)))
theorem IntsAt.of_row {w : World} {b : Nat} {v : Value} {l : List Nat} (h : w.ownsRow b 3 1 v l.length (l.map fun n => Value.int .i64 (n : Nat))) : IntsAt w v l := by
  rcases h.2 with ⟨rfl, h0⟩ | ⟨g, cap, cur, rfl, _, hg, _⟩
  · exact ⟨none, 0, by rw [h0], fun h => by omega⟩
  · refine ⟨_, _, rfl, fun _ => ⟨g, rfl, (Array.getElem?_eq_some_iff.1 hg).1, fun k hk => ?_⟩⟩
    have := h.cells (g := g) rfl k (.int .i64 (l[k] : Nat)) (by rw [List.getElem?_map, List.getElem?_eq_getElem hk]; rfl)
    rw [addr_add, Nat.zero_add] at this; exact this
def cmpN (a b : Nat) : Int := if a < b then -1 else if b < a then 1 else 0
set_option maxRecDepth 100000 in
set_option maxHeartbeats 800000 in
theorem cmpInt_p (a b : Nat) (w : World) : Calls Tryz.prog 159 #[.int .i64 (a : Nat), .int .i64 (b : Nat)] w fun e w' => e = .returned (.int .i64 (cmpN a b)) ∧ w' = w := by
  unfold cmpN
  by_cases h1 : a < b
  · rw [if_pos h1]
    have h1' : (a : Int) < (b : Int) := by omega
    go_enter Tryz.func159, Tryz.ntmps159
    go_wp2
    go_ret
    exact ⟨rfl, rfl⟩
  · rw [if_neg h1]
    have h1' : (b : Int) ≤ (a : Int) := by omega
    by_cases h2 : b < a
    · rw [if_pos h2]
      have h2' : (b : Int) < (a : Int) := by omega
      go_enter Tryz.func159, Tryz.ntmps159
      go_wp2
      go_ret
      exact ⟨rfl, rfl⟩
    · rw [if_neg h2]
      have h2' : (a : Int) ≤ (b : Int) := by omega
      go_enter Tryz.func159, Tryz.ntmps159
      go_wp2
      go_ret
      exact ⟨rfl, rfl⟩
theorem cmpL_drop {a b : List Nat} {k : Nat} (ha : k < a.length) (hb : k < b.length) : cmpL (a.drop k) (b.drop k) = if cmpN a[k] b[k] = 0 then cmpL (a.drop (k + 1)) (b.drop (k + 1)) else cmpN a[k] b[k] := by
  rw [List.drop_eq_getElem_cons ha, List.drop_eq_getElem_cons hb]
  unfold cmpN
  conv => lhs; unfold cmpL
  by_cases h1 : a[k] < b[k]
  · simp [h1]
  · by_cases h2 : b[k] < a[k]
    · simp [h1, h2]
    · simp [h1, h2]
set_option maxRecDepth 100000 in
set_option maxHeartbeats 1600000 in
theorem compare_p {w : World} {va vb : Value} {a b : List Nat} (ha : IntsAt w va a) (hb : IntsAt w vb b) (hal : a.length ≤ 1000000) (hbl : b.length ≤ 1000000) :
    Calls Tryz.prog 121 #[va, vb] w fun e w' => e = .returned (.int .i64 (cmpL a b)) ∧ w' = w := by
  obtain ⟨aa, ac, rfl, hac⟩ := ha
  obtain ⟨ba, bc, rfl, hbc⟩ := hb
  go_enter Tryz.func121, Tryz.ntmps121
  go_wp2
  go_loopw [11] (fun i wr => ∃ k : Nat, k ≤ a.length ∧ k ≤ b.length ∧ i = .int .i64 k ∧ wr = w ∧ Hid (cmpL a b = cmpL (a.drop k) (b.drop k))) (fun i _ => a.length - (intOf i).toNat)
  case atStart => exact ⟨0, Nat.zero_le _, Nat.zero_le _, rfl, rfl, rfl⟩
  case round =>
    obtain ⟨k, hk, hkb, rfl, rfl, HC⟩ := hrel
    by_cases hlt : k < a.length
    · obtain ⟨g, rfl, hg, hc⟩ := hac (by omega)
      have hck := hc k hlt
      have hki : (k : Int) < (a.length : Int) := by omega
      have hk0 : (0 : Int) ≤ (k : Int) := by omega
      clear hc hac
      by_cases hlb : k < b.length
      · obtain ⟨g2, rfl, hg2, hc2⟩ := hbc (by omega)
        have hck2 := hc2 k hlb
        have hkb2 : (k : Int) < (b.length : Int) := by omega
        have hcmp := cmpInt_p a[k] b[k] wr
        have HD : Hid (cmpL (a.drop k) (b.drop k) = if cmpN a[k] b[k] = 0 then cmpL (a.drop (k + 1)) (b.drop (k + 1)) else cmpN a[k] b[k]) := cmpL_drop hlt hlb
        clear hc2 hbc
        generalize a[k] = xa at *
        generalize b[k] = xb at *
        by_cases hz : cmpN xa xb = 0
        · have HD2 : Hid (cmpL a b = cmpL (a.drop (k + 1)) (b.drop (k + 1))) := by show _ = _; rw [HC.out, HD.out, if_pos hz]
          rw [hz] at hcmp
          clear HD HC hz
          go_wp2_with (go_at_call 159; refine hcmp.mono ?_; rintro e w1 ⟨rfl, he1⟩; rw [he1])
          go_roundw
          case rel => exact ⟨k + 1, hlt, hlb, by go_num, trivial, HD2⟩
          case measure => simp [intOf]; omega
        · have HD2 : Hid (cmpL a b = cmpN xa xb) := by show _ = _; rw [HC.out, HD.out, if_neg hz]
          have hz2 : (cmpN xa xb == 0) = false := by simpa using hz
          generalize cmpN xa xb = cv at *
          clear HD HC
          go_wp2_with (go_at_call 159; refine hcmp.mono ?_; rintro e w1 ⟨rfl, he1⟩; rw [he1])
          go_ret
          rw [HD2.out]
          exact ⟨rfl, rfl⟩
      · have HD2 : Hid (cmpL a b = 1) := by
          show _ = _
          have hbd : b.drop k = [] := List.drop_of_length_le (by omega)
          rw [HC.out, hbd, List.drop_eq_getElem_cons hlt]; rfl
        have hkb2 : (b.length : Int) ≤ (k : Int) := by omega
        clear HC hbc
        go_wp2
        go_ret
        rw [HD2.out]
        exact ⟨rfl, rfl⟩
    · have ek : k = a.length := by omega
      subst ek
      by_cases hlb : a.length < b.length
      · have HD2 : Hid (cmpL a b = -1) := by
          show _ = _
          rw [HC.out, List.drop_length, List.drop_eq_getElem_cons hlb]; rfl
        have hlb' : (a.length : Int) < (b.length : Int) := by omega
        clear HC hac hbc
        go_wp2
        go_ret
        rw [HD2.out]
        exact ⟨rfl, rfl⟩
      · have HD2 : Hid (cmpL a b = 0) := by
          show _ = _
          have hbd : b.drop a.length = [] := List.drop_of_length_le (by omega)
          rw [HC.out, hbd, List.drop_length]; rfl
        have hlb' : (b.length : Int) ≤ (a.length : Int) := by omega
        clear HC hac hbc
        go_wp2
        go_ret
        rw [HD2.out]
        exact ⟨rfl, rfl⟩
set_option maxRecDepth 100000 in
set_option maxHeartbeats 1600000 in
theorem equal_p {w : World} {va vb : Value} {a b : List Nat} (ha : IntsAt w va a) (hb : IntsAt w vb b) (hal : a.length ≤ 1000000) (hbl : b.length ≤ 1000000) :
    Calls Tryz.prog 123 #[va, vb] w fun e w' => e = .returned (.bool (decide (a = b))) ∧ ∃ q, w' = w.drewN q := by
  obtain ⟨aa, ac, rfl, hac⟩ := ha
  obtain ⟨ba, bc, rfl, hbc⟩ := hb
  by_cases hl : a.length = b.length
  · have HLb : Hid (a.length = b.length) := hl
    have hl2 : ((a.length : Int) == (b.length : Int)) = true := by simp [hl]
    have hl3 : ((a.length : Int) != (b.length : Int)) = false := by simp [hl]
    clear hl
    go_enter Tryz.func123, Tryz.ntmps123
    go_wp2
    go_loopw [13] (fun i wr => ∃ k : Nat, k ≤ a.length ∧ i = .int .i64 k ∧ (∃ q, wr = w.drewN q) ∧ Hid (a.take k = b.take k)) (fun i _ => a.length - (intOf i).toNat)
    case atStart => exact ⟨0, Nat.zero_le _, rfl, ⟨0, rfl⟩, rfl⟩
    case round =>
      obtain ⟨k, hk, rfl, ⟨q, hq⟩, HT⟩ := hrel
      have hh : wr.heap = w.heap := by rw [hq]; rfl
      have HBel : Hid (∀ n, ∃ q, wr.drewN n = w.drewN q) := fun n => ⟨q + n, by rw [hq]; simp [World.drewN, Nat.add_assoc]⟩
      clear hq
      by_cases hlt : k < a.length
      · have hlb : k < b.length := by rw [← HLb.out]; exact hlt
        obtain ⟨g, rfl, hg, hc⟩ := hac (by omega)
        obtain ⟨g2, rfl, hg2, hc2⟩ := hbc (by omega)
        have e1 : wr.cell? ⟨g, k, none⟩ = some (.int .i64 (a[k] : Nat)) := (cell_eq (by rw [hh]) k).trans (hc k hlt)
        have e2 : wr.cell? ⟨g2, k, none⟩ = some (.int .i64 (b[k] : Nat)) := (cell_eq (by rw [hh]) k).trans (hc2 k hlb)
        have gl : g < wr.heap.size := by rw [hh]; exact hg
        have gl2 : g2 < wr.heap.size := by rw [hh]; exact hg2
        have hki : (k : Int) < (a.length : Int) := by omega
        have hkb : (k : Int) < (b.length : Int) := by omega
        have hk0 : (0 : Int) ≤ (k : Int) := by omega
        have HTk : Hid (a[k] = b[k] → a.take (k + 1) = b.take (k + 1)) := fun e => by rw [List.take_succ_eq_append_getElem hlt, List.take_succ_eq_append_getElem hlb, HT.out, e]
        have HNk : Hid (¬ a[k] = b[k] → decide (a = b) = false) := fun e => decide_eq_false (fun h => e (by subst h; rfl))
        clear hc hc2 hac hbc hh hg hg2 HT
        generalize a[k] = xa at *
        generalize b[k] = xb at *
        by_cases he : xa = xb
        · subst he
          go_wp2
          go_quiet (fail)
          go_wp2
          go_roundw
          case rel => exact ⟨k + 1, hlt, by go_num, HBel.out _, HTk.out trivial⟩
          case measure => simp [intOf]; omega
        · have he2 : ((xa : Int) != (xb : Int)) = true := by simp; omega
          have he3 : ((xa : Int) == (xb : Int)) = false := by simp; omega
          have he4 : ¬ (xa : Int) = (xb : Int) := by omega
          go_wp2
          go_quiet (fail)
          go_wp2
          go_ret
          rw [HNk.out he]
          exact ⟨rfl, HBel.out _⟩
      · have ek : k = a.length := by omega
        subst ek
        have HE : Hid (decide (a = b) = true) := decide_eq_true (by
          have := HT.out
          rw [List.take_length, HLb.out, List.take_length] at this
          exact this)
        clear hac hbc hh
        go_wp2
        go_ret
        rw [HE.out]
        exact ⟨rfl, HBel.out 0⟩
  · have hl2 : ((a.length : Int) == (b.length : Int)) = false := by simp; omega
    have hl3 : ((a.length : Int) != (b.length : Int)) = true := by simp; omega
    have hl4 : ¬ (a.length : Int) = (b.length : Int) := by omega
    have HN : Hid (decide (a = b) = false) := decide_eq_false (fun h => hl (by rw [h]))
    clear hac hbc
    go_enter Tryz.func123, Tryz.ntmps123
    go_wp2
    go_ret
    rw [HN.out]
    exact ⟨rfl, 0, rfl⟩
end Go.Proofs.YtddbjcfdmdbmkaaGreatDoor
