import Derived.Test.YtddbjcfdmdbmkaaGreatDoorB31
import Derived.Test.YtddbjcfdmdbmkaaGreatDoorB26
import Derived.Test.YtddbjcfdmdbmkaaGreatDoorB19
import Derived.Test.YtddbjcfdmdbmkaaGreatDoorB16
import Derived.Defers
import Derived.Recover
import Derived.Deep.RegionHeld3
set_option linter.unusedVariables false
set_option linter.unusedSimpArgs false
namespace Go.Proofs.YtddbjcfdmdbmkaaGreatDoor
open Go.RowKit

set_option maxRecDepth 100000 in
set_option maxHeartbeats 800000 in
theorem stays_p {w : World} {FB EB E f : Nat} {b0 b1 b2 : Value} (hF : w.cell? ⟨FB, 0, none⟩ = some (.int .i64 (f : Nat))) (hFl : FB < w.heap.size) (hE : w.cell? ⟨EB, 0, none⟩ = some (.pointer (some ⟨E, 0, none⟩))) (hEl : EB < w.heap.size) (hB : Blk w E #[b0, b1, b2] 73) :
    CallsD Tryz.prog 47 #[.pointer (some ⟨FB, 0, none⟩), .pointer (some ⟨EB, 0, none⟩)] .returning w fun e u' w' => u' = .returning ∧ (e = .returned (.tuple #[]) ∧ w' = w.setCell ⟨E, 1, none⟩ (.int .i64 (f : Nat))) := by
  have c1 := hB.cell 1; have f1 := hB.frozen 1; have hBl := hB.lt
  simp at c1
  go_enter_d Tryz.func47, Tryz.ntmps47
  go_wp2
  go_end0
  exact ⟨rfl, rfl⟩
def feedO (w : World) (E : Nat) (ev : Ev) : World := ((w.alloc (.cells #[.pointer (some ⟨E, 0, none⟩)] 22)).alloc (.cells #[.int .i64 ev.time, .int .i64 ev.kind, .int .i64 ev.a, .int .i64 ev.b, .int .i64 ev.c] 44)).alloc (.cells #[.int .i64 0] 23)
theorem feedO_facts (w : World) (E : Nat) (ev : Ev) : Below w.heap.size w (feedO w E ev) ∧ Blk (feedO w E ev) w.heap.size #[.pointer (some ⟨E, 0, none⟩)] 22 ∧ Blk (feedO w E ev) (w.heap.size + 1) #[.int .i64 ev.time, .int .i64 ev.kind, .int .i64 ev.a, .int .i64 ev.b, .int .i64 ev.c] 44 ∧ Blk (feedO w E ev) (w.heap.size + 1 + 1) #[.int .i64 0] 23 := by
  unfold feedO
  refine ⟨(((Below.refl _ w).alloc (Nat.le_refl _) _).alloc (by simp) _).alloc (by simp; omega) _, ((Blk.new w _ _).alloc _).alloc _, ?_, ?_⟩
  · have k := Blk.new (w.alloc (.cells #[.pointer (some ⟨E, 0, none⟩)] 22)) #[.int .i64 ev.time, .int .i64 ev.kind, .int .i64 ev.a, .int .i64 ev.b, .int .i64 ev.c] 44
    rw [alloc_size] at k
    exact k.alloc _
  · have k := Blk.new ((w.alloc (.cells #[.pointer (some ⟨E, 0, none⟩)] 22)).alloc (.cells #[.int .i64 ev.time, .int .i64 ev.kind, .int .i64 ev.a, .int .i64 ev.b, .int .i64 ev.c] 44)) #[.int .i64 0] 23
    rw [alloc_size, alloc_size] at k
    exact k
set_option maxRecDepth 100000 in
set_option maxHeartbeats 1600000 in
theorem feed_failed {w : World} {E f : Nat} {b0 b2 : Value} (hB : Blk w E #[b0, .int .i64 (f : Nat), b2] 73) (h0 : f ≠ 0) (ev : Ev) :
    Calls Tryz.prog 27 #[.pointer (some ⟨E, 0, none⟩), evVal ev] w fun e w' => e = .returned (.tuple #[.slice none 0 0, .int .i64 (f : Nat)]) ∧ Blk w' E #[b0, .int .i64 (f : Nat), b2] 73 ∧ Chg (fun b => b = E) w w' := by
  have hmf : ∀ (fn : Fn) (first cap : Array Value) (w : World), (Instr.makeFunc fn first cap).run Tryz.prog w = .ok (.func fn first cap) w := fun _ _ _ _ => rfl
  obtain ⟨hbO, hEB, hVB, hFB⟩ := feedO_facts w E ev
  have hBO := hB.of_eq (hbO.block E hB.lt)
  have hz : ((f : Int) == 0) = false := by simp; omega
  have hz2 : ¬ (f : Int) = 0 := by omega
  have hws := hbO.size
  have hEl := hB.lt
  unfold evVal
  unfold feedO at hbO hEB hVB hFB hBO hws
  generalize hW0 : ((w.alloc (.cells #[.pointer (some ⟨E, 0, none⟩)] 22)).alloc (.cells #[.int .i64 ev.time, .int .i64 ev.kind, .int .i64 ev.a, .int .i64 ev.b, .int .i64 ev.c] 44)).alloc (.cells #[.int .i64 0] 23) = W0 at *
  have c1 := hBO.cell 1; have f1 := hBO.frozen 1; have cl := hBO.lt
  have e0 := hEB.cell 0; have el := hEB.lt; have g0 := hFB.cell 0; have gf := hFB.frozen 0; have gl := hFB.lt
  simp at c1 e0 g0
  go_enter_defers Tryz.func27, Tryz.ntmps27
  go_upto_region 3 with fail
  go_region
  all_goals
    go_wp2
    have hBd : Blk ((W0.setCell ⟨w.heap.size + 1 + 1, 0, none⟩ (.int .i64 f)).drew) E #[b0, .int .i64 (f : Nat), b2] 73 := hBO.other _ _ (by show w.heap.size + 1 + 1 ≠ E; omega)
    have hEd : Blk ((W0.setCell ⟨w.heap.size + 1 + 1, 0, none⟩ (.int .i64 f)).drew) w.heap.size #[.pointer (some ⟨E, 0, none⟩)] 22 := hEB.other _ _ (by show w.heap.size + 1 + 1 ≠ w.heap.size; omega)
    have hFd : Blk ((W0.setCell ⟨w.heap.size + 1 + 1, 0, none⟩ (.int .i64 f)).drew) (w.heap.size + 1 + 1) #[.int .i64 (f : Nat)] 23 := by
      have k := hFB.set 0 (.int .i64 (f : Nat))
      simp at k
      exact k
    refine leaves_cons (f := 47) (args := #[.pointer (some ⟨w.heap.size + 1 + 1, 0, none⟩), .pointer (some ⟨w.heap.size, 0, none⟩)]) (by simp) (by simp [go_sem]) ?_
    refine (stays_p (f := f) (hFd.cell 0) hFd.lt (hEd.cell 0) hEd.lt hBd).mono ?_
    rintro x u' w'' ⟨rfl, rfl, rfl⟩
    have hF2 := hFd.other ⟨E, 1, none⟩ (.int .i64 (f : Nat)) (by show E ≠ w.heap.size + 1 + 1; omega)
    have r0 := hF2.cell 0
    simp at r0
    have hB2 : Blk (((W0.setCell ⟨w.heap.size + 1 + 1, 0, none⟩ (.int .i64 f)).drew).setCell ⟨E, 1, none⟩ (.int .i64 (f : Nat))) E #[b0, .int .i64 (f : Nat), b2] 73 := by
      have k := hBd.set 1 (.int .i64 (f : Nat))
      simp at k
      exact k
    have hch : Chg (fun b => b = E) w (((W0.setCell ⟨w.heap.size + 1 + 1, 0, none⟩ (.int .i64 f)).drew).setCell ⟨E, 1, none⟩ (.int .i64 (f : Nat))) := by
      have k := ((Chg.below (fun b => b = E) hbO).setCell (p := ⟨w.heap.size + 1 + 1, 0, none⟩) (.inr (by show w.heap.size ≤ w.heap.size + 1 + 1; omega)) (.int .i64 (f : Nat))).drewN 1
      exact k.setCell (p := ⟨E, 1, none⟩) (.inl rfl) _
    generalize ((W0.setCell ⟨w.heap.size + 1 + 1, 0, none⟩ (.int .i64 f)).drew).setCell ⟨E, 1, none⟩ (.int .i64 (f : Nat)) = D at *
    refine ⟨.tuple #[.slice none 0 0, .int .i64 (f : Nat)], ?_, rfl, hB2, hch⟩
    simp [results, Tryz.results27, go_sem, r0]
end Go.Proofs.YtddbjcfdmdbmkaaGreatDoor

namespace Go.Proofs.YtddbjcfdmdbmkaaGreatDoor
open Go.RowKit

set_option maxRecDepth 100000 in
set_option maxHeartbeats 3200000 in
theorem feed_fault {F : Nat → Prop} {w : World} {E X : Nat} {b0 : Value} {c : WC} {evs : List Ev} {lo : Nat} {sps : List Nat} {tv rv : Value} {rs : List MRun} (hB : Blk w E #[b0, .int .i64 0, .pointer (some ⟨X, 0, none⟩)] 73) (h : WatchM F w X c evs lo sps tv rv rs) (hc : WellC c) {rl : List (Nat × List Nat)} (hP : WatchP c evs lo rl) (ev : Ev) (he : In64 ev.time) (h0 : feedFP c.win c.rate evs ev.time ≠ 0) :
    Calls Tryz.prog 27 #[.pointer (some ⟨E, 0, none⟩), evVal ev] w fun e w' => e = .returned (.tuple #[.slice none 0 0, .int .i64 (feedFP c.win c.rate evs ev.time : Nat)]) ∧ Blk w' E #[b0, .int .i64 (feedFP c.win c.rate evs ev.time : Nat), .pointer (some ⟨X, 0, none⟩)] 73 ∧ Chg (fun b => b = E) w w' := by
  have hmf : ∀ (fn : Fn) (first cap : Array Value) (w : World), (Instr.makeFunc fn first cap).run Tryz.prog w = .ok (.func fn first cap) w := fun _ _ _ _ => rfl
  obtain ⟨hbO, hEB, hVB, hFB⟩ := feedO_facts w E ev
  have hBO := hB.of_eq (hbO.block E hB.lt)
  have hMO := h.below hbO
  have hcall : ∀ V, Below (feedO w E ev).heap.size (feedO w E ev) V → Calls Tryz.prog 48 #[.pointer (some ⟨X, 0, none⟩), .agg #[.int .i64 ev.time, .int .i64 ev.kind, .int .i64 ev.a, .int .i64 ev.b, .int .i64 ev.c]] V fun x w' => x = .returned (.int .i64 (feedFP c.win c.rate evs ev.time)) ∧ Below (feedO w E ev).heap.size (feedO w E ev) w' := fun V hV => by
    refine ((hMO.below hV).fault hc hP ev he).mono ?_
    rintro x w' ⟨q1, q2⟩
    exact ⟨q1, hV.trans (q2.mono hV.size)⟩
  generalize feedFP c.win c.rate evs ev.time = f at *
  have hz : ((f : Int) == 0) = false := by simp; omega
  have hz2 : ¬ (f : Int) = 0 := by omega
  have hws := hbO.size
  have hEl := hB.lt
  clear hMO h hP
  unfold evVal
  unfold feedO at hbO hEB hVB hFB hBO hws hcall
  generalize hW0 : ((w.alloc (.cells #[.pointer (some ⟨E, 0, none⟩)] 22)).alloc (.cells #[.int .i64 ev.time, .int .i64 ev.kind, .int .i64 ev.a, .int .i64 ev.b, .int .i64 ev.c] 44)).alloc (.cells #[.int .i64 0] 23) = W0 at *
  have c1 := hBO.cell 1; have c2 := hBO.cell 2; have cl := hBO.lt
  have e0 := hEB.cell 0; have el := hEB.lt
  have v0 := hVB.cell 0; have v1 := hVB.cell 1; have v2 := hVB.cell 2; have v3 := hVB.cell 3; have v4 := hVB.cell 4; have vl := hVB.lt
  simp at c1 c2 e0 v0 v1 v2 v3 v4
  go_enter_defers Tryz.func27, Tryz.ntmps27
  go_upto_region 4 with fail
  refine wp_region_noPanic ?_
  go_region_law (first
    | (go_simp; refine (hcall _ (by first | exact Below.refl _ _ | exact ⟨rfl, rfl, rfl, Nat.le_refl _, fun _ _ => rfl⟩)).mono ?_; rintro x w5 ⟨rfl, hb5⟩; have hF5 := hFB.of_eq (hb5.block _ hFB.lt); have g0 := hF5.cell 0; have gf := hF5.frozen 0; have gl := hF5.lt; simp at g0; have hB5 := hBO.of_eq (hb5.block _ hBO.lt); have hE5 := hEB.of_eq (hb5.block _ hEB.lt); show _; dsimp only))
  all_goals
    refine NoPanic.normal ?_
    have hF6 : Blk (w5.setCell ⟨w.heap.size + 1 + 1, 0, none⟩ (.int .i64 f)) (w.heap.size + 1 + 1) #[.int .i64 (f : Nat)] 23 := by
      have k := hF5.set 0 (.int .i64 (f : Nat))
      simp at k
      exact k
    have hB6 := hB5.other ⟨w.heap.size + 1 + 1, 0, none⟩ (.int .i64 (f : Nat)) (by show w.heap.size + 1 + 1 ≠ E; omega)
    have hE6 := hE5.other ⟨w.heap.size + 1 + 1, 0, none⟩ (.int .i64 (f : Nat)) (by show w.heap.size + 1 + 1 ≠ w.heap.size; omega)
    have hch6 : Chg (fun b => b = E) w (w5.setCell ⟨w.heap.size + 1 + 1, 0, none⟩ (.int .i64 (f : Nat))) := (Chg.below (fun b => b = E) (hbO.trans (hb5.mono hws))).setCell (p := ⟨w.heap.size + 1 + 1, 0, none⟩) (.inr (by show w.heap.size ≤ w.heap.size + 1 + 1; omega)) _
    generalize w5.setCell ⟨w.heap.size + 1 + 1, 0, none⟩ (.int .i64 (f : Nat)) = W6 at *
    have m0 := hF6.cell 0; have mf := hF6.frozen 0; have ml := hF6.lt
    simp at m0
    clear hF5 hB5 hE5 hcall hb5
    go_upto_region 6 with fail
    go_region
    all_goals
      go_wp2
      have hFd : Blk ((W6.setCell ⟨w.heap.size + 1 + 1, 0, none⟩ (.int .i64 f)).drew) (w.heap.size + 1 + 1) #[.int .i64 (f : Nat)] 23 := by
        have k := hF6.set 0 (.int .i64 (f : Nat))
        simp at k
        exact k
      have hBd : Blk ((W6.setCell ⟨w.heap.size + 1 + 1, 0, none⟩ (.int .i64 f)).drew) E #[b0, .int .i64 0, .pointer (some ⟨X, 0, none⟩)] 73 := hB6.other _ _ (by show w.heap.size + 1 + 1 ≠ E; omega)
      have hEd : Blk ((W6.setCell ⟨w.heap.size + 1 + 1, 0, none⟩ (.int .i64 f)).drew) w.heap.size #[.pointer (some ⟨E, 0, none⟩)] 22 := hE6.other _ _ (by show w.heap.size + 1 + 1 ≠ w.heap.size; omega)
      have hcd : Chg (fun b => b = E) w ((W6.setCell ⟨w.heap.size + 1 + 1, 0, none⟩ (.int .i64 f)).drew) := (hch6.setCell (p := ⟨w.heap.size + 1 + 1, 0, none⟩) (.inr (by show w.heap.size ≤ w.heap.size + 1 + 1; omega)) (.int .i64 (f : Nat))).drewN 1
      refine leaves_cons (f := 47) (args := #[.pointer (some ⟨w.heap.size + 1 + 1, 0, none⟩), .pointer (some ⟨w.heap.size, 0, none⟩)]) (by simp) (by simp [go_sem]) ?_
      refine (stays_p (f := f) (hFd.cell 0) hFd.lt (hEd.cell 0) hEd.lt hBd).mono ?_
      rintro x u' w'' ⟨rfl, rfl, rfl⟩
      have hF2 := hFd.other ⟨E, 1, none⟩ (.int .i64 (f : Nat)) (by show E ≠ w.heap.size + 1 + 1; omega)
      have r0 := hF2.cell 0
      simp at r0
      have hB2 : Blk (((W6.setCell ⟨w.heap.size + 1 + 1, 0, none⟩ (.int .i64 f)).drew).setCell ⟨E, 1, none⟩ (.int .i64 (f : Nat))) E #[b0, .int .i64 (f : Nat), .pointer (some ⟨X, 0, none⟩)] 73 := by
        have k := hBd.set 1 (.int .i64 (f : Nat))
        simp at k
        exact k
      have hch : Chg (fun b => b = E) w (((W6.setCell ⟨w.heap.size + 1 + 1, 0, none⟩ (.int .i64 f)).drew).setCell ⟨E, 1, none⟩ (.int .i64 (f : Nat))) := hcd.setCell (p := ⟨E, 1, none⟩) (.inl rfl) _
      clear hFd hBd hEd hcd hF2
      generalize ((W6.setCell ⟨w.heap.size + 1 + 1, 0, none⟩ (.int .i64 f)).drew).setCell ⟨E, 1, none⟩ (.int .i64 (f : Nat)) = D at *
      refine ⟨.tuple #[.slice none 0 0, .int .i64 (f : Nat)], ?_, rfl, hB2, hch⟩
      simp [results, Tryz.results27, go_sem, r0]
theorem blk_ne {w : World} {a b : Nat} {xs ys : Array Value} {s t : TypeId} (h : Blk w a xs s) (h' : Blk w b ys t) (hst : s ≠ t) : a ≠ b := by
  intro e
  subst e
  unfold Blk at h h'
  rw [h] at h'
  simp at h'
  exact hst h'.2
set_option maxRecDepth 100000 in
set_option maxHeartbeats 3200000 in
theorem feed_ok {F : Nat → Prop} {w : World} {E X : Nat} {b0 : Value} {c : WC} {evs : List Ev} {lo : Nat} {sps : List Nat} {tv rv : Value} {rs : List MRun} (hB : Blk w E #[b0, .int .i64 0, .pointer (some ⟨X, 0, none⟩)] 73) (hnE : ¬ F E) (h : WatchM F w X c evs lo sps tv rv rs) (hc : WellC c) {rl : List (Nat × List Nat)} (hP : WatchP c evs lo rl) (hrl : (rs.map MRun.pl).Perm rl) (hrn : rs.length ≤ 100000) (hel : evs.length ≤ 100000000) (ev : Ev) (he : In64 ev.time) (h0 : feedFP c.win c.rate evs ev.time = 0) :
    Calls Tryz.prog 27 #[.pointer (some ⟨E, 0, none⟩), evVal ev] w fun e w' => ∃ a n cc F' B ys sps' tv' rv' rs' W, e = .returned (.tuple #[.slice a n cc, .int .i64 0]) ∧ Blk w' E #[b0, .int .i64 0, .pointer (some ⟨X, 0, none⟩)] 73 ∧ Below w.heap.size w W ∧ (∃ w9, TakeP F W X c evs ev lo tv rv rl (.slice a n cc) w9 F' B ys sps' tv' rv' rs' ∧ Chg (fun b => b = E ∨ (w.heap.size ≤ b ∧ b < W.heap.size)) w9 w') := by
  have hmf : ∀ (fn : Fn) (first cap : Array Value) (w : World), (Instr.makeFunc fn first cap).run Tryz.prog w = .ok (.func fn first cap) w := fun _ _ _ _ => rfl
  obtain ⟨hbO, hEB, hVB, hFB⟩ := feedO_facts w E ev
  have hBO := hB.of_eq (hbO.block E hB.lt)
  have hMO := h.below hbO
  have hEX : E ≠ X := blk_ne hB h.heap.xb (by decide)
  have hET : tv.ownBlock ≠ some E := blk_apart hB h.times (by decide)
  have hER : rv.ownBlock ≠ some E := blk_apart hB h.heap.row (by decide)
  have hXl := h.heap.xb.lt
  have hTl : ∀ b, tv.ownBlock = some b → b < w.heap.size := fun b hb => (h.times.lt b hb).2
  have hRl : ∀ b, rv.ownBlock = some b → b < w.heap.size := fun b hb => (h.heap.row.lt b hb).2
  have hcall : ∀ V, Below (feedO w E ev).heap.size (feedO w E ev) V → Calls Tryz.prog 48 #[.pointer (some ⟨X, 0, none⟩), .agg #[.int .i64 ev.time, .int .i64 ev.kind, .int .i64 ev.a, .int .i64 ev.b, .int .i64 ev.c]] V fun x w' => x = .returned (.int .i64 0) ∧ Below (feedO w E ev).heap.size (feedO w E ev) w' := fun V hV => by
    refine ((hMO.below hV).fault hc hP ev he).mono ?_
    rintro x w' ⟨q1, q2⟩
    rw [h0] at q1
    exact ⟨q1, hV.trans (q2.mono hV.size)⟩
  have htake : ∀ V, Below w.heap.size w V → Calls Tryz.prog 49 #[.pointer (some ⟨X, 0, none⟩), .agg #[.int .i64 ev.time, .int .i64 ev.kind, .int .i64 ev.a, .int .i64 ev.b, .int .i64 ev.c]] V fun x w' => ∃ a n cc F' B ys sps' tv' rv' rs', x = .returned (.slice a n cc) ∧ TakeP F V X c evs ev lo tv rv rl (.slice a n cc) w' F' B ys sps' tv' rv' rs' := fun V hV =>
    watchTake_p (h.below hV) hc hP hrl he (feedF0 h0).1 hrn hel
  have hws := hbO.size
  have hEl := hB.lt
  clear hMO h hP h0
  unfold evVal
  unfold feedO at hbO hEB hVB hFB hBO hws hcall
  generalize hW0 : ((w.alloc (.cells #[.pointer (some ⟨E, 0, none⟩)] 22)).alloc (.cells #[.int .i64 ev.time, .int .i64 ev.kind, .int .i64 ev.a, .int .i64 ev.b, .int .i64 ev.c] 44)).alloc (.cells #[.int .i64 0] 23) = W0 at *
  have c1 := hBO.cell 1; have c2 := hBO.cell 2; have cl := hBO.lt
  have e0 := hEB.cell 0; have el := hEB.lt
  have v0 := hVB.cell 0; have v1 := hVB.cell 1; have v2 := hVB.cell 2; have v3 := hVB.cell 3; have v4 := hVB.cell 4; have vl := hVB.lt
  simp at c1 c2 e0 v0 v1 v2 v3 v4
  go_enter_defers Tryz.func27, Tryz.ntmps27
  go_upto_region 4 with fail
  refine wp_region_noPanic ?_
  go_region_law (first
    | (go_simp; refine (hcall _ (by first | exact Below.refl _ _ | exact ⟨rfl, rfl, rfl, Nat.le_refl _, fun _ _ => rfl⟩)).mono ?_; rintro x w5 ⟨rfl, hb5⟩; have hF5 := hFB.of_eq (hb5.block _ hFB.lt); have g0 := hF5.cell 0; have gf := hF5.frozen 0; have gl := hF5.lt; simp at g0; have hB5 := hBO.of_eq (hb5.block _ hBO.lt); have hE5 := hEB.of_eq (hb5.block _ hEB.lt); have hV5 := hVB.of_eq (hb5.block _ hVB.lt); show _; dsimp only))
  all_goals
    refine NoPanic.normal ?_
    have hF6 : Blk (w5.setCell ⟨w.heap.size + 1 + 1, 0, none⟩ (.int .i64 0)) (w.heap.size + 1 + 1) #[.int .i64 0] 23 := by
      have k := hF5.set 0 (.int .i64 0)
      simp at k
      exact k
    have hB6 := hB5.other ⟨w.heap.size + 1 + 1, 0, none⟩ (.int .i64 0) (by show w.heap.size + 1 + 1 ≠ E; omega)
    have hE6 := hE5.other ⟨w.heap.size + 1 + 1, 0, none⟩ (.int .i64 0) (by show w.heap.size + 1 + 1 ≠ w.heap.size; omega)
    have hV6 := hV5.other ⟨w.heap.size + 1 + 1, 0, none⟩ (.int .i64 0) (by show w.heap.size + 1 + 1 ≠ w.heap.size + 1; omega)
    have hb6 : Below w.heap.size w (w5.setCell ⟨w.heap.size + 1 + 1, 0, none⟩ (.int .i64 0)) := (hbO.trans (hb5.mono hws)).setCell (p := ⟨w.heap.size + 1 + 1, 0, none⟩) (by show w.heap.size ≤ w.heap.size + 1 + 1; omega) _
    generalize w5.setCell ⟨w.heap.size + 1 + 1, 0, none⟩ (.int .i64 0) = W6 at *
    have m0 := hF6.cell 0; have ml := hF6.lt; have n2 := hB6.cell 2; have nl := hB6.lt; have o0 := hE6.cell 0; have ol := hE6.lt
    have p0 := hV6.cell 0; have p1 := hV6.cell 1; have p2 := hV6.cell 2; have p3 := hV6.cell 3; have p4 := hV6.cell 4; have pl := hV6.lt
    simp at m0 n2 o0 p0 p1 p2 p3 p4
    clear hF5 hB5 hE5 hcall hb5
    go_upto_region 7 with fail
    refine wp_region_noPanic ?_
    go_region_law (first
      | (go_simp; refine (htake _ (by first | exact hb6 | exact ⟨hb6.os, hb6.tape, hb6.output, hb6.size, hb6.block⟩)).mono ?_; rintro x w9 ⟨a9, n9, c9, F9, B9, ys9, sps9, tv9, rv9, rs9, rfl, hT⟩; have hF9 := hF6.of_eq (hT.chg.at _ hF6.lt (fun hm => by rcases hm with hm | hm | hm; omega; have := hTl _ hm; omega; have := hRl _ hm; omega)); have hB9 := hB6.of_eq (hT.chg.at _ hB6.lt (fun hm => by rcases hm with hm | hm | hm; exact hEX hm; exact hET hm; exact hER hm)); have hE9 := hE6.of_eq (hT.chg.at _ hE6.lt (fun hm => by rcases hm with hm | hm | hm; omega; have := hTl _ hm; omega; have := hRl _ hm; omega)); have y0 := hF9.cell 0; have yf := hF9.frozen 0; have yl := hF9.lt; simp at y0; show _; dsimp only))
    all_goals
      refine NoPanic.normal ?_
      go_wp2
      have hFd : Blk (w9.setCell ⟨w.heap.size + 1 + 1, 0, none⟩ (.int .i64 0)) (w.heap.size + 1 + 1) #[.int .i64 ((0 : Nat) : Int)] 23 := by
        have k := hF9.set 0 (.int .i64 0)
        simp at k
        exact k
      have hBd := hB9.other ⟨w.heap.size + 1 + 1, 0, none⟩ (.int .i64 0) (by show w.heap.size + 1 + 1 ≠ E; omega)
      have hEd := hE9.other ⟨w.heap.size + 1 + 1, 0, none⟩ (.int .i64 0) (by show w.heap.size + 1 + 1 ≠ w.heap.size; omega)
      have hcd : Chg (fun b => b = E ∨ (w.heap.size ≤ b ∧ b < W6.heap.size)) w9 (w9.setCell ⟨w.heap.size + 1 + 1, 0, none⟩ (.int .i64 0)) := (Chg.refl (fun b => b = E ∨ (w.heap.size ≤ b ∧ b < W6.heap.size)) w9).setCell (p := ⟨w.heap.size + 1 + 1, 0, none⟩) (.inl (.inr ⟨by show w.heap.size ≤ w.heap.size + 1 + 1; omega, ml⟩)) _
      refine leaves_cons (f := 47) (args := #[.pointer (some ⟨w.heap.size + 1 + 1, 0, none⟩), .pointer (some ⟨w.heap.size, 0, none⟩)]) (by simp) (by simp [go_sem]) ?_
      refine (stays_p (f := 0) (hFd.cell 0) hFd.lt (hEd.cell 0) hEd.lt hBd).mono ?_
      rintro x u' w'' ⟨rfl, rfl, rfl⟩
      have hF2 := hFd.other ⟨E, 1, none⟩ (.int .i64 ((0 : Nat) : Int)) (by show E ≠ w.heap.size + 1 + 1; omega)
      have r0 := hF2.cell 0
      simp at r0
      have hB2 : Blk ((w9.setCell ⟨w.heap.size + 1 + 1, 0, none⟩ (.int .i64 0)).setCell ⟨E, 1, none⟩ (.int .i64 ((0 : Nat) : Int))) E #[b0, .int .i64 0, .pointer (some ⟨X, 0, none⟩)] 73 := by
        have k := hBd.set 1 (.int .i64 0)
        simp at k
        exact k
      have hch : Chg (fun b => b = E ∨ (w.heap.size ≤ b ∧ b < W6.heap.size)) w9 ((w9.setCell ⟨w.heap.size + 1 + 1, 0, none⟩ (.int .i64 0)).setCell ⟨E, 1, none⟩ (.int .i64 ((0 : Nat) : Int))) := hcd.setCell (p := ⟨E, 1, none⟩) (.inl (.inl rfl)) _
      clear hFd hBd hEd hcd hF2
      generalize (w9.setCell ⟨w.heap.size + 1 + 1, 0, none⟩ (.int .i64 0)).setCell ⟨E, 1, none⟩ (.int .i64 ((0 : Nat) : Int)) = D at *
      refine ⟨.tuple #[.slice a9 n9 c9, .int .i64 0], ?_, a9, n9, c9, F9, B9, ys9, sps9, tv9, rv9, rs9, _, rfl, hB2, ?_, w9, hT, ?_⟩
      · simp [results, Tryz.results27, go_sem, r0]
      · first | exact hb6 | exact ⟨hb6.os, hb6.tape, hb6.output, hb6.size, hb6.block⟩
      · exact hch
end Go.Proofs.YtddbjcfdmdbmkaaGreatDoor

namespace Go.Proofs.YtddbjcfdmdbmkaaGreatDoor
open Go.RowKit

set_option maxHeartbeats 400000 in
theorem eventsE_p {w : World} {X n : Nat} {x0 x1 x2 x4 x5 : Value} (h : Blk w X #[x0, x1, x2, .int .i64 (n : Nat), x4, x5] 110) :
    Calls Tryz.prog 37 #[.pointer (some ⟨X, 0, none⟩)] w fun e w' => e = .returned (.int .i64 (n : Nat)) ∧ w' = w := by
  have x3 := h.cell 3
  have hX := h.lt
  simp at x3
  go_enter Tryz.func37, Tryz.ntmps37
  go_wp2
  go_ret
  exact ⟨rfl, rfl⟩
set_option maxHeartbeats 400000 in
theorem runsE_p {w : World} {X m c : Nat} {p : Option Addr} {x0 x1 x2 x3 x4 : Value} (h : Blk w X #[x0, x1, x2, x3, x4, .slice p m c] 110) :
    Calls Tryz.prog 38 #[.pointer (some ⟨X, 0, none⟩)] w fun e w' => e = .returned (.int .i64 (m : Nat)) ∧ w' = w := by
  have x5 := h.cell 5
  have hX := h.lt
  simp at x5
  go_enter Tryz.func38, Tryz.ntmps38
  go_wp2
  go_ret
  exact ⟨rfl, rfl⟩
set_option maxRecDepth 100000 in
set_option maxHeartbeats 1600000 in
theorem lookE_p {w : World} {E X bd f n m c : Nat} {p : Option Addr} {x0 x1 x2 x4 : Value} (hE : Blk w E #[.int .i64 (bd : Nat), .int .i64 (f : Nat), .pointer (some ⟨X, 0, none⟩)] 73) (hX : Blk w X #[x0, x1, x2, .int .i64 (n : Nat), x4, .slice p m c] 110) :
    Calls Tryz.prog 16 #[.pointer (some ⟨E, 0, none⟩)] w fun e w' => e = .returned (.agg #[.int .i64 (n : Nat), .int .i64 (m : Nat), .int .i64 (bd : Nat), .int .i64 (f : Nat)]) ∧ Below w.heap.size w w' := by
  have hE1 := hE.alloc (.cells #[.int .i64 0, .int .i64 0, .int .i64 0, .int .i64 0] 27)
  have hX1 := hX.alloc (.cells #[.int .i64 0, .int .i64 0, .int .i64 0, .int .i64 0] 27)
  have hN := Blk.new w #[.int .i64 0, .int .i64 0, .int .i64 0, .int .i64 0] 27
  have hbel : Below w.heap.size w (w.alloc (.cells #[.int .i64 0, .int .i64 0, .int .i64 0, .int .i64 0] 27)) := (Below.refl _ w).alloc (Nat.le_refl _) _
  go_enter Tryz.func16, Tryz.ntmps16
  go_upto_region 1 with fail
  have hb2 : ∀ W', Below w.heap.size (w.alloc (.cells #[.int .i64 0, .int .i64 0, .int .i64 0, .int .i64 0] 27)) W' → Below w.heap.size w W' := fun W' h => hbel.trans h
  generalize w.alloc (.cells #[.int .i64 0, .int .i64 0, .int .i64 0, .int .i64 0] 27) = W at *
  have e0 := hE1.cell 0; have e1 := hE1.cell 1; have e2 := hE1.cell 2; have l1 := hE1.lt; have l2 := hX1.lt; have l3 := hN.lt
  simp at e0 e1 e2
  have v0 := hN.cell 0; have v1 := hN.cell 1; have v2 := hN.cell 2; have v3 := hN.cell 3; have f0 := hN.frozen 0; have f1 := hN.frozen 1; have f2 := hN.frozen 2; have f3 := hN.frozen 3
  simp at v0 v1 v2 v3
  have hev := fun (w' : World) (h : Blk w' X #[x0, x1, x2, .int .i64 (n : Nat), x4, .slice p m c] 110) => eventsE_p (w := w') h
  have hru := fun (w' : World) (h : Blk w' X #[x0, x1, x2, .int .i64 (n : Nat), x4, .slice p m c] 110) => runsE_p (w := w') h
  have hne : ¬ E = w.heap.size := Nat.ne_of_lt hE.lt
  have hne' : ¬ w.heap.size = E := fun h => hne h.symm
  go_region_held3 (fun w' => w'.cell? ⟨E, 2, none⟩ = some (.pointer (some ⟨X, 0, none⟩)) ∧ w'.cell? ⟨E, 0, none⟩ = some (.int .i64 bd) ∧ w'.cell? ⟨E, 1, none⟩ = some (.int .i64 f)) (simp [*, World.cell?_setCell_other])
   (first
    | (go_at_call 38; refine (hru _ hX1.drew).mono ?_; rintro e w5 ⟨rfl, rfl⟩)
    | (go_at_call 37; refine (hev _ hX1.drew).mono ?_; rintro e w5 ⟨rfl, rfl⟩))
  all_goals
    go_wp2
    clear hev hru hE1 hX1 hE hX e0 e1 e2 hne hne'
    rename_i hheld
    clear hheld
    have hB : Below w.heap.size W ((((W.setCell ⟨w.heap.size, 0, none⟩ (.int .i64 (n : Nat))).setCell ⟨w.heap.size, 1, none⟩ (.int .i64 (m : Nat))).setCell ⟨w.heap.size, 2, none⟩ (.int .i64 (bd : Nat))).setCell ⟨w.heap.size, 3, none⟩ (.int .i64 (f : Nat))).drew :=
      below_set4 _ _ _ _ _ _
    have g0 : ((((W.setCell ⟨w.heap.size, 0, none⟩ (.int .i64 (n : Nat))).setCell ⟨w.heap.size, 1, none⟩ (.int .i64 (m : Nat))).setCell ⟨w.heap.size, 2, none⟩ (.int .i64 (bd : Nat))).setCell ⟨w.heap.size, 3, none⟩ (.int .i64 (f : Nat))).drew.cell? ⟨w.heap.size, 0, none⟩ = some (.int .i64 (n : Nat)) := by simp [World.cell?_setCell_other, v0, v1, v2, v3, go_sem]
    have g1 : ((((W.setCell ⟨w.heap.size, 0, none⟩ (.int .i64 (n : Nat))).setCell ⟨w.heap.size, 1, none⟩ (.int .i64 (m : Nat))).setCell ⟨w.heap.size, 2, none⟩ (.int .i64 (bd : Nat))).setCell ⟨w.heap.size, 3, none⟩ (.int .i64 (f : Nat))).drew.cell? ⟨w.heap.size, 1, none⟩ = some (.int .i64 (m : Nat)) := by simp [World.cell?_setCell_other, v0, v1, v2, v3, go_sem]
    have g2 : ((((W.setCell ⟨w.heap.size, 0, none⟩ (.int .i64 (n : Nat))).setCell ⟨w.heap.size, 1, none⟩ (.int .i64 (m : Nat))).setCell ⟨w.heap.size, 2, none⟩ (.int .i64 (bd : Nat))).setCell ⟨w.heap.size, 3, none⟩ (.int .i64 (f : Nat))).drew.cell? ⟨w.heap.size, 2, none⟩ = some (.int .i64 (bd : Nat)) := by simp [World.cell?_setCell_other, v0, v1, v2, v3, go_sem]
    have g3 : ((((W.setCell ⟨w.heap.size, 0, none⟩ (.int .i64 (n : Nat))).setCell ⟨w.heap.size, 1, none⟩ (.int .i64 (m : Nat))).setCell ⟨w.heap.size, 2, none⟩ (.int .i64 (bd : Nat))).setCell ⟨w.heap.size, 3, none⟩ (.int .i64 (f : Nat))).drew.cell? ⟨w.heap.size, 3, none⟩ = some (.int .i64 (f : Nat)) := by simp [World.cell?_setCell_other, v0, v1, v2, v3, go_sem]
    generalize ((((W.setCell ⟨w.heap.size, 0, none⟩ (.int .i64 (n : Nat))).setCell ⟨w.heap.size, 1, none⟩ (.int .i64 (m : Nat))).setCell ⟨w.heap.size, 2, none⟩ (.int .i64 (bd : Nat))).setCell ⟨w.heap.size, 3, none⟩ (.int .i64 (f : Nat))).drew = W4 at *
    refine bodyPost_ret (v := .agg #[.int .i64 (n : Nat), .int .i64 (m : Nat), .int .i64 (bd : Nat), .int .i64 (f : Nat)]) (by simp [results, Tryz.results16, go_sem, g0, g1, g2, g3]) rfl ⟨rfl, hb2 _ hB⟩
def ProgCompE (w : World) (r : (PPat × Nat × List (List PPart)) ⊕ (Nat × Nat)) (v : Value) (w' : World) : Prop := Below w.heap.size w w' ∧ match r with
  | .inr (p, e) => v = .tuple #[.pointer none, .int .i64 p, .int .i64 e]
  | .inl (pat, bd, ps) => ∃ E X a n c, v = .tuple #[.pointer (some ⟨E, 0, none⟩), .int .i64 0, .int .i64 0] ∧ w.heap.size ≤ E ∧ w.heap.size ≤ X ∧ E ≠ X ∧ Blk w' E (EngineC bd X) 73 ∧ Blk w' X (WatchC pat.window pat.rate (.slice a n c)) 110 ∧ PathsS (fun b => w.heap.size ≤ b ∧ b ≠ X ∧ b ≠ E) w' (.slice a n c) (ps.map stepsP)
set_option maxRecDepth 100000 in
set_option maxHeartbeats 1600000 in
theorem compileE_p (s : ByteArray) (w : World) (hok : ∀ pat bd ps, herP s = .inl (pat, bd, ps) → ps.length ≤ 1000 ∧ ∀ l ∈ ps, l.length ≤ 100000 ∧ l ≠ [] ∧ ∀ p ∈ l, p.cond.length ≤ 1000000) (hnz : ∀ p e, herP s = .inr (p, e) → 1 ≤ e ∧ e ≤ 8) :
    Calls Tryz.prog 15 #[.string s] w fun e w' => ∃ v, e = .returned v ∧ ProgCompE w (herP s) v w' := by
  have hread := read_h s w
  cases hr : herP s with
  | inr r =>
    obtain ⟨pl, er⟩ := r
    have he := hnz pl er hr
    have he' : ((er : Int) != 0) = true := by simp; omega
    have HR : Hid (herP s = .inr (pl, er)) := hr
    clear hok hnz he hr
    have hp0 := fun (W : World) => Blk.new W zeroPlan 67
    go_enter Tryz.func15, Tryz.ntmps15
    go_wp2_with fail
    refine hread.mono ?_
    rintro e w1 ⟨v, rfl, hbel, hpost⟩
    rw [HR.out] at hpost
    obtain ⟨tv, rfl⟩ := hpost
    unfold zeroPlan
    go_wp2
    exact bodyPost_ret (v := .tuple #[.pointer none, .int .i64 pl, .int .i64 er]) (by simp [results, Tryz.results15, go_sem]) rfl ⟨_, rfl, hbel.alloc hbel.size _, rfl⟩
  | inl r =>
    obtain ⟨pat, bd, ps⟩ := r
    obtain ⟨hl, hps⟩ := hok pat bd ps hr
    have HR : Hid (herP s = .inl (pat, bd, ps)) := hr
    clear hok hnz hr
    go_enter Tryz.func15, Tryz.ntmps15
    go_wp2_with fail
    refine hread.mono ?_
    rintro e w1 ⟨v, rfl, hbel, hpost⟩
    rw [HR.out] at hpost
    obtain ⟨tv, sv, rfl, hP, _⟩ := hpost
    obtain ⟨pa, pn, pc, epv⟩ : ∃ a n c, sv = .slice a n c := by obtain ⟨vs, _, h, _⟩ := hP; exact row_form h
    subst epv
    go_upto_region 4 with fail
    have hBp := Blk.new w1 #[.int .i64 pat.window, .int .i64 pat.rate, .int .i64 bd, .slice pa pn pc] 67
    have hbel1 : Below w.heap.size w (w1.alloc (.cells #[.int .i64 pat.window, .int .i64 pat.rate, .int .i64 bd, .slice pa pn pc] 67)) := hbel.alloc hbel.size _
    have hP1 : PathsLie all7 (w1.alloc (.cells #[.int .i64 pat.window, .int .i64 pat.rate, .int .i64 bd, .slice pa pn pc] 67)) (.slice pa pn pc) ps := hP.ext ((Ext.refl all7 w1).alloc _)
    have hNlt := hBp.lt
    generalize w1.alloc (.cells #[.int .i64 pat.window, .int .i64 pat.rate, .int .i64 bd, .slice pa pn pc] 67) = W1 at *
    generalize w1.heap.size = N at *
    have hcall : ∀ W, Below W1.heap.size W1 W → Calls Tryz.prog 36 #[.agg #[.int .i64 pat.window, .int .i64 pat.rate, .int .i64 bd, .slice pa pn pc]] W fun e w' => ∃ X, e = .returned (.pointer (some ⟨X, 0, none⟩)) ∧ Below W1.heap.size W1 w' ∧ W1.heap.size ≤ X ∧ ∃ a n c, Blk w' X (WatchC pat.window pat.rate (.slice a n c)) 110 ∧ PathsS (fun b => W1.heap.size ≤ b ∧ b ≠ X) w' (.slice a n c) (ps.map stepsP) := fun W hW => by
      refine (new_s (hP1.ext (Ext.of_below (own := all7) hW)) pat.window pat.rate bd hl hps).mono ?_
      rintro e w' ⟨X, h1, h2, h3, a, n, c, h4, h5⟩
      have hWs := hW.size
      exact ⟨X, h1, hW.trans (h2.mono hWs), by omega, a, n, c, h4, h5.to (fun b hb _ => ⟨⟨by have := hb.1; omega, hb.2⟩, rfl⟩)⟩
    have p0 := hBp.cell 0; have p1 := hBp.cell 1; have p2 := hBp.cell 2; have p3 := hBp.cell 3
    simp at p0 p1 p2 p3
    have hpf : ∀ w5, Below W1.heap.size W1 w5 → w5.cell? ⟨N, 2, none⟩ = some (.int .i64 bd) := fun w5 h => (h.cell (p := ⟨N, 2, none⟩) hNlt).trans p2
    go_region_with (first
      | (go_at_call 36; refine (hcall _ (by first | exact Below.refl _ _ | exact ⟨rfl, rfl, rfl, Nat.le_refl _, fun _ _ => rfl⟩)).mono ?_; rintro e w5 ⟨X, rfl, hb5, hXn5, pa5, pn5, pc5, hX5, hPS5⟩; have p2' := hpf w5 hb5; have hNl5 : N < w5.heap.size := Nat.lt_of_lt_of_le hNlt hb5.size))
    all_goals
      go_wp2
      have hb6 : Below w.heap.size w w5 := hbel1.trans (hb5.mono hbel1.size)
      refine bodyPost_ret (v := .tuple #[.pointer (some ⟨w5.heap.size, 0, none⟩), .int .i64 0, .int .i64 0]) (by simp [results, Tryz.results15, go_sem]) rfl ⟨_, rfl, hb6.alloc hb6.size _, ?_⟩
      have hbs := hbel1.size
      have hXl5 := hX5.lt
      exact ⟨w5.heap.size, X, pa5, pn5, pc5, rfl, hb6.size, by omega, by omega, Blk.new _ _ _, hX5.alloc _, hPS5.to (fun b hb hl => ⟨⟨by have := hb.1; omega, hb.2, by omega⟩, Below.heap_alloc _ _ _ hl⟩)⟩

end Go.Proofs.YtddbjcfdmdbmkaaGreatDoor

namespace Go.Proofs.YtddbjcfdmdbmkaaGreatDoor
open Go.RowKit

def Eng (S : Nat → Prop) (w : World) (E bd failed : Nat) (c : WC) (evs : List Ev) : Prop :=
  ∃ F X lo sps tv rv rs, Blk w E #[.int .i64 (bd : Nat), .int .i64 (failed : Nat), .pointer (some ⟨X, 0, none⟩)] 73 ∧ WatchM F w X c evs lo sps tv rv rs ∧ WatchP c evs lo (rs.map MRun.pl) ∧ ¬ F E ∧ ∀ b, S b ↔ (F b ∨ b = E ∨ b = X ∨ tv.ownBlock = some b ∨ rv.ownBlock = some b)
theorem Eng.lt {S : Nat → Prop} {w : World} {E bd failed : Nat} {c : WC} {evs : List Ev} (h : Eng S w E bd failed c evs) : ∀ b, S b → b < w.heap.size := by
  obtain ⟨F, X, lo, sps, tv, rv, rs, h1, h2, _, _, h5⟩ := h
  intro b hb
  rcases (h5 b).1 hb with k | rfl | rfl | k | k
  · exact h2.heap.fl b k
  · exact h1.lt
  · exact h2.heap.xb.lt
  · exact (h2.times.lt b k).2
  · exact (h2.heap.row.lt b k).2
theorem Eng.to {S : Nat → Prop} {w w' : World} {E bd failed : Nat} {c : WC} {evs : List Ev} (h : Eng S w E bd failed c evs) {M : Nat → Prop} (hc : Chg M w w') (hM : ∀ b, M b → ¬ S b) : Eng S w' E bd failed c evs := by
  obtain ⟨F, X, lo, sps, tv, rv, rs, h1, h2, h3, h4, h5⟩ := h
  refine ⟨F, X, lo, sps, tv, rv, rs, h1.of_eq (hc.at E h1.lt (fun k => hM E k ((h5 E).2 (.inr (.inl rfl))))), h2.to hc (fun b k hF => hM b k ((h5 b).2 (.inl hF))) (fun k => hM X k ((h5 X).2 (.inr (.inr (.inl rfl))))) (fun g hg k => hM g k ((h5 g).2 (.inr (.inr (.inr (.inl hg)))))) (fun g hg k => hM g k ((h5 g).2 (.inr (.inr (.inr (.inr hg)))))), h3, h4, h5⟩
structure WellE (c : WC) : Prop extends WellC c where
  bnd : boundA c.rate (absP c.paths) ≤ 4000
theorem Eng.runs {S : Nat → Prop} {w : World} {E bd failed : Nat} {c : WC} {evs : List Ev} (h : Eng S w E bd failed c evs) : ∃ X n rl p m cp x0 x1 x2 x4, Kept1 (absP c.paths) c.win evs (lastT evs) rl ∧ rl.length = m ∧ n = evs.length ∧ m ≤ boundA c.rate (absP c.paths) ∧ Blk w E #[.int .i64 (bd : Nat), .int .i64 (failed : Nat), .pointer (some ⟨X, 0, none⟩)] 73 ∧ Blk w X #[x0, x1, x2, .int .i64 (n : Nat), x4, .slice p m cp] 110 := by
  obtain ⟨F, X, lo, sps, tv, rv, rs, h1, h2, h3, h4, h5⟩ := h
  obtain ⟨ra, rb, rc, er⟩ := row_form h2.heap.row
  have hrb : rb = rs.length := by
    rcases h2.heap.row.2 with ⟨e, h0⟩ | ⟨g, cap, cur, e, _⟩
    · rw [e] at er; cases er; exact h0.symm
    · rw [e] at er; cases er; rfl
  subst hrb
  have hxb := h2.heap.xb
  rw [er] at hxb
  exact ⟨X, evs.length, rs.map MRun.pl, ra, rs.length, rc, _, _, _, _, h3.kept, by simp, rfl, by have := h3.count; rwa [List.length_map] at this, h1, hxb⟩
theorem look_eng {S : Nat → Prop} {w : World} {E bd failed : Nat} {c : WC} {evs : List Ev} (h : Eng S w E bd failed c evs) :
    Calls Tryz.prog 16 #[.pointer (some ⟨E, 0, none⟩)] w fun x w' => ∃ m rl, Kept1 (absP c.paths) c.win evs (lastT evs) rl ∧ rl.length = m ∧ m ≤ boundA c.rate (absP c.paths) ∧ x = .returned (.agg #[.int .i64 (evs.length : Nat), .int .i64 (m : Nat), .int .i64 (bd : Nat), .int .i64 (failed : Nat)]) ∧ Below w.heap.size w w' := by
  obtain ⟨X, n, rl, p, m, cp, x0, x1, x2, x4, h1, h2, rfl, h3, h4, h5⟩ := h.runs
  refine (lookE_p h4 h5).mono ?_
  rintro x w' ⟨q1, q2⟩
  exact ⟨m, rl, h1, h2, h3, q1, q2⟩
inductive FeedA (w : World) (c : WC) (evs : List Ev) (e : Ev) (S' : Nat → Prop) : Nat → Ending → World → Nat → List Ev → Prop
  | failed {f : Nat} {w' : World} : f ≠ 0 → FeedA w c evs e S' f (.returned (.tuple #[.slice none 0 0, .int .i64 (f : Nat)])) w' f evs
  | fault {w' : World} : feedFP c.win c.rate evs e.time ≠ 0 → FeedA w c evs e S' 0 (.returned (.tuple #[.slice none 0 0, .int .i64 (feedFP c.win c.rate evs e.time : Nat)])) w' (feedFP c.win c.rate evs e.time) evs
  | ok {a : Option Addr} {n cc B : Nat} {ys : List VL} {w' : World} : feedFP c.win c.rate evs e.time = 0 → ListsAt B w' (.slice a n cc) ys → w.heap.size ≤ B → (∀ b, ((Value.slice a n cc).ownBlock = some b ∨ ∃ y ∈ ys, y.1.ownBlock = some b) → ¬ S' b) → SortedL (ys.map (·.2)) → (∀ t, t ∈ ys.map (·.2) ↔ MatchOK (absP c.paths) c.win (evs ++ [e]) t) → FeedA w c evs e S' 0 (.returned (.tuple #[.slice a n cc, .int .i64 0])) w' 0 (evs ++ [e])
theorem feed_eng {S : Nat → Prop} {w : World} {E bd failed : Nat} {c : WC} {evs : List Ev} (h : Eng S w E bd failed c evs) (hc : WellE c) (hel : evs.length ≤ 100000000) (e : Ev) (he : In64 e.time) :
    Calls Tryz.prog 27 #[.pointer (some ⟨E, 0, none⟩), evVal e] w fun x w' => ∃ S' f' evs', (∀ b, S' b → S b ∨ w.heap.size ≤ b) ∧ Chg S w w' ∧ FeedA w c evs e S' failed x w' f' evs' ∧ Eng S' w' E bd f' c evs' := by
  obtain ⟨F, X, lo, sps, tv, rv, rs, h1, h2, h3, h4, h5⟩ := h
  have hSE : S E := (h5 E).2 (.inr (.inl rfl))
  have hrn : rs.length ≤ 100000 := by have := h3.count; rw [List.length_map] at this; have := hc.bnd; omega
  have hEX : E ≠ X := blk_ne h1 h2.heap.xb (by decide)
  have hET : tv.ownBlock ≠ some E := blk_apart h1 h2.times (by decide)
  have hER : rv.ownBlock ≠ some E := blk_apart h1 h2.heap.row (by decide)
  have keepE : ∀ (w' : World) (f' : Nat), Blk w' E #[.int .i64 (bd : Nat), .int .i64 (f' : Nat), .pointer (some ⟨X, 0, none⟩)] 73 → Chg (fun b => b = E) w w' → Eng S w' E bd f' c evs := fun w' f' q1 q2 =>
    ⟨F, X, lo, sps, tv, rv, rs, q1, h2.to q2 (fun b k hF => h4 (k ▸ hF)) (fun k => hEX k.symm) (fun g hg k => hET (k ▸ hg)) (fun g hg k => hER (k ▸ hg)), h3, h4, h5⟩
  by_cases hf : failed = 0
  · subst hf
    by_cases hz : feedFP c.win c.rate evs e.time = 0
    · refine (feed_ok h1 h4 h2 hc.toWellC h3 (List.Perm.refl _) hrn hel e he hz).mono ?_
      rintro x w' ⟨a, n, cc, F', B, ys, sps', tv', rv', rs', W, rfl, q1, q2, w9, hT, q3⟩
      obtain ⟨hl, _⟩ := feedF0 hz
      have hWs := q2.size
      have hEl := h1.lt
      have hF'E : ¬ F' E := fun k => by rcases hT.fNew E k with k | k; exact h4 k; omega
      have hB := hT.above
      have hmid : ∀ b, (b = E ∨ (w.heap.size ≤ b ∧ b < W.heap.size)) → ¬ F' b := fun b k hF => by
        rcases k with rfl | ⟨k1, k2⟩
        · exact hF'E hF
        · rcases hT.fNew b hF with k | k
          · have := h2.heap.fl b k; omega
          · omega
      have hXl := h2.heap.xb.lt
      have hWM : WatchM F' w' X c (evs ++ [e]) (lo + passedP c.win e.time (timesP evs lo)) sps' tv' rv' rs' := hT.watch.to q3 hmid (fun k => by rcases k with k | k; exact hEX k.symm; omega) (fun g hg k => by
          rcases hT.tNew g hg with k2 | k2
          · rcases k with rfl | k
            · exact hET k2
            · have := (h2.times.lt g k2).2; omega
          · rcases k with k | k <;> omega) (fun g hg k => by
          rcases hT.rNew g hg with k2 | k2
          · rcases k with rfl | k
            · exact hER k2
            · have := (h2.heap.row.lt g k2).2; omega
          · rcases k with k | k <;> omega)
      refine ⟨fun b => F' b ∨ b = E ∨ b = X ∨ tv'.ownBlock = some b ∨ rv'.ownBlock = some b, 0, evs ++ [e], fun b hb => ?_, ?_, ?_, ⟨F', X, _, sps', tv', rv', rs', q1, hWM, ?_, hF'E, fun b => Iff.rfl⟩⟩
      · rcases hb with k | rfl | rfl | k | k
        · rcases hT.fNew b k with k | k
          · exact .inl ((h5 b).2 (.inl k))
          · exact .inr (by omega)
        · exact .inl hSE
        · exact .inl ((h5 _).2 (.inr (.inr (.inl rfl))))
        · rcases hT.tNew b k with k | k
          · exact .inl ((h5 b).2 (.inr (.inr (.inr (.inl k)))))
          · exact .inr (by omega)
        · rcases hT.rNew b k with k | k
          · exact .inl ((h5 b).2 (.inr (.inr (.inr (.inr k)))))
          · exact .inr (by omega)
      · refine ((Chg.below S q2).trans hT.chg (fun b _ k => ?_)).trans q3 (fun b hb k => ?_)
        · rcases k with rfl | k | k
          · exact (h5 _).2 (.inr (.inr (.inl rfl)))
          · exact (h5 b).2 (.inr (.inr (.inr (.inl k))))
          · exact (h5 b).2 (.inr (.inr (.inr (.inr k))))
        · rcases k with rfl | k
          · exact hSE
          · omega
      · have hblk : ∀ b, ((Value.slice a n cc).ownBlock = some b ∨ ∃ y ∈ ys, y.1.ownBlock = some b) → B ≤ b ∧ b < w9.heap.size ∧ rv'.ownBlock ≠ some b := fun b hb => by
          rcases hb with hb | ⟨y, hy, hb⟩
          · exact ⟨(hT.lists.row.lt b hb).1, (hT.lists.row.lt b hb).2, fun k => rows_apart hT.lists.row hT.watch.heap.row (by decide) b hb k⟩
          · exact ⟨((hT.lists.inner y hy).lt b hb).1, ((hT.lists.inner y hy).lt b hb).2, fun k => rows_apart (hT.lists.inner y hy) hT.watch.heap.row (by decide) b hb k⟩
        refine .ok hz (hT.lists.to (fun b hb => ?_)) (by omega) (fun b hb hS => ?_) hT.sorted (fun t => (hT.told t).trans (h3.told hc.win1 hl t))
        · obtain ⟨k1, k2, _⟩ := hblk b hb
          exact q3.at b k2 (fun k => by rcases k with k | k <;> omega)
        · obtain ⟨k1, k2, k3⟩ := hblk b hb
          rcases hS with k | k | k | k | k
          · have := hT.fLt b k; omega
          · omega
          · omega
          · have := hT.tLt b k; omega
          · exact k3 k
      · exact (h3.next hc.win1 he hz).perm hT.runs
    · refine (feed_fault h1 h2 hc.toWellC h3 e he hz).mono ?_
      rintro x w' ⟨rfl, q1, q2⟩
      exact ⟨S, _, evs, fun b hb => .inl hb, q2.mono (fun b _ k => k ▸ hSE), .fault hz, keepE w' _ q1 q2⟩
  · refine (feed_failed h1 hf e).mono ?_
    rintro x w' ⟨rfl, q1, q2⟩
    exact ⟨S, failed, evs, fun b hb => .inl hb, q2.mono (fun b _ k => k ▸ hSE), .failed hf, keepE w' _ q1 q2⟩
end Go.Proofs.YtddbjcfdmdbmkaaGreatDoor

namespace Go.Proofs.YtddbjcfdmdbmkaaGreatDoor
open Go.RowKit

theorem compile_eng0 (s : ByteArray) (w : World) {pat : PPat} {bd : Nat} {ps : List (List PPart)} (h : herP s = .inl (pat, bd, ps)) (hok : ps.length ≤ 1000 ∧ ∀ l ∈ ps, l.length ≤ 100000 ∧ l ≠ [] ∧ ∀ p ∈ l, p.cond.length ≤ 1000000) :
    Calls Tryz.prog 15 #[.string s] w fun x w' => ∃ E S pv svs, x = .returned (.tuple #[.pointer (some ⟨E, 0, none⟩), .int .i64 0, .int .i64 0]) ∧ Below w.heap.size w w' ∧ (∀ b, S b → w.heap.size ≤ b) ∧ Eng S w' E bd 0 ⟨pat.window, pat.rate, pv, ps.map stepsP, svs⟩ [] := by
  refine (compileE_p s w (fun _ _ _ e => by rw [h] at e; cases e; exact hok) (fun _ _ e => by rw [h] at e; cases e)).mono ?_
  rintro x w' ⟨v, rfl, hb, hpost⟩
  rw [h] at hpost
  obtain ⟨E, X, a, n, c, rfl, h1, h2, h3, h4, h5, h6⟩ := hpost
  obtain ⟨svs, k1, k2, k3, k4⟩ := h6
  have hEl := h4.lt
  have hXl := h5.lt
  have hk : KeepS (fun b => w.heap.size ≤ b ∧ b ≠ X ∧ b ≠ E) w' (fun b => w.heap.size ≤ b ∧ b < w'.heap.size ∧ b ≠ X ∧ b ≠ E) w' := fun b hb hl => ⟨⟨hb.1, hl, hb.2⟩, rfl⟩
  refine ⟨E, fun b => (w.heap.size ≤ b ∧ b < w'.heap.size ∧ b ≠ X ∧ b ≠ E) ∨ b = E ∨ b = X ∨ (Value.slice none 0 0).ownBlock = some b ∨ (Value.slice none 0 0).ownBlock = some b, .slice a n c, svs, rfl, hb, fun b hb => ?_, fun b => w.heap.size ≤ b ∧ b < w'.heap.size ∧ b ≠ X ∧ b ≠ E, X, 0, [], .slice none 0 0, .slice none 0 0, [], h4, ⟨⟨⟨h5, World.ownsRow_nil _ _ _ _, fun b hb => hb.2.1, fun k => k.2.2.1 rfl, fun g hg => by simp [Value.ownBlock] at hg, fun r hr => by simp at hr, fun r hr => by simp at hr⟩, fun cc _ hc => by simp at hc⟩, World.ownsRow_nil _ _ _ _, fun g hg => by simp [Value.ownBlock] at hg, ⟨k1, k2, fun g hg => (hk g (k3 g hg) (k2.lt g hg).2).1, fun i p1 p2 => (k4 i p1 p2).to hk⟩, ⟨rfl, fun i hi => by simp at hi⟩, fun r hr => by simp at hr⟩, WatchP.start _, fun k => k.2.2.2 rfl, fun b => Iff.rfl⟩
  rcases hb with k | rfl | rfl | k | k
  · exact k.1
  · exact h1
  · exact h2
  · simp [Value.ownBlock] at k
  · simp [Value.ownBlock] at k
end Go.Proofs.YtddbjcfdmdbmkaaGreatDoor

namespace Go.Proofs.YtddbjcfdmdbmkaaGreatDoor
open Go.RowKit

def bindB (names : List ByteArray) (o : BOp) : ByteArray × Nat := (o.1, if isFieldB o.1 then stepOfP o.2.2 names else o.2.1)
def askL (names : List ByteArray) (x : Lf) : WWant := ⟨x.kind, x.cond.map (bindB (names ++ [x.name]))⟩
def accL (a : WAcc) (x : Lf) : WAcc :=
  if x.step then ⟨a.steps ++ [⟨askL a.names x, a.guards⟩], a.names ++ [x.name], []⟩ else ⟨a.steps, a.names, a.guards ++ [askL a.names x]⟩
def stepsL (E : List Lf) : List WStep := (E.foldl accL ⟨[], [], []⟩).steps
theorem ask_bare (names : List ByteArray) (p : PPart) : askP names p = askL names p.bare := by
  unfold askP askL PPart.bare
  rw [List.map_map]
  rfl
theorem acc_bare (a : WAcc) (p : PPart) : accP a p = accL a p.bare := by
  unfold accP accL
  rw [step_bare, ask_bare]
  rfl
theorem steps_bare (l : List PPart) : stepsP l = stepsL (l.map PPart.bare) := by
  unfold stepsP stepsAcc stepsL
  rw [List.take_length]
  generalize (⟨[], [], []⟩ : WAcc) = a
  induction l generalizing a with
  | nil => rfl
  | cons p l ih => rw [List.foldl_cons, List.map_cons, List.foldl_cons, ← acc_bare]; exact ih _
def wellA : List BOp → Nat → Bool
  | [], h => decide (1 ≤ h)
  | o :: l, h => decide (arityP (o.1, 0) ≤ h) && wellA l (h - arityP (o.1, 0) + 1)
theorem do_len (es : List Ev) (it : Ev) (s : List Int × Bool) (o : ByteArray × Nat) (h : arityP o ≤ s.1.length) : (doP es it s o).1.length = s.1.length - arityP o + 1 := by
  unfold arityP at h ⊢
  unfold doP
  generalize o.1.toList = t at *
  by_cases h1 : (t == [112, 117, 115, 104]) = true
  · simp [h1]
  by_cases h2 : (t == [97]) = true
  · simp [h1, h2]
  by_cases h3 : (t == [98]) = true
  · simp [h1, h2, h3]
  by_cases h4 : (t == [99]) = true
  · simp [h1, h2, h3, h4]
  by_cases h5 : (t == [116]) = true
  · simp [h1, h2, h3, h4, h5]
  by_cases h6 : (t == [111, 112, 112, 111, 115, 105, 116, 101]) = true
  · simp [h1, h2, h3, h4, h5, h6]
  · simp [h1, h2, h3, h4, h5, h6] at h ⊢
    omega
theorem well_run {ops : List (ByteArray × Nat)} {bo : List BOp} (e : ops.map (·.1) = bo.map (·.1)) (hl : bo.length ≤ 10000) (h : bo = [] ∨ wellA bo 0 = true) : WellRun ops := by
  have hlen : ops.length = bo.length := by have := congrArg List.length e; simpa using this
  have key : ∀ (es : List Ev) (it : Ev) (bo : List BOp) (ops : List (ByteArray × Nat)) (s : List Int × Bool), ops.map (·.1) = bo.map (·.1) → wellA bo s.1.length = true → (∀ k, (h : k < ops.length) → arityP ops[k] ≤ ((ops.take k).foldl (doP es it) s).1.length) ∧ 1 ≤ (ops.foldl (doP es it) s).1.length := by
    intro es it bo
    induction bo with
    | nil =>
      intro ops s e h
      have : ops = [] := by simpa using e
      subst this
      exact ⟨fun k h => by simp at h, by simpa [wellA] using h⟩
    | cons o bo ih =>
      intro ops s e h
      cases ops with
      | nil => simp at e
      | cons x ops =>
        simp only [List.map_cons, List.cons.injEq] at e
        have ha : arityP x = arityP (o.1, 0) := by unfold arityP; rw [e.1]
        unfold wellA at h
        rw [Bool.and_eq_true, decide_eq_true_eq, ← ha] at h
        have hd := do_len es it s x h.1
        obtain ⟨r1, r2⟩ := ih ops (doP es it s x) e.2 (by rw [hd]; exact h.2)
        refine ⟨fun k hk => ?_, by rw [List.foldl_cons]; exact r2⟩
        cases k with
        | zero => simpa using h.1
        | succ k =>
          have := r1 k (by simpa using hk)
          simpa using this
  rcases h with rfl | h
  · have : ops = [] := by simpa using e
    subst this
    exact ⟨by simp, fun _ _ k h => by simp at h, fun _ _ h => by simp at h⟩
  · refine ⟨by omega, fun es it k hk => ?_, fun es it _ => ?_⟩
    · unfold runP
      exact (key es it bo ops ([], false) e h).1 k hk
    · unfold runP
      rw [List.take_length]
      exact (key es it bo ops ([], false) e h).2
def okC (E : List Lf) : Bool := E.all fun x => decide (x.cond.length ≤ 1000) && (x.cond.isEmpty || wellA x.cond 0)
theorem ask_well {names : List ByteArray} {x : Lf} (h : (decide (x.cond.length ≤ 1000) && (x.cond.isEmpty || wellA x.cond 0)) = true) : WellRun (askL names x).cond := by
  simp only [Bool.and_eq_true, decide_eq_true_eq, Bool.or_eq_true, List.isEmpty_iff] at h
  refine well_run (bo := x.cond) ?_ (by omega) h.2
  unfold askL
  simp only [List.map_map]
  rfl
theorem acc_well (E : List Lf) (h : okC E = true) : ∀ (a : WAcc) (k : Nat), (∀ s ∈ a.steps, WellRun s.want.cond ∧ (∀ g ∈ s.guards, WellRun g.cond) ∧ s.guards.length ≤ k) → (∀ g ∈ a.guards, WellRun g.cond) → a.guards.length ≤ k → (∀ s ∈ (E.foldl accL a).steps, WellRun s.want.cond ∧ (∀ g ∈ s.guards, WellRun g.cond) ∧ s.guards.length ≤ k + E.length) ∧ (E.foldl accL a).steps.length = a.steps.length + cntL E := by
  induction E with
  | nil => intro a k h1 h2 h3; exact ⟨h1, rfl⟩
  | cons x E ih =>
    intro a k h1 h2 h3
    unfold okC at h
    rw [List.all_cons, Bool.and_eq_true] at h
    have hx := ask_well (names := a.names) h.1
    rw [List.foldl_cons]
    cases hs : x.step with
    | true =>
      have ea : accL a x = ⟨a.steps ++ [⟨askL a.names x, a.guards⟩], a.names ++ [x.name], []⟩ := by unfold accL; rw [hs, if_pos rfl]
      rw [ea]
      obtain ⟨r1, r2⟩ := ih h.2 ⟨a.steps ++ [⟨askL a.names x, a.guards⟩], a.names ++ [x.name], []⟩ (k + 1) (fun s hs => by
        rcases List.mem_append.1 hs with hs | hs
        · exact ⟨(h1 s hs).1, (h1 s hs).2.1, by have := (h1 s hs).2.2; omega⟩
        · rw [List.mem_singleton.1 hs]; exact ⟨hx, h2, by simp only; omega⟩) (fun g hg => by simp at hg) (by simp)
      refine ⟨fun s hs => ⟨(r1 s hs).1, (r1 s hs).2.1, by have := (r1 s hs).2.2; rw [List.length_cons]; omega⟩, ?_⟩
      rw [r2]
      unfold cntL
      rw [List.filter_cons_of_pos hs]
      simp; omega
    | false =>
      have ea : accL a x = ⟨a.steps, a.names, a.guards ++ [askL a.names x]⟩ := by unfold accL; rw [hs, if_neg (by decide)]
      rw [ea]
      obtain ⟨r1, r2⟩ := ih h.2 ⟨a.steps, a.names, a.guards ++ [askL a.names x]⟩ (k + 1) (fun s hs => ⟨(h1 s hs).1, (h1 s hs).2.1, by have := (h1 s hs).2.2; omega⟩) (fun g hg => by
        rcases List.mem_append.1 hg with hg | hg
        · exact h2 g hg
        · rw [List.mem_singleton.1 hg]; exact hx) (by simp; omega)
      refine ⟨fun s hs => ⟨(r1 s hs).1, (r1 s hs).2.1, by have := (r1 s hs).2.2; rw [List.length_cons]; omega⟩, ?_⟩
      rw [r2]
      unfold cntL
      rw [List.filter_cons_of_neg (by simp [hs])]
theorem steps_well {E : List Lf} (h : okC E = true) (hl : E.length ≤ 1000) : (∀ s ∈ stepsL E, WellS s) ∧ (stepsL E).length = cntL E := by
  obtain ⟨r1, r2⟩ := acc_well E h ⟨[], [], []⟩ 0 (fun s hs => by simp at hs) (fun g hg => by simp at hg) (by simp)
  refine ⟨fun s hs => ⟨(r1 s hs).1, (r1 s hs).2.1, ?_⟩, by unfold stepsL; rw [r2]; simp⟩
  have := (r1 s hs).2.2
  omega
end Go.Proofs.YtddbjcfdmdbmkaaGreatDoor

namespace Go.Proofs.YtddbjcfdmdbmkaaGreatDoor
open Go.RowKit

structure TextOK (S : ByteArray) (W R bd : Nat) (paths : List (List WStep)) : Prop where
  her : ∃ body ps, herP S = .inl (⟨W, R, body⟩, bd, ps) ∧ ps.map stepsP = paths ∧ ps.length ≤ 1000 ∧ ∀ l ∈ ps, l.length ≤ 100000 ∧ l ≠ [] ∧ ∀ p ∈ l, p.cond.length ≤ 1000000
  well : ∀ pv svs, WellE ⟨W, R, pv, paths, svs⟩
  bnd : boundA R (absP paths) = bd
def okX (xs : List Lf) : Bool := okF xs && okC (rowL xs) && decide ((rowL xs).length ≤ 1000) && decide (1 ≤ cntL (rowL xs)) && decide (cntL (rowL xs) ≤ 8)
theorem okX_parts {xs : List Lf} (h : okX xs = true) : okF xs = true ∧ okC (rowL xs) = true ∧ (rowL xs).length ≤ 1000 ∧ 1 ≤ cntL (rowL xs) ∧ cntL (rowL xs) ≤ 8 := by
  unfold okX at h
  simp only [Bool.and_eq_true, decide_eq_true_eq] at h
  exact ⟨h.1.1.1.1, h.1.1.1.2, h.1.1.2, h.1.2, h.2⟩
theorem most_le : ((List.range 13).all fun r => (List.range 9).all fun s => decide (mostP r s ≤ 3301)) = true := by kernel_rfl
theorem mostP_le {r s : Nat} (hr : r ≤ 12) (hs : s ≤ 8) : mostP r s ≤ 3301 := by
  have := List.all_eq_true.1 most_le r (List.mem_range.2 (by omega))
  have := List.all_eq_true.1 this s (List.mem_range.2 (by omega))
  simpa using this
theorem row_okay {xs : List Lf} {ps : List PPart} (h : Flat xs ps) (hx : okX xs = true) : (ps.flatMap expP).length ≤ 100000 ∧ ps.flatMap expP ≠ [] ∧ ∀ p ∈ ps.flatMap expP, p.cond.length ≤ 1000000 := by
  obtain ⟨_, h2, h3, h4, _⟩ := okX_parts hx
  have e := row_bare ps
  rw [h.1] at e
  have hl : (rowL xs).length = (ps.flatMap expP).length := by rw [← e, List.length_map]
  refine ⟨by omega, fun hn => ?_, fun p hp => ?_⟩
  · rw [hn] at e
    rw [← e] at h4
    simp [cntL] at h4
  · unfold okC at h2
    rw [List.all_eq_true] at h2
    have := h2 p.bare (e ▸ List.mem_map_of_mem hp)
    simp only [Bool.and_eq_true, decide_eq_true_eq] at this
    have h5 := this.1
    unfold PPart.bare at h5
    simp only [List.length_map] at h5
    omega
theorem row_steps {xs : List Lf} {ps : List PPart} (h : Flat xs ps) : stepsP (ps.flatMap expP) = stepsL (rowL xs) := by
  rw [steps_bare, row_bare, h.1]
theorem bound_one {R : Nat} {xs : List Lf} (hR : R ≤ 12) (hx : okX xs = true) : sumCho R (((stepsL (rowL xs)).map stepA).length - 1) = mostP R (cntL (rowL xs)) := by
  obtain ⟨_, h2, h3, h4, h5⟩ := okX_parts hx
  rw [List.length_map, (steps_well h2 h3).2]
  exact sumCho_most hR (by omega)
theorem text_flat {S : ByteArray} {m : Nat} {g W R : List UInt8} {L : List Pc} {xs : List Lf} (hS : S.data.toList = layL (headPc g W R ++ L)) (hok : okN 0 (headPc g W R ++ L) = true) (hz : S.size ≤ 600) (hm : m ≤ 8) (hW : 1 ≤ numVal (txt W) ∧ numVal (txt W) ≤ 1000000) (hR : 1 ≤ numVal (txt R) ∧ numVal (txt R) ≤ 12) (hL : 3 ≤ L.length) (hQ : ∀ n, RdQ m (n + 8) L xs) (hx : okX xs = true) :
    TextOK S (numVal (txt W)) (numVal (txt R)) (mostP (numVal (txt R)) (cntL (rowL xs))) [stepsL (rowL xs)] := by
  obtain ⟨h1, h2, h3, h4, h5⟩ := okX_parts hx
  have hb := mostP_le hR.2 h5
  obtain ⟨body, hf, hh⟩ := her_flat hS hok hz hm hW hR hL hQ h1 (by omega)
  have hbd : boundA (numVal (txt R)) (absP [stepsL (rowL xs)]) = mostP (numVal (txt R)) (cntL (rowL xs)) := by
    unfold boundA absP
    simp only [List.map_cons, List.map_nil, List.sum_cons, List.sum_nil, Nat.add_zero]
    exact bound_one hR.2 hx
  have hw := steps_well h2 h3
  refine ⟨⟨body, _, hh, by rw [List.map_cons, row_steps hf, List.map_nil], by simp, fun l hl => ?_⟩, fun pv svs => ⟨⟨hW.1, hW.2, by show numVal (txt R) ≤ 1000; omega, fun p hp s hs => ?_, fun p hp => ?_, by simp⟩, by show boundA (numVal (txt R)) (absP [stepsL (rowL xs)]) ≤ 4000; omega⟩, hbd⟩
  · rw [List.mem_singleton.1 hl]; exact row_okay hf hx
  · rw [List.mem_singleton.1 hp] at hs; exact hw.1 s hs
  · rw [List.mem_singleton.1 hp, hw.2]; omega
theorem text_two {S : ByteArray} {m : Nat} {g W R : List UInt8} {L : List Pc} {xs ys : List Lf} (hS : S.data.toList = layL (headPc g W R ++ L)) (hok : okN 0 (headPc g W R ++ L) = true) (hz : S.size ≤ 600) (hm : m ≤ 8) (hW : 1 ≤ numVal (txt W) ∧ numVal (txt W) ≤ 1000000) (hR : 1 ≤ numVal (txt R) ∧ numVal (txt R) ≤ 12) (hL : 3 ≤ L.length) (hQ : ∀ n, RdG m (n + 8) L (TwoB xs ys)) (hx : okX xs = true) (hy : okX ys = true) (hb : mostP (numVal (txt R)) (cntL (rowL xs)) + mostP (numVal (txt R)) (cntL (rowL ys)) ≤ 4000) :
    TextOK S (numVal (txt W)) (numVal (txt R)) (mostP (numVal (txt R)) (cntL (rowL xs)) + mostP (numVal (txt R)) (cntL (rowL ys))) [stepsL (rowL xs), stepsL (rowL ys)] := by
  obtain ⟨h1, h2, h3, h4, h5⟩ := okX_parts hx
  obtain ⟨g1, g2, g3, g4, g5⟩ := okX_parts hy
  obtain ⟨body, a, b, hf, hf2, hh⟩ := her_two hS hok hz hm hW hR hL hQ h1 g1 hb
  have hbd : boundA (numVal (txt R)) (absP [stepsL (rowL xs), stepsL (rowL ys)]) = mostP (numVal (txt R)) (cntL (rowL xs)) + mostP (numVal (txt R)) (cntL (rowL ys)) := by
    unfold boundA absP
    simp only [List.map_cons, List.map_nil, List.sum_cons, List.sum_nil, Nat.add_zero]
    rw [bound_one hR.2 hx, bound_one hR.2 hy]
  have hw := steps_well h2 h3
  have hv := steps_well g2 g3
  refine ⟨⟨body, _, hh, by rw [List.map_cons, List.map_cons, row_steps hf, row_steps hf2, List.map_nil], by simp, fun l hl => ?_⟩, fun pv svs => ⟨⟨hW.1, hW.2, by show numVal (txt R) ≤ 1000; omega, fun p hp s hs => ?_, fun p hp => ?_, by simp⟩, by show boundA (numVal (txt R)) (absP [stepsL (rowL xs), stepsL (rowL ys)]) ≤ 4000; omega⟩, hbd⟩
  · simp only [List.mem_cons, List.not_mem_nil, or_false] at hl
    rcases hl with rfl | rfl
    · exact row_okay hf hx
    · exact row_okay hf2 hy
  · simp only [List.mem_cons, List.not_mem_nil, or_false] at hp
    rcases hp with rfl | rfl
    · exact hw.1 s hs
    · exact hv.1 s hs
  · simp only [List.mem_cons, List.not_mem_nil, or_false] at hp
    rcases hp with rfl | rfl
    · rw [hw.2]; omega
    · rw [hv.2]; omega
theorem compile_text {S : ByteArray} {W R bd : Nat} {paths : List (List WStep)} (h : TextOK S W R bd paths) (w : World) :
    Calls Tryz.prog 15 #[.string S] w fun x w' => ∃ E Z pv svs, x = .returned (.tuple #[.pointer (some ⟨E, 0, none⟩), .int .i64 0, .int .i64 0]) ∧ Below w.heap.size w w' ∧ (∀ b, Z b → w.heap.size ≤ b) ∧ Eng Z w' E bd 0 ⟨W, R, pv, paths, svs⟩ [] := by
  obtain ⟨body, ps, h1, rfl, h3, h4⟩ := h.her
  exact compile_eng0 S w h1 ⟨h3, h4⟩
end Go.Proofs.YtddbjcfdmdbmkaaGreatDoor
