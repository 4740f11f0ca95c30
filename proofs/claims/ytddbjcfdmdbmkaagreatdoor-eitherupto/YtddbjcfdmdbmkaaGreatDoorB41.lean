import Derived.Test.YtddbjcfdmdbmkaaGreatDoorB40
set_option linter.unusedVariables false
set_option linter.unusedSimpArgs false
namespace Go.Proofs.YtddbjcfdmdbmkaaGreatDoor
open Go.RowKit

theorem IntsAt.drewN {w : World} {v : Value} {l : List Nat} (h : IntsAt w v l) {w' : World} (e : w'.heap = w.heap) : IntsAt w' v l := by
  obtain ⟨a, c, e1, hc⟩ := h
  refine ⟨a, c, e1, fun h0 => ?_⟩
  obtain ⟨g, e2, hg, hk⟩ := hc h0
  exact ⟨g, e2, by rw [e]; exact hg, fun k hk' => (cell_eq (by rw [e]) k).trans (hk k hk')⟩
set_option maxRecDepth 100000 in
set_option maxHeartbeats 1600000 in
theorem same_p {w : World} {va vb : Value} {xs : List (List Nat)} (ha : ListsR w va xs) (hb : ListsR w vb xs) (hl : xs.length ≤ maxLen) (hi : ∀ y ∈ xs, y.length ≤ maxLen) :
    Calls Tryz.prog 32 #[va, vb] w fun x w' => x = .returned (.bool true) ∧ ∃ q, w' = w.drewN q := by
  obtain ⟨aa, ac, rfl, hac⟩ := ha.form
  obtain ⟨ba, bc, rfl, hbc⟩ := hb.form
  clear ha hb
  unfold maxLen at hl hi
  go_enter Tryz.func32, Tryz.ntmps32
  go_wp2
  go_loopw [5] (fun i wr => ∃ k : Nat, k ≤ xs.length ∧ i = .int .i64 k ∧ ∃ q, wr = w.drewN q) (fun i _ => xs.length - (intOf i).toNat)
  case atStart => exact ⟨0, Nat.zero_le _, rfl, 0, rfl⟩
  case round =>
    obtain ⟨k, hk, rfl, q, hq⟩ := hrel
    have hh : wr.heap = w.heap := by rw [hq]; rfl
    have HBel : Hid (∀ w2 : World, (∃ n, w2 = wr.drewN n) → ∃ q, w2 = w.drewN q) := fun w2 hn => by
      obtain ⟨n, rfl⟩ := hn
      exact ⟨q + n, by rw [hq]; simp [World.drewN, Nat.add_assoc]⟩
    clear hq
    obtain ⟨wo, hwo⟩ : ∃ x, x = wr := ⟨_, rfl⟩
    by_cases hlt : k < xs.length
    · obtain ⟨g, rfl, hg, hc⟩ := hac (by omega)
      obtain ⟨g2, rfl, hg2, hc2⟩ := hbc (by omega)
      obtain ⟨u, hcu, hu⟩ := hc k hlt
      obtain ⟨u2, hcu2, hu2⟩ := hc2 k hlt
      have hml := hi _ (List.getElem_mem hlt)
      obtain ⟨ua, uc, rfl, huc⟩ := hu
      obtain ⟨ub, ud, rfl, hud⟩ := hu2
      generalize xs[k] = y at *
      have e1 : wr.cell? ⟨g, k, none⟩ = some (.slice ua y.length uc) := (cell_eq (by rw [hh]) k).trans hcu
      have e2 : wr.cell? ⟨g2, k, none⟩ = some (.slice ub y.length ud) := (cell_eq (by rw [hh]) k).trans hcu2
      have gl : g < wr.heap.size := by rw [hh]; exact hg
      have gl2 : g2 < wr.heap.size := by rw [hh]; exact hg2
      have hki : (k : Int) < (xs.length : Int) := by omega
      have hk0 : (0 : Int) ≤ (k : Int) := by omega
      clear hc hc2 hac hbc hcu hcu2 hi
      go_wp2
      go_quiet (fail)
      go_wp2
      subst hwo
      go_loopw [6] (fun j wi => ∃ m : Nat, m ≤ y.length ∧ j = .int .i64 m ∧ ∃ q, wi = wo.drewN q) (fun j _ => y.length - (intOf j).toNat)
      case atStart => exact ⟨0, Nat.zero_le _, rfl, _, rfl⟩
      case round =>
        obtain ⟨m, hm, rfl, q2, hq2⟩ := hrel
        have hh2 : wr.heap = wo.heap := by rw [hq2]; rfl
        have HB2 : Hid (∀ n, ∃ q, wr.drewN n = wo.drewN q) := fun n => ⟨q2 + n, by rw [hq2]; simp [World.drewN, Nat.add_assoc]⟩
        clear hq2
        have e3 : wr.cell? ⟨g, k, none⟩ = some (.slice ua y.length uc) := (cell_eq (by rw [hh2]) k).trans e1
        have e4 : wr.cell? ⟨g2, k, none⟩ = some (.slice ub y.length ud) := (cell_eq (by rw [hh2]) k).trans e2
        have gl3 : g < wr.heap.size := by rw [hh2]; exact gl
        have gl4 : g2 < wr.heap.size := by rw [hh2]; exact gl2
        by_cases hmt : m < y.length
        · obtain ⟨f, rfl, hf, hfc⟩ := huc (by omega)
          obtain ⟨f2, rfl, hf2, hfc2⟩ := hud (by omega)
          have e5 : wr.cell? ⟨f, m, none⟩ = some (.int .i64 (y[m] : Nat)) := (cell_eq (by rw [hh2, hh]) m).trans (hfc m hmt)
          have e6 : wr.cell? ⟨f2, m, none⟩ = some (.int .i64 (y[m] : Nat)) := (cell_eq (by rw [hh2, hh]) m).trans (hfc2 m hmt)
          have fl : f < wr.heap.size := by rw [hh2, hh]; exact hf
          have fl2 : f2 < wr.heap.size := by rw [hh2, hh]; exact hf2
          have hmi : (m : Int) < (y.length : Int) := by omega
          have hm0 : (0 : Int) ≤ (m : Int) := by omega
          clear hfc hfc2 huc hud hh hh2 e1 e2 gl gl2 hg hg2
          generalize y[m] = z at *
          go_wp2
          go_quiet (fail)
          go_wp2
          go_roundw
          case rel => exact ⟨m + 1, hmt, by go_num, HB2.out _⟩
          case measure => simp [intOf]; omega
        · have em : m = y.length := by omega
          subst em
          clear huc hud hh hh2 e1 e2 gl gl2 hg hg2
          go_wp2
          go_roundw
          case rel => exact ⟨k + 1, hlt, by go_num, HBel.out _ (HB2.out 0)⟩
          case measure => simp [intOf]; omega
    · have ek : k = xs.length := by omega
      subst ek
      clear hac hbc hh
      go_wp2
      go_ret
      exact ⟨rfl, HBel.out _ ⟨0, rfl⟩⟩
end Go.Proofs.YtddbjcfdmdbmkaaGreatDoor

namespace Go.Proofs.YtddbjcfdmdbmkaaGreatDoor
open Go.RowKit

def FedOK (S : Nat → Prop) (w : World) (E bd : Nat) (c : WC) (evs : List Ev) (e : Ev) (S' : Nat → Prop) (v : Value) (ys : List (List Nat)) (w' : World) : Prop :=
  (∀ b, S' b → S b ∨ w.heap.size ≤ b) ∧ Chg S w w' ∧ (∃ B xs, ListsAt B w' v xs ∧ w.heap.size ≤ B ∧ (∀ b, (v.ownBlock = some b ∨ ∃ y ∈ xs, y.1.ownBlock = some b) → ¬ S' b) ∧ xs.map (·.2) = ys) ∧ SortedL ys ∧ (∀ t, t ∈ ys ↔ MatchOK (absP c.paths) c.win (evs ++ [e]) t) ∧ Eng S' w' E bd 0 c (evs ++ [e])
set_option maxRecDepth 100000 in
set_option maxHeartbeats 1600000 in
theorem feedK_p {S : Nat → Prop} {w : World} {E bd : Nat} {c : WC} {evs : List Ev} (h : Eng S w E bd 0 c evs) (hc : WellE c) (hel : evs.length ≤ 100000000) (e : Ev) (he : In64 e.time) (hz : feedFP c.win c.rate evs e.time = 0) :
    Calls Tryz.prog 26 #[.pointer (some ⟨E, 0, none⟩), evVal e] w fun x w' => ∃ S' v ys, x = .returned (.tuple #[v, .bool true]) ∧ FedOK S w E bd c evs e S' v ys w' := by
  have hN := Blk.new w #[.int .i64 e.time, .int .i64 e.kind, .int .i64 e.a, .int .i64 e.b, .int .i64 e.c] 44
  have hch : Chg (fun _ => False) w (w.alloc (.cells #[.int .i64 e.time, .int .i64 e.kind, .int .i64 e.a, .int .i64 e.b, .int .i64 e.c] 44)) := (Chg.refl _ w).alloc _
  have hlt := h.lt
  have h1 := h.to hch (fun _ k => k.elim)
  unfold evVal
  go_enter Tryz.func26, Tryz.ntmps26
  go_upto_region 1 with fail
  generalize w.alloc (.cells #[.int .i64 e.time, .int .i64 e.kind, .int .i64 e.a, .int .i64 e.b, .int .i64 e.c] 44) = W at *
  have v0 := hN.cell 0; have v1 := hN.cell 1; have v2 := hN.cell 2; have v3 := hN.cell 3; have v4 := hN.cell 4; have l3 := hN.lt
  simp at v0 v1 v2 v3 v4
  have hf := feed_go h1 hc hel e he hz
  unfold evVal at hf
  go_wp2_with (first
    | (go_at_call 27; refine hf.mono ?_; rintro x1 w1 ⟨S', v, B, ys, rfl, q1, q2, q3, q4, q5, q6, q7, q8⟩))
  have hs := hch.size
  refine bodyPost_ret (v := .tuple #[v, .bool true]) (by simp [results, Tryz.results26, go_sem]) rfl ⟨S', v, _, rfl, fun b hb => ?_, (hch.mono (fun b _ k => k.elim)).trans q2 (fun b _ k => k), ⟨B, ys, q3, by omega, q5, rfl⟩, q6, q7, q8⟩
  rcases q1 b hb with k | k
  · exact .inl k
  · exact .inr (by omega)
end Go.Proofs.YtddbjcfdmdbmkaaGreatDoor

namespace Go.Proofs.YtddbjcfdmdbmkaaGreatDoor
open Go.RowKit

def headB (W R : Nat) : ByteArray := ⟨#[119, 105, 116, 104, 105, 110, 32]⟩ ++ txt (decL W) ++ ⟨#[32, 114, 97, 116, 101, 32]⟩ ++ txt (decL R) ++ ⟨#[32]⟩
theorem txt_size (l : List UInt8) : (txt l).size = l.length := by show l.toArray.size = _; simp
set_option maxRecDepth 100000 in
set_option maxHeartbeats 1600000 in
theorem head_p (W R : Nat) (hW : W ≤ 999999999) (hR : R ≤ 999999999) (w : World) : Calls Tryz.prog 22 #[.int .i64 W, .int .i64 R] w fun e w' => e = .returned (.string (headB W R)) ∧ w' = w := by
  have h1 := dec_len 8 W (by omega)
  have h2 := dec_len 8 R (by omega)
  have hdec : ∀ n : Nat, n ≤ 999999999 → ∀ w1, Calls Tryz.prog 33 #[.int .i64 n] w1 fun e w' => e = .returned (.string (txt (decL n))) ∧ w' = w1 := fun n h w1 => decimal_p n (by omega) w1
  rw [← txt_size] at h1 h2
  unfold headB
  have g1 : ¬ 9223372036854775807 < 7 + (txt (decL W)).size := by omega
  have g2 : ¬ 9223372036854775807 < 7 + (txt (decL W)).size + 6 := by omega
  have g3 : ¬ 9223372036854775807 < 7 + (txt (decL W)).size + 6 + (txt (decL R)).size := by omega
  have g4 : ¬ 9223372036854775807 < 7 + (txt (decL W)).size + 6 + (txt (decL R)).size + 1 := by omega
  clear h1 h2
  go_enter Tryz.func22, Tryz.ntmps22
  go_wp2_with (first
    | (go_at_call 33; refine (hdec _ (by assumption) _).mono ?_; rintro x1 w1 ⟨rfl, rfl⟩))
  go_ret
  exact ⟨rfl, rfl⟩
def nameB (i : Nat) : UInt8 := UInt8.ofNat (117 + i)
set_option maxRecDepth 100000 in
set_option maxHeartbeats 1600000 in
theorem name_p (i : Nat) (hi : i < 6) (w : World) : Calls Tryz.prog 23 #[.int .i64 i] w fun e w' => e = .returned (.string (txt [nameB i])) ∧ Below w.heap.size w w' := by
  match i, hi with
  | 0, _ | 1, _ | 2, _ | 3, _ | 4, _ | 5, _ =>
    go_enter Tryz.func23, Tryz.ntmps23
    go_wp2
    go_ret
    exact ⟨rfl, (Below.refl _ w).alloc (Nat.le_refl _) _⟩
def accN (n : Nat) : Nat → Nat
  | 0 => 1
  | i + 1 => accN n i * (n - i) / (i + 1)
theorem acc_tab : ((List.range 10).all fun n => (List.range 6).all fun i => decide (accN n i ≤ 200) && decide (n < i → accN n i = 0) && decide ((if n < i then 0 else accN n i) = cho n i)) = true := by kernel_rfl
theorem acc_at {n i : Nat} (hn : n ≤ 9) (hi : i ≤ 5) : accN n i ≤ 200 ∧ (n < i → accN n i = 0) ∧ (if n < i then 0 else accN n i) = cho n i := by
  have := List.all_eq_true.1 acc_tab n (List.mem_range.2 (by omega))
  have := List.all_eq_true.1 this i (List.mem_range.2 (by omega))
  simp only [Bool.and_eq_true, decide_eq_true_eq] at this
  exact ⟨this.1.1, this.1.2, this.2⟩
theorem acc_mul {n i : Nat} (hn : n ≤ 9) (hi : i ≤ 5) : (accN n i : Int) * ((n : Int) - (i : Int)) = ((accN n i * (n - i) : Nat) : Int) := by
  by_cases h : n < i
  · rw [(acc_at hn hi).2.1 h]; simp
  · rw [Int.natCast_mul]
    congr 1
    omega
set_option maxRecDepth 100000 in
set_option maxHeartbeats 1600000 in
theorem choose_p (n k : Nat) (hn : n ≤ 9) (hk : k ≤ 5) (w : World) : Calls Tryz.prog 25 #[.int .i64 n, .int .i64 k] w fun e w' => e = .returned (.int .i64 (cho n k : Nat)) ∧ w' = w := by
  go_enter Tryz.func25, Tryz.ntmps25
  go_wp2
  go_loopw [5, 6] (fun a b wr => ∃ i : Nat, i ≤ k ∧ a = .int .i64 (accN n i : Nat) ∧ b = .int .i64 (i : Nat) ∧ wr = w) (fun _ b _ => k - (intOf b).toNat)
  case atStart => exact ⟨0, Nat.zero_le _, rfl, rfl, rfl⟩
  case round =>
    obtain ⟨i, hik, rfl, rfl, rfl⟩ := hrel
    obtain ⟨t1, t2, t3⟩ := acc_at (i := i) hn (by omega)
    by_cases hp : i < k
    · have hp' : (i : Int) < (k : Int) := by omega
      have hm := acc_mul (i := i) hn (by omega)
      have hst : accN n (i + 1) = accN n i * (n - i) / (i + 1) := rfl
      have hb : accN n i * (n - i) ≤ 2000 := Nat.le_trans (Nat.mul_le_mul t1 (show n - i ≤ 9 by omega)) (by omega)
      generalize accN n i * (n - i) = p at *
      generalize hcc : accN n i = c at *
      clear t2 t3
      have hwr : wrap64 ((p : Int) / ((i : Int) + 1)) = ((p / (i + 1) : Nat) : Int) := by
        have e : (p : Int) / ((i : Int) + 1) = ((p / (i + 1) : Nat) : Int) := by rw [Int.natCast_ediv]; rfl
        have hle : p / (i + 1) ≤ p := Nat.div_le_self _ _
        rw [e]
        generalize p / (i + 1) = r at *
        unfold wrap64
        omega
      go_wp2
      go_roundw
      case rel => exact ⟨i + 1, by omega, by rw [hst, hwr], by simp, trivial⟩
      case measure => simp [intOf]; omega
    · have hik' : i = k := by omega
      subst hik'
      by_cases hlt : n < i
      · have hlt' : (n : Int) < (i : Int) := by omega
        go_wp2
        go_ret
        refine ⟨?_, rfl⟩
        rw [if_pos hlt] at t3
        rw [← t3]; rfl
      · have hlt' : ¬ (n : Int) < (i : Int) := by omega
        go_wp2
        go_ret
        refine ⟨?_, rfl⟩
        rw [if_neg hlt] at t3
        rw [← t3]; rfl
end Go.Proofs.YtddbjcfdmdbmkaaGreatDoor

namespace Go.Proofs.YtddbjcfdmdbmkaaGreatDoor
open Go.RowKit

theorem tl1 (b : UInt8) : (txt [b]).toList = [b] := by kernel_rfl
theorem tl2 (b c : UInt8) : (txt [b, c]).toList = [b, c] := by kernel_rfl
theorem tlPush : tPush.toList = [112, 117, 115, 104] := by kernel_rfl
theorem tlOpp : tOpp.toList = [111, 112, 112, 111, 115, 105, 116, 101] := by kernel_rfl
theorem tlAnd : (txt [97, 110, 100]).toList = [97, 110, 100] := by kernel_rfl
theorem tlOr : (txt [111, 114]).toList = [111, 114] := by kernel_rfl
theorem top1 (l : List Int) (x : Int) : (l ++ [x]).getLastD 0 = x ∧ (l ++ [x]).dropLast = l := ⟨by simp [List.getLastD_eq_getLast?], List.dropLast_concat⟩
section
variable (es : List Ev) (it : Ev) (l : List Int) (x y : Int) (z : Bool) (n : Nat)
theorem do_push : doP es it (l, z) (tPush, n) = (l ++ [(n : Int)], z) := by unfold doP; rw [tlPush]; rfl
theorem do_a : doP es it (l, z) (txt [97], n) = (l ++ [(evP es it n).a], z) := by unfold doP; rw [tl1]; rfl
theorem do_b : doP es it (l, z) (txt [98], n) = (l ++ [(evP es it n).b], z) := by unfold doP; rw [tl1]; rfl
theorem do_c : doP es it (l, z) (txt [99], n) = (l ++ [(evP es it n).c], z) := by unfold doP; rw [tl1]; rfl
theorem do_t : doP es it (l, z) (txt [116], n) = (l ++ [(evP es it n).time], z) := by unfold doP; rw [tl1]; rfl
theorem do_opp : doP es it (l ++ [x], z) (tOpp, n) = (l ++ [wrap64 (-x)], z) := by
  unfold doP; rw [tlOpp]; simp only [(top1 l x).1, (top1 l x).2]; rfl
theorem do_two (s : ByteArray) (hs : arityP (s, n) = 2) : doP es it (l ++ [x] ++ [y], z) (s, n) = (l ++ [(stkBP z x s y).1], (stkBP z x s y).2) := by
  unfold arityP at hs
  unfold doP
  simp only at hs ⊢
  generalize s.toList = t at hs ⊢
  split at hs
  · cases hs
  · rename_i h1
    simp only [Bool.or_eq_true, not_or] at h1
    split at hs
    · cases hs
    · rename_i h2
      rw [if_neg h1.1.1.1.1, if_neg h1.1.1.1.2, if_neg h1.1.1.2, if_neg h1.1.2, if_neg h1.2, if_neg h2]
      simp only [(top1 (l ++ [x]) y).1, (top1 (l ++ [x]) y).2, (top1 l x).1, (top1 l x).2]
theorem do_add : doP es it (l ++ [x] ++ [y], z) (txt [43], n) = (l ++ [wrap64 (x + y)], z) := by
  rw [do_two es it l x y z n _ (by kernel_rfl)]; unfold stkBP; rw [tl1]; rfl
theorem do_sub : doP es it (l ++ [x] ++ [y], z) (txt [45], n) = (l ++ [wrap64 (x - y)], z) := by
  rw [do_two es it l x y z n _ (by kernel_rfl)]; unfold stkBP; rw [tl1]; rfl
theorem do_mul : doP es it (l ++ [x] ++ [y], z) (txt [42], n) = (l ++ [wrap64 (x * y)], z) := by
  rw [do_two es it l x y z n _ (by kernel_rfl)]; unfold stkBP; rw [tl1]; rfl
theorem do_div : doP es it (l ++ [x] ++ [y], z) (txt [47], n) = (l ++ [(divP z x y).1], (divP z x y).2) := by
  rw [do_two es it l x y z n _ (by kernel_rfl)]; unfold stkBP divP; rw [tl1]; rfl
theorem do_and : doP es it (l ++ [x] ++ [y], z) (txt [97, 110, 100], n) = (l ++ [bits BinOp.and .i64 x y], z) := by
  rw [do_two es it l x y z n _ (by kernel_rfl)]; unfold stkBP; rw [tlAnd]; rfl
theorem do_or : doP es it (l ++ [x] ++ [y], z) (txt [111, 114], n) = (l ++ [bits BinOp.or .i64 x y], z) := by
  rw [do_two es it l x y z n _ (by kernel_rfl)]; unfold stkBP; rw [tlOr]; rfl
theorem do_eq : doP es it (l ++ [x] ++ [y], z) (txt [61], n) = (l ++ [tstP z x (txt [61]) y], false) := by
  rw [do_two es it l x y z n _ (by kernel_rfl)]; unfold stkBP; rw [tl1]; rfl
theorem do_lt : doP es it (l ++ [x] ++ [y], z) (txt [60], n) = (l ++ [tstP z x (txt [60]) y], false) := by
  rw [do_two es it l x y z n _ (by kernel_rfl)]; unfold stkBP; rw [tl1]; rfl
theorem do_gt : doP es it (l ++ [x] ++ [y], z) (txt [62], n) = (l ++ [tstP z x (txt [62]) y], false) := by
  rw [do_two es it l x y z n _ (by kernel_rfl)]; unfold stkBP; rw [tl1]; rfl
theorem do_ge : doP es it (l ++ [x] ++ [y], z) (txt [62, 61], n) = (l ++ [tstP z x (txt [62, 61]) y], false) := by
  rw [do_two es it l x y z n _ (by kernel_rfl)]; unfold stkBP; rw [tl2]; rfl
theorem do_ne : doP es it (l ++ [x] ++ [y], z) (txt [33, 61], n) = (l ++ [tstP z x (txt [33, 61]) y], false) := by
  rw [do_two es it l x y z n _ (by kernel_rfl)]; unfold stkBP; rw [tl2]; rfl
end
theorem holds_fold {ops : List (ByteArray × Nat)} (h : 0 < ops.length) (es : List Ev) (it : Ev) {x : Int} {z : Bool} (e : ops.foldl (doP es it) ([], false) = ([] ++ [x], z)) : holdsP ops es it = (x == 1) := by
  unfold holdsP runP
  rw [if_neg (by omega), List.take_length, e, (top1 [] x).1]
theorem one_match {st : ASt} {win : Int} (hw : 0 < win) {evs : List Ev} {e : Ev} {t : List Nat} : MatchOK [[st]] win (evs ++ [e]) t ↔ t = [evs.length] ∧ st.fits [] e = true := by
  have hev : evAt (evs ++ [e]) evs.length = e := evAt_new evs e
  constructor
  · rintro ⟨i, hi, ⟨h1, h2, h3, h4⟩, h5⟩
    have hi0 : i = 0 := by simpa using hi
    subst hi0
    have hl : t.length = 1 := h3
    match t, hl with
    | [j], _ =>
      have hj : j = evs.length := by
        have : j + 1 = (evs ++ [e]).length := h4
        rw [List.length_append] at this
        simpa using this
      subst hj
      refine ⟨rfl, ?_⟩
      have : goodP (evs ++ [e]) st [] evs.length := h2.1
      have h := this.2.2.1
      rw [hev] at h
      exact h
  · rintro ⟨rfl, hf⟩
    refine ⟨0, by simp, ⟨by simp, ⟨⟨Nat.zero_le _, by simp, by rw [hev]; exact hf, .inl rfl⟩, trivial⟩, rfl, by simp⟩, ?_⟩
    have h1 : lastT (evs ++ [e]) - firstT (evs ++ [e]) [evs.length] = 0 := by
      unfold lastT firstT
      simp [hev]
    omega
end Go.Proofs.YtddbjcfdmdbmkaaGreatDoor

namespace Go.Proofs.YtddbjcfdmdbmkaaGreatDoor
open Go.RowKit

theorem dec_pc {n : Nat} (h : n ≤ 999999999) {nx : UInt8} (hx : isDigitB nx = false) : pcB 2 (decL n) nx = true := by
  obtain ⟨h1, h2, _⟩ := dec_all n
  have h3 := dec_len 8 n (by omega)
  unfold pcB
  rw [if_pos rfl, h1, hx]
  simp only [Bool.not_false, Bool.and_true, Bool.and_eq_true, decide_eq_true_eq]
  omega
def sgnPc (s : UInt8) : Pc := ⟨[32], 5, [s]⟩
def numPc (d : List UInt8) : Pc := ⟨[32], 2, d⟩
def recP1 : List Pc := headPc [] [53] [49, 50] ++ (stepPc [32] 120 [49] ++ (ifPc :: (itPc [32] 97 ++ [sgnPc 42])))
def recP2 : List Pc := sgnPc 45 :: (itPc [32] 98 ++ (sgnPc 45 :: (itPc [32] 99 ++ [sgnPc 43])))
def recP3 : List Pc := [sgnPc 62] ++ itPc [32] 97 ++ [sgnPc 47] ++ itPc [32] 99 ++ [⟨[32], 4, [111, 114]⟩] ++ itPc [32] 98 ++ [sgnPc 47] ++ itPc [32] 99 ++ [sgnPc 42] ++ itPc [32] 99 ++ [sgnPc 43] ++ itPc [32] 98 ++ [sgnPc 61] ++ itPc [32] 98 ++ [sgnPc 42, numPc [50], ⟨[32], 4, [97, 110, 100]⟩, sgnPc 45] ++ itPc [] 99 ++ [sgnPc 60, sgnPc 40] ++ itPc [] 97 ++ [sgnPc 43] ++ itPc [32] 98 ++ [⟨[], 5, [41]⟩, sgnPc 42, sgnPc 45, ⟨[], 2, [50]⟩]
def recOps (k : Nat) : List BOp :=
  [itOp 97, (tPush, k, ⟨#[]⟩), (txt [42], 0, ⟨#[]⟩), itOp 98, (txt [45], 0, ⟨#[]⟩), itOp 99, (txt [45], 0, ⟨#[]⟩), (tPush, k, ⟨#[]⟩), (txt [43], 0, ⟨#[]⟩), itOp 97, itOp 99, (txt [47], 0, ⟨#[]⟩), (txt [62], 0, ⟨#[]⟩),
   itOp 98, itOp 99, (txt [47], 0, ⟨#[]⟩), itOp 99, (txt [42], 0, ⟨#[]⟩), itOp 98, (txt [43], 0, ⟨#[]⟩), itOp 98, (tPush, 2, ⟨#[]⟩), (txt [42], 0, ⟨#[]⟩), (txt [61], 0, ⟨#[]⟩),
   itOp 99, (tOpp, 0, ⟨#[]⟩), itOp 97, itOp 98, (txt [43], 0, ⟨#[]⟩), (tPush, 2, ⟨#[]⟩), (tOpp, 0, ⟨#[]⟩), (txt [42], 0, ⟨#[]⟩), (txt [60], 0, ⟨#[]⟩), (txt [97, 110, 100], 0, ⟨#[]⟩), (txt [111, 114], 0, ⟨#[]⟩)]
theorem n2 : numVal (txt [50]) = 2 := by kernel_rfl
theorem inStar : txt [42] ∈ [tStar, tSlash] := by simp [txt, tStar]
theorem inSlash : txt [47] ∈ [tStar, tSlash] := by simp [txt, tSlash]
theorem inPlus : txt [43] ∈ [tPlus, tMinus] := by simp [txt, tPlus]
theorem inMinus : txt [45] ∈ [tPlus, tMinus] := by simp [txt, tMinus]
theorem inAnd : txt [97, 110, 100] ∈ [tAnd] := by simp [txt, tAnd]
theorem inOr : txt [111, 114] ∈ [tOr] := by simp [txt, tOr]
theorem rds_numK {n : Nat} {g d : List UInt8} {k : Nat} (e : numVal (txt d) = k) (hk : k ≤ 999999999) : Rds 0 (factorP (n + 1)) [⟨g, 2, d⟩] [(tPush, k, ⟨#[]⟩)] [] := by
  subst e
  exact rds_num hk
section
variable {n : Nat} {d : List UInt8} {k : Nat}
theorem rec_t1 (e : numVal (txt d) = k) (hk : k ≤ 999999999) : Rds 0 (testP (factorP (n + 1))) ((itPc [32] 97 ++ (sgnPc 42 :: ([numPc d] ++ []))) ++ (sgnPc 45 :: (itPc [32] 98 ++ (sgnPc 45 :: (itPc [32] 99 ++ (sgnPc 43 :: ([numPc d] ++ [])))))) ++ sgnPc 62 :: (itPc [32] 97 ++ (sgnPc 47 :: (itPc [32] 99 ++ []))))
    (([itOp 97] ++ ([(tPush, k, ⟨#[]⟩)] ++ (txt [42], 0, ⟨#[]⟩) :: [])) ++ ([itOp 98] ++ (txt [45], 0, ⟨#[]⟩) :: ([itOp 99] ++ (txt [45], 0, ⟨#[]⟩) :: ([(tPush, k, ⟨#[]⟩)] ++ (txt [43], 0, ⟨#[]⟩) :: []))) ++ (([itOp 97] ++ ([itOp 99] ++ (txt [47], 0, ⟨#[]⟩) :: [])) ++ [(txt [62], 0, ⟨#[]⟩)])) st2 :=
  test1 (sumN (prodN (rds_itPc fA) (.cons inStar (rds_numK e hk) .nil)) (.cons inMinus (prod1 (rds_itPc fB)) (.cons inMinus (prod1 (rds_itPc fC)) (.cons inPlus (prod1 (rds_numK e hk)) .nil)))) (sum1 (prodN (rds_itPc fA) (.cons inSlash (rds_itPc fC) .nil))) cGt
theorem rec_t2 : Rds 0 (testP (factorP (n + 1))) ((itPc [32] 98 ++ (sgnPc 47 :: (itPc [32] 99 ++ (sgnPc 42 :: (itPc [32] 99 ++ []))))) ++ (sgnPc 43 :: (itPc [32] 98 ++ [])) ++ sgnPc 61 :: (itPc [32] 98 ++ (sgnPc 42 :: ([numPc [50]] ++ []))))
    (([itOp 98] ++ ([itOp 99] ++ (txt [47], 0, ⟨#[]⟩) :: ([itOp 99] ++ (txt [42], 0, ⟨#[]⟩) :: []))) ++ ([itOp 98] ++ (txt [43], 0, ⟨#[]⟩) :: []) ++ (([itOp 98] ++ ([(tPush, 2, ⟨#[]⟩)] ++ (txt [42], 0, ⟨#[]⟩) :: [])) ++ [(txt [61], 0, ⟨#[]⟩)])) st2 :=
  test1 (sumN (prodN (rds_itPc fB) (.cons inSlash (rds_itPc fC) (.cons inStar (rds_itPc fC) .nil))) (.cons inPlus (prod1 (rds_itPc fB)) .nil)) (sum1 (prodN (rds_itPc fB) (.cons inStar (rds_numK n2 (by decide)) .nil))) cEq
theorem off_close : off st2 tClose = true := by kernel_rfl
theorem rec_t3 : Rds 1 (testP (factorP (n + 2))) ((sgnPc 45 :: itPc [] 99) ++ sgnPc 60 :: ((sgnPc 40 :: (itPc [] 97 ++ (sgnPc 43 :: (itPc [32] 98 ++ [])) ++ [⟨[], 5, [41]⟩])) ++ (sgnPc 42 :: ((sgnPc 45 :: [⟨[], 2, [50]⟩]) ++ []))))
    (([itOp 99] ++ [(tOpp, 0, ⟨#[]⟩)]) ++ ((([itOp 97] ++ ([itOp 98] ++ (txt [43], 0, ⟨#[]⟩) :: [])) ++ (([(tPush, 2, ⟨#[]⟩)] ++ [(tOpp, 0, ⟨#[]⟩)]) ++ (txt [42], 0, ⟨#[]⟩) :: [])) ++ [(txt [60], 0, ⟨#[]⟩)])) st2 :=
  test1 (sum1 (prod1 (rds_neg (rds_itPc fC)))) (sum1 (prodN (rds_par (sumN (prod1 (rds_itPc fA)) (.cons inPlus (prod1 (rds_itPc fB)) .nil)) off_close) (.cons inStar (rds_neg (rds_numK n2 (by decide))) .nil))) cLt
end
def recL (d : List UInt8) : List Pc := stepPc [32] 120 [49] ++ (ifPc :: (itPc [32] 97 ++ (sgnPc 42 :: numPc d :: (recP2 ++ (numPc d :: recP3)))))
def recX (k : Nat) : List Lf := [⟨txt [120], 1, numVal (txt [49]), recOps k⟩]
theorem rec_cond {n k : Nat} {d : List UInt8} (e : numVal (txt d) = k) (hk : k ≤ 999999999) : RdC 1 (n + 2) (ifPc :: (itPc [32] 97 ++ (sgnPc 42 :: numPc d :: (recP2 ++ (numPc d :: recP3))))) (recOps k) stopAll :=
  condOf (orN (both1 ((rec_t1 e hk).deep (by omega))) (.cons inOr (bothN (rec_t2.deep (by omega)) (.cons inAnd rec_t3 .nil)) .nil))
theorem rec_read {k : Nat} {d : List UInt8} (e : numVal (txt d) = k) (hk : k ≤ 999999999) (n : Nat) : RdQ 1 (n + 8) (recL d) (recX k) := by
  have := rdq_seq (rdp_step (m := 1) (n := n + 7) (g := [32]) (g1 := []) (g2 := []) (nm := [120]) (kd := [49]) (rec_cond (n := n + 5) e hk) (.inr ⟨_, _, rfl⟩) (by decide)) .nil
  rw [List.append_nil] at this
  exact this
end Go.Proofs.YtddbjcfdmdbmkaaGreatDoor
