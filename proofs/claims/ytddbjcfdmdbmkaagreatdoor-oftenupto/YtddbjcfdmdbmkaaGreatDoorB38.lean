import Derived.Test.YtddbjcfdmdbmkaaGreatDoorB37
import Derived.Test.YtddbjcfdmdbmkaaGreatDoorB02
set_option linter.unusedVariables false
set_option linter.unusedSimpArgs false
namespace Go.Proofs.YtddbjcfdmdbmkaaGreatDoor
open Go.RowKit

structure TakeP (F : Nat → Prop) (w : World) (X : Nat) (c : WC) (evs : List Ev) (e : Ev) (lo : Nat) (tv rv : Value) (rl : List (Nat × List Nat)) (v : Value) (w' : World) (F' : Nat → Prop) (B : Nat) (ys : List VL) (sps' : List Nat) (tv' rv' : Value) (rs' : List MRun) : Prop where
  lists : ListsAt B w' v ys
  sorted : SortedL (ys.map (·.2))
  told : ∀ t, t ∈ ys.map (·.2) ↔ t ∈ matchesNext (absP c.paths) evs e (rl.filter (nearB c.win evs e.time))
  watch : WatchM F' w' X c (evs ++ [e]) (lo + passedP c.win e.time (timesP evs lo)) sps' tv' rv' rs'
  runs : (rs'.map MRun.pl).Perm (runsNext (absP c.paths) evs e (rl.filter (nearB c.win evs e.time)))
  chg : Chg (fun b => b = X ∨ tv.ownBlock = some b ∨ rv.ownBlock = some b) w w'
  tNew : ∀ b, tv'.ownBlock = some b → tv.ownBlock = some b ∨ w.heap.size ≤ b
  rNew : ∀ b, rv'.ownBlock = some b → rv.ownBlock = some b ∨ w.heap.size ≤ b
  fNew : ∀ b, F' b → F b ∨ w.heap.size ≤ b
  above : w.heap.size ≤ B
  fLt : ∀ b, F' b → b < B
  tLt : ∀ b, tv'.ownBlock = some b → b < B
theorem stops_map {paths : List (List ASt)} {evs : List Ev} {e : Ev} {rs : List MRun} : (rs.filter fun r => !stopsB paths evs e r.pl).map MRun.pl = (rs.map MRun.pl).filter fun r => !stopsB paths evs e r := by rw [List.filter_map]; rfl
theorem whole_map {paths : List (List WStep)} {gs : List MRun} : (gs.filter fun r => !wholeR paths r).map MRun.pl = (gs.map MRun.pl).filter fun r => !wholeB (absP paths) r := by rw [List.filter_map]; rfl
theorem whole_map2 {paths : List (List WStep)} {gs : List MRun} : (gs.filter (wholeR paths)).map (·.pl.2) = ((gs.map MRun.pl).filter (wholeB (absP paths))).map (·.2) := by rw [List.filter_map, List.map_map]; rfl
theorem grown_perm {paths : List (List ASt)} {evs : List Ev} {e : Ev} {l m : List (Nat × List Nat)} (h : l.Perm m) : (grownP paths evs e l).Perm (grownP paths evs e m) := by
  unfold grownP
  exact ((h.append_left _).filter _).map _
theorem runsNext_perm {paths : List (List ASt)} {evs : List Ev} {e : Ev} {l m : List (Nat × List Nat)} (h : l.Perm m) : (runsNext paths evs e l).Perm (runsNext paths evs e m) := by
  unfold runsNext
  exact (h.filter _).append ((grown_perm h).filter _)
theorem matchesNext_perm {paths : List (List ASt)} {evs : List Ev} {e : Ev} {l m : List (Nat × List Nat)} (h : l.Perm m) : (matchesNext paths evs e l).Perm (matchesNext paths evs e m) := by
  unfold matchesNext
  exact ((grown_perm h).filter _).map _
theorem take_end {F : Nat → Prop} {w W w1 W4 w5 w7 w8 w9 : World} {X : Nat} {c : WC} {evs : List Ev} {e : Ev} {lo lo1 : Nat} {tv rv tv4 rv1 rv7 av v : Value} {rl : List (Nat × List Nat)} {rs rs1 rs8 rs9 gs : List MRun} {F4 F5 : Nat → Prop} {sps : List Nat} {ip : Nat} {ys : List VL} {rv9 : Value} (hlo : lo + passedP c.win e.time (timesP evs lo) = lo1) (hrl : (rs.map MRun.pl).Perm rl)
    (hb0 : Below w.heap.size w W) (hp1 : (rs1.map MRun.pl).Perm ((rs.map MRun.pl).filter (nearB c.win evs e.time))) (hc1 : Chg (fun b => b = X ∨ tv.ownBlock = some b ∨ rv.ownBlock = some b) W w1) (hr1 : rv1.ownBlock = rv.ownBlock)
    (hc4 : Chg (fun b => b = X ∨ tv.ownBlock = some b) w1 W4) (ht4 : ∀ b, tv4.ownBlock = some b → tv.ownBlock = some b ∨ w1.heap.size ≤ b) (hF4 : ∀ b, F4 b → F b ∨ w1.heap.size ≤ b)
    (hG : GrownAt F4 W4 c.paths c.svs evs sps e ip W4.heap.size (W4.heap.size + 1) (seedsP (absP c.paths) ++ rs1.map MRun.pl) w5 F5 av gs) (hc7 : Chg (fun b => b = X ∨ rv1.ownBlock = some b) W4 w7) (hr7 : rv7.ownBlock = rv1.ownBlock)
    (hp8 : rs8.Perm (rs1.filter fun r => !stopsB (absP c.paths) evs e r.pl)) (hx8 : MidX F5 w8 X c evs e lo1 sps ip tv4 rv7 rs8 av gs) (hc8 : Chg (fun b => rv7.ownBlock = some b) w7 w8)
    (h1 : ListsAt w8.heap.size w9 v ys) (h2 : SortedL (ys.map (·.2))) (h3 : ∀ t, t ∈ ys.map (·.2) ↔ t ∈ (gs.filter (wholeR c.paths)).map (·.pl.2)) (h4 : WatchM F5 w9 X c (evs ++ [e]) lo1 (sps ++ [ip]) tv4 rv9 rs9) (h5 : rs9.Perm (rs8 ++ gs.filter fun r => !wholeR c.paths r)) (h6 : Chg (fun b => b = X ∨ rv7.ownBlock = some b) w8 w9) (h7 : ∀ b, rv9.ownBlock = some b → rv7.ownBlock = some b ∨ w8.heap.size ≤ b) :
    TakeP F w X c evs e lo tv rv rl v w9 F5 w8.heap.size ys (sps ++ [ip]) tv4 rv9 rs9 := by
  have hgrown : gs.map MRun.pl = grownP (absP c.paths) evs e (rs1.map MRun.pl) := hG.pl
  have hperm : (rs1.map MRun.pl).Perm (rl.filter (nearB c.win evs e.time)) := hp1.trans (hrl.filter _)
  have s0 := hb0.size; have s1 := hc1.size; have s4 := hc4.size; have s7 := hc7.size; have s8 := hc8.size
  have hc : Chg (fun b => b = X ∨ tv.ownBlock = some b ∨ rv.ownBlock = some b) w w9 := by
    refine (((((Chg.below (fun b => b = X ∨ tv.ownBlock = some b ∨ rv.ownBlock = some b) hb0).trans hc1 (fun b _ k => k)).trans hc4 (fun b _ k => ?_)).trans hc7 (fun b _ k => ?_)).trans hc8 (fun b _ k => ?_)).trans h6 (fun b _ k => ?_)
    · rcases k with k | k; exact .inl k; exact .inr (.inl k)
    · rcases k with k | k; exact .inl k; exact .inr (.inr (hr1 ▸ k))
    · exact .inr (.inr (by rw [← hr1, ← hr7]; exact k))
    · rcases k with k | k; exact .inl k; exact .inr (.inr (by rw [← hr1, ← hr7]; exact k))
  refine ⟨h1, h2, fun t => ?_, by rw [hlo]; exact h4, ?_, hc, fun b hb => ?_, fun b hb => ?_, fun b hb => ?_, by omega, hx8.heap.fl, fun b hb => (hx8.times.lt b hb).2⟩
  · rw [h3, whole_map2, hgrown]
    exact (matchesNext_perm hperm).mem_iff
  · have q := h5.map MRun.pl
    rw [List.map_append, whole_map, hgrown] at q
    have q8 := hp8.map MRun.pl
    rw [stops_map] at q8
    exact (q.trans (q8.append_right _)).trans (runsNext_perm hperm)
  · rcases ht4 b hb with k | k
    · exact .inl k
    · exact .inr (by omega)
  · rcases h7 b hb with k | k
    · exact .inl (by rw [← hr1, ← hr7]; exact k)
    · exact .inr (by omega)
  · rcases hG.new b hb with k | k
    · rcases hF4 b k with k | k
      · exact .inl k
      · exact .inr (by omega)
    · exact .inr (by omega)
set_option maxRecDepth 100000 in
set_option maxHeartbeats 3200000 in
theorem watchTake_p {F : Nat → Prop} {w : World} {X : Nat} {c : WC} {evs : List Ev} {lo : Nat} {sps : List Nat} {tv rv : Value} {rs : List MRun} (h : WatchM F w X c evs lo sps tv rv rs) (hc : WellC c) {rl : List (Nat × List Nat)} (hP : WatchP c evs lo rl) (hrl : (rs.map MRun.pl).Perm rl) {e : Ev} (he : In64 e.time) (hl : evs = [] ∨ lastT evs ≤ e.time) (hrn : rs.length ≤ 100000) (hel : evs.length ≤ 100000000) :
    Calls Tryz.prog 49 #[.pointer (some ⟨X, 0, none⟩), evVal e] w fun x w' => ∃ a n cc F' B ys sps' tv' rv' rs', x = .returned (.slice a n cc) ∧ TakeP F w X c evs e lo tv rv rl (.slice a n cc) w' F' B ys sps' tv' rv' rs' := by
  obtain ⟨i0, hi0, hz0, hz1, hz2⟩ := info_parts Tryz.infoIntF
  have hE := Blk.new w #[.int .i64 e.time, .int .i64 e.kind, .int .i64 e.a, .int .i64 e.b, .int .i64 e.c] 44
  have hb0 : Below w.heap.size w (w.alloc (.cells #[.int .i64 e.time, .int .i64 e.kind, .int .i64 e.a, .int .i64 e.b, .int .i64 e.c] 44)) := (Below.refl _ w).alloc (Nat.le_refl _) _
  have h0 := h.below hb0
  have hrate := hP.rate
  have hrb := hc.rate
  have hlo := hP.win.le
  have hforget := h0.forget hc hP (by omega) he hl
  have hel2 : evs.length - lo ≤ 1000 := by omega
  have hpl := passedP_le (c.win : Int) e.time (timesP evs lo)
  rw [timesP_len] at hpl
  generalize hlo1 : lo + passedP c.win e.time (timesP evs lo) = lo1 at *
  unfold evVal
  generalize hW : w.alloc (.cells #[.int .i64 e.time, .int .i64 e.kind, .int .i64 e.a, .int .i64 e.b, .int .i64 e.c] 44) = W at *
  have e0 := hE.cell 0; have hEl := hE.lt
  simp at e0
  go_enter Tryz.func49, Tryz.ntmps49
  go_upto_region 2 with (go_at_call 72; refine hforget.mono ?_; rintro x w1 ⟨rfl, ta1, tn1, tc1, rv1, rs1, hw1, hp1, hn1, hc1, ht1, hr1⟩)
  have hE1 : Blk w1 w.heap.size #[.int .i64 e.time, .int .i64 e.kind, .int .i64 e.a, .int .i64 e.b, .int .i64 e.c] 44 := by
    refine hE.of_eq (hc1.at _ hE.lt (fun hm => ?_))
    rcases hm with hm | hm | hm
    · have := h.heap.xb.lt; omega
    · have := (h.times.lt _ hm).2; omega
    · have := (h.heap.row.lt _ hm).2; omega
  have a0 := hE1.cell 0; have a1 := hE1.cell 1; have a2 := hE1.cell 2; have a3 := hE1.cell 3; have a4 := hE1.cell 4; have hEl1 := hE1.lt
  simp at a0 a1 a2 a3 a4
  have hX1 := hw1.heap.xb
  have x3 := hX1.cell 3; have hXl1 := hX1.lt
  simp at x3
  go_cut [5] from 7 (fun nv wx => ∃ N ip, nv = .pointer (some ⟨N, 0, none⟩) ∧ Blk wx N #[.pointer (some ⟨ip, 0, none⟩)] 156 ∧ SeenAt wx ip e evs.length ∧ Below w1.heap.size w1 wx ∧ w1.heap.size ≤ N ∧ w1.heap.size ≤ ip)
  case first =>
    go_region
    all_goals
      go_wp2
      go_meet
      first
      | (refine ⟨w1.heap.size + 1, w1.heap.size, rfl, ?_, ?_, ?_, Nat.le_succ _, Nat.le_refl _⟩
         · have k := Blk.new (w1.alloc (.cells #[.int .i64 e.time, .int .i64 e.kind, .int .i64 e.a, .int .i64 e.b, .int .i64 e.c, .int .i64 evs.length] 158)) #[.pointer (some ⟨w1.heap.size, 0, none⟩)] 156
           rw [alloc_size] at k; exact k
         · exact (Blk.new w1 _ _).alloc _
         · have k : Below w1.heap.size w1 ((w1.alloc (.cells #[.int .i64 e.time, .int .i64 e.kind, .int .i64 e.a, .int .i64 e.b, .int .i64 e.c, .int .i64 evs.length] 158)).alloc (.cells #[.pointer (some ⟨w1.heap.size, 0, none⟩)] 156)) := ((Below.refl _ w1).alloc (Nat.le_refl _) _).alloc (by simp) _
           exact ⟨k.os, k.tape, k.output, k.size, k.block⟩)
      | (refine ⟨w1.heap.size, w1.heap.size + 1, rfl, ?_, ?_, ?_, Nat.le_refl _, Nat.le_succ _⟩
         · exact (Blk.new w1 _ _).alloc _
         · have k := Blk.new (w1.alloc (.cells #[.pointer (some ⟨w1.heap.size + 1, 0, none⟩)] 156)) #[.int .i64 e.time, .int .i64 e.kind, .int .i64 e.a, .int .i64 e.b, .int .i64 e.c, .int .i64 evs.length] 158
           rw [alloc_size] at k; exact k
         · have k : Below w1.heap.size w1 ((w1.alloc (.cells #[.pointer (some ⟨w1.heap.size + 1, 0, none⟩)] 156)).alloc (.cells #[.int .i64 e.time, .int .i64 e.kind, .int .i64 e.a, .int .i64 e.b, .int .i64 e.c, .int .i64 evs.length] 158)) := ((Below.refl _ w1).alloc (Nat.le_refl _) _).alloc (by simp) _
           exact ⟨k.os, k.tape, k.output, k.size, k.block⟩)
  case rest =>
    obtain ⟨N, ip, rfl, hN, hip, hbx, hNn, hipn⟩ := hcut
    have hXc := hX1.of_eq (hbx.block X hXl1)
    have hEc := hE1.of_eq (hbx.block _ hEl1)
    have y3 := hXc.cell 3; have yf3 := hXc.frozen 3; have hXlc := hXc.lt
    have b0 := hEc.cell 0; have hElc := hEc.lt
    simp at y3 b0
    have hXc3 := hXc.set 3 (.int .i64 (evs.length + 1))
    have hneE : w.heap.size ≠ X := by have := h.heap.xb.lt; omega
    have hEc3 := hEc.other ⟨X, 3, none⟩ (.int .i64 (evs.length + 1)) hneE.symm
    have z4 := hXc3.cell 4; have z4l := hXc3.lt; have d0 := hEc3.cell 0; have d0l := hEc3.lt
    simp at z4 d0
    have hTX1 : ¬ (Value.slice ta1 tn1 tc1).ownBlock = some X := blk_apart hX1 hw1.times (by decide)
    have hrowT : (wc.setCell ⟨X, 3, none⟩ (.int .i64 (evs.length + 1))).ownsRow 0 3 1 (.slice ta1 tn1 tc1) (timesP evs lo1).length ((timesP evs lo1).map (Value.int .i64)) :=
      row_of_blk hw1.times (fun z hz => (Below.heap_setCell _ _ _ _ (fun e => by simp at e; subst e; exact hTX1 hz)).trans (hbx.block z (hw1.times.lt z hz).2))
    have htl1 : (timesP evs lo1).length ≤ 1000 := by rw [timesP_len]; omega
    have HMid : Hid (∀ (w7 : World) (o : Obj) (g7 cap7 : Nat), w7.ownsRow 0 3 1 (.slice (some ⟨g7, 0, none⟩) ((timesP evs lo1).length + 1) cap7) ((timesP evs lo1).length + 1) ((timesP evs lo1).map (Value.int .i64) ++ [.int .i64 e.time]) → ((wc.setCell ⟨X, 3, none⟩ (.int .i64 (evs.length + 1))).alloc o).grownBy w7 (Value.slice ta1 tn1 tc1).ownBlock → ((Value.slice ta1 tn1 tc1).ownBlock = some g7 ∨ wc.heap.size ≤ g7) → _) := fun w7 o g7 cap7 k1 k2 k3 => hw1.mid (by omega) hbx hip hipn hN hNn k1 k2 k3
    have hneX : ∀ z, (Value.slice ta1 tn1 tc1).ownBlock = some z → z ≠ X := fun z hz e => hTX1 (e ▸ hz)
    go_upto_region 4 with fail
    go_region_law (first
      | (refine step_append_lies _ (by rfl) _ _ 48 (by rfl) 0 3 i0 _ 1 8 Tryz.underlying48 hi0 hz0 hz1 hz2 rfl (by decide) _ (timesP evs lo1).length ((timesP evs lo1).map (Value.int .i64)) (by rfl) (hrowT.alloc _) ⟨wc.heap.size, 0, none⟩ 1 1 [.int .i64 e.time] (by rfl) rfl (World.news_of_block (alloc_at _ _ _ (by simp [World.setCell]))) (by simp [Value.oneCell']) (by decide) (by unfold maxLen; omega) (by omega) (by simp <;> omega) (wc.heap.size + 1) (by simp [World.setCell]) ?_; intro g7 cap7 w7 hown7 hgrow7 hat7 hlt7; have hX7 := (hXc3.alloc (.cells #[.int .i64 e.time] 3)).of_eq (hgrow7.block X (by simp [World.setCell]; omega) (fun e => hTX1 e.symm)); have v4 := hX7.cell 4; have vf4 := hX7.frozen 4; have hXl7 := hX7.lt; simp at v4))
    all_goals
      obtain ⟨hmid, hcm⟩ := HMid.out w7 (.cells #[.int .i64 e.time] 3) g7 cap7 hown7 ⟨hgrow7.os, hgrow7.tape, hgrow7.output, hgrow7.size, hgrow7.block⟩ (by rcases hat7 with q | q; exact .inl q; exact .inr (by omega))
      clear HMid hown7 hgrow7
      have hg7 : (Value.slice (some ⟨g7, 0, none⟩) ((timesP evs lo1).length + 1) cap7).ownBlock = some g7 := rfl
      have HE : Hid (∀ (w5 w6 w8 w9 : World) (F5 : Nat → Prop) (av : Value) (gs rs8 rs9 : List MRun) (da : Option Addr) (db dc : Nat) (v : Value) (ys : List VL) (rv9 : Value),
          GrownAt (fun b => F b ∨ b = ip) (w7.setCell ⟨X, 4, none⟩ (.slice (some ⟨g7, 0, none⟩) ((timesP evs lo1).length + 1) cap7)) c.paths c.svs evs sps e ip (w7.setCell ⟨X, 4, none⟩ (.slice (some ⟨g7, 0, none⟩) ((timesP evs lo1).length + 1) cap7)).heap.size ((w7.setCell ⟨X, 4, none⟩ (.slice (some ⟨g7, 0, none⟩) ((timesP evs lo1).length + 1) cap7)).heap.size + 1) (seedsP (absP c.paths) ++ rs1.map MRun.pl) w5 F5 av gs →
          Chg (fun b => b = X ∨ rv1.ownBlock = some b) (w7.setCell ⟨X, 4, none⟩ (.slice (some ⟨g7, 0, none⟩) ((timesP evs lo1).length + 1) cap7)) (w6.setCell ⟨X, 5, none⟩ (.slice da db dc)) → (Value.slice da db dc).ownBlock = rv1.ownBlock →
          rs8.Perm (rs1.filter fun r => !stopsB (absP c.paths) evs e r.pl) → MidX F5 w8 X c evs e lo1 sps ip (.slice (some ⟨g7, 0, none⟩) ((timesP evs lo1).length + 1) cap7) (.slice da db dc) rs8 av gs → Chg (fun b => (Value.slice da db dc).ownBlock = some b) (w6.setCell ⟨X, 5, none⟩ (.slice da db dc)) w8 →
          ListsAt w8.heap.size w9 v ys → SortedL (ys.map (·.2)) → (∀ t, t ∈ ys.map (·.2) ↔ t ∈ (gs.filter (wholeR c.paths)).map (·.pl.2)) → WatchM F5 w9 X c (evs ++ [e]) lo1 (sps ++ [ip]) (.slice (some ⟨g7, 0, none⟩) ((timesP evs lo1).length + 1) cap7) rv9 rs9 → rs9.Perm (rs8 ++ gs.filter fun r => !wholeR c.paths r) → Chg (fun b => b = X ∨ (Value.slice da db dc).ownBlock = some b) w8 w9 → (∀ b, rv9.ownBlock = some b → (Value.slice da db dc).ownBlock = some b ∨ w8.heap.size ≤ b) →
          TakeP F w X c evs e lo tv rv rl v w9 F5 w8.heap.size ys (sps ++ [ip]) (.slice (some ⟨g7, 0, none⟩) ((timesP evs lo1).length + 1) cap7) rv9 rs9) := fun w5 w6 w8 w9 F5 av gs rs8 rs9 da db dc v ys rv9 k1 k2 k3 k4 k5 k6 k7 k8 k9 k10 k11 k12 k13 =>
        take_end hlo1 hrl hb0 hp1 hc1 hr1 (hcm.mono (fun b _ q => by rcases q with q | q; exact .inl q; exact .inr (by rw [← ht1]; exact q))) (fun b hb => by
            have q0 : g7 = b := by simpa [Value.ownBlock] using hb
            subst q0
            rcases hat7 with q | q
            · exact .inl (by rw [← ht1]; exact q)
            · exact .inr (by have := hbx.size; omega)) (fun b hb => by rcases hb with hb | rfl; exact .inl hb; exact .inr hipn) k1 k2 k3 k4 k5 k6 k7 k8 k9 k10 k11 k12 k13
      have hrs1 : rs1.length ≤ 100000 := by omega
      have hfew := hc.few
      have hgr := hmid.grown hc (by omega)
      have hslen : (seedsP (absP c.paths)).length = c.paths.length := by simp [seedsP, absP]
      have hcnt : ∀ (w5 : World) (F5 : Nat → Prop) (av : Value) (gs : List MRun), GrownAt (fun b => F b ∨ b = ip) (w7.setCell ⟨X, 4, none⟩ (.slice (some ⟨g7, 0, none⟩) ((timesP evs lo1).length + 1) cap7)) c.paths c.svs evs sps e ip (w7.setCell ⟨X, 4, none⟩ (.slice (some ⟨g7, 0, none⟩) ((timesP evs lo1).length + 1) cap7)).heap.size ((w7.setCell ⟨X, 4, none⟩ (.slice (some ⟨g7, 0, none⟩) ((timesP evs lo1).length + 1) cap7)).heap.size + 1) (seedsP (absP c.paths) ++ rs1.map MRun.pl) w5 F5 av gs → gs.length ≤ 400000 := fun w5 F5 av gs k => by
        have := k.count
        rw [List.length_append, hslen, List.length_map] at this
        omega
      have n0 := hmid.now.cell 0; have nl := hmid.now.lt; have m5 := hmid.heap.xb.cell 5; have ml := hmid.heap.xb.lt
      simp at n0 m5
      have HM : Hid _ := hmid
      have HCn : Hid _ := hcnt
      clear hcnt hmid hcm h h0 hw1 hp1 hc1 hforget hP hrl hE hE1 hEc hXc hX1 hXc3 hEc3 hrowT hN hip hbx hslen
      generalize hW4 : w7.setCell ⟨X, 4, none⟩ (.slice (some ⟨g7, 0, none⟩) ((timesP evs lo1).length + 1) cap7) = W4 at *
      go_wp2_with (first
        | (go_at_call 78; refine (i2.keep hc i3 hi8 (HCn.out _ _ _ _ hG5)).mono ?_; rintro x w9 ⟨a9, n9, c9, ys9, rv9, rs9, rfl, r1, r2, r3, r4, r5, r6, r7⟩)
        | (go_at_call 77; refine (hmx.init (Nat.le_trans hl6 (by decide))).mono ?_; rintro x w8 ⟨rfl, rs8, i1, i2, i3, i4⟩; have hi8 : rs8.length ≤ 400000 := (by rw [i1.length_eq]; omega))
        | (go_at_call 74; refine hdel.mono ?_; rintro x w6 ⟨da, db, dc, rfl, k1, k2, k3⟩; obtain ⟨hmx, hcx⟩ := HM.out.next hG5 k1 k2 k3; have hX6 := hX5.of_eq (k2.at X hX5.lt hXr); have s5 := hX6.cell 5; have sf5 := hX6.frozen 5; have sl := hX6.lt; simp at s5; have hl6 : (rs1.filter fun r => !stopsB (absP c.paths) evs e r.pl).length ≤ 400000 := Nat.le_trans (List.length_filter_le _ _) (by omega))
        | (go_at_call 73; refine hgr.mono ?_; rintro x w5 ⟨F5, ga, gb, gc, gs5, rfl, hG5⟩; have hX5 := HM.out.heap.xb.of_eq (hG5.bel.block X ml); have hXr : ¬ rv1.ownBlock = some X := blk_apart HM.out.heap.xb HM.out.heap.row (by decide); have p5 := hX5.cell 5; have pl5 := hX5.lt; simp at p5; have hdel := HM.out.del hc (by omega) hG5.bel))
      go_ret
      exact ⟨a9, n9, c9, F5, _, ys9, _, _, rv9, rs9, rfl, HE.out w5 w6 w8 w9 F5 _ gs5 rs8 rs9 da db dc _ ys9 rv9 hG5 hcx k3 i1 i2 i4 r1 r2 r3 r4 r5 r6 r7⟩
end Go.Proofs.YtddbjcfdmdbmkaaGreatDoor

namespace Go.Proofs.YtddbjcfdmdbmkaaGreatDoor
open Go.RowKit

theorem WatchP.perm {c : WC} {evs : List Ev} {lo : Nat} {rl rl' : List (Nat × List Nat)} (h : WatchP c evs lo rl) (hp : rl'.Perm rl) : WatchP c evs lo rl' := ⟨h.kept.perm hp, h.win, h.mono, h.in64, h.rate⟩
theorem WatchP.count {c : WC} {evs : List Ev} {lo : Nat} {rl : List (Nat × List Nat)} (h : WatchP c evs lo rl) : rl.length ≤ boundA c.rate (absP c.paths) :=
  h.kept.bound h.mono (fun i hi hn => Nat.not_lt.1 (fun hlt => h.win.far i hlt hn)) h.rate
theorem WatchP.start (c : WC) : WatchP c [] 0 [] := ⟨Kept1.start _ _ _, Win.start _ _, fun i j _ hj => by simp at hj, fun e he => by simp at he, by simp⟩
theorem win_later {c : WC} {evs : List Ev} {lo : Nat} {rl : List (Nat × List Nat)} (h : WatchP c evs lo rl) {now : Int} (hl : evs = [] ∨ lastT evs ≤ now) : Win c.win evs now (lo + passedP c.win now (timesP evs lo)) := by
  rcases hl with rfl | hl
  · have h0 : lo = 0 := by have := h.win.le; simpa using this
    subst h0
    have : passedP (c.win : Int) now (timesP [] 0) = 0 := rfl
    rw [this]
    exact Win.start _ _
  · exact h.win.later h.mono hl
theorem WatchP.next {c : WC} {evs : List Ev} {lo : Nat} {rl : List (Nat × List Nat)} (h : WatchP c evs lo rl) (hc : 1 ≤ c.win) {e : Ev} (he : In64 e.time) (hf : feedFP c.win c.rate evs e.time = 0) : WatchP c (evs ++ [e]) (lo + passedP c.win e.time (timesP evs lo)) (runsNext (absP c.paths) evs e (rl.filter (nearB c.win evs e.time))) := by
  obtain ⟨hl, hr⟩ := feedF0 hf
  have hw := win_later h hl
  have hcnt := hw.cnt
  refine ⟨by rw [lastT_app]; exact (h.kept.near hl).next (by omega), by rw [lastT_app]; exact hw.snoc (by omega), h.mono.snoc hl, fun x hx => ?_, ?_⟩
  · rcases List.mem_append.1 hx with hx | hx
    · exact h.in64 x hx
    · rw [List.mem_singleton.1 hx]; exact he
  · have := hw.le
    rw [List.length_append, List.length_singleton]
    omega
theorem WatchP.told {c : WC} {evs : List Ev} {lo : Nat} {rl : List (Nat × List Nat)} (h : WatchP c evs lo rl) (hc : 1 ≤ c.win) {e : Ev} (hl : evs = [] ∨ lastT evs ≤ e.time) (t : List Nat) : t ∈ matchesNext (absP c.paths) evs e (rl.filter (nearB c.win evs e.time)) ↔ MatchOK (absP c.paths) c.win (evs ++ [e]) t :=
  (h.kept.near hl).matches (by omega) t
theorem last_times {c : WC} {evs : List Ev} {lo : Nat} {rl : List (Nat × List Nat)} (h : WatchP c evs lo rl) (hc : 1 ≤ c.win) (h0 : evs ≠ []) : lo < evs.length ∧ (timesP evs lo).getLastD 0 = lastT evs := by
  have hn : 0 < evs.length := List.length_pos_iff.2 h0
  have hlo : lo < evs.length := by
    have hle := h.win.le
    by_cases hh : lo < evs.length
    · exact hh
    · have := h.win.far (evs.length - 1) (by omega)
      unfold lastT at this
      omega
  refine ⟨hlo, ?_⟩
  rw [List.getLastD_eq_getLast?, List.getLast?_eq_getElem?, timesP_len]
  have hi : evs.length - lo - 1 < (timesP evs lo).length := by rw [timesP_len]; omega
  rw [List.getElem?_eq_getElem hi, Option.getD_some, timesP_get hi, show lo + (evs.length - lo - 1) = evs.length - 1 by omega]
  rfl
theorem fault_eq {c : WC} {evs : List Ev} {lo : Nat} {rl : List (Nat × List Nat)} (h : WatchP c evs lo rl) (hc : 1 ≤ c.win) (now : Int) : faultT c.win c.rate (timesP evs lo) now = feedFP c.win c.rate evs now := by
  unfold faultT feedFP
  have hle := h.win.le
  by_cases h0 : evs = []
  · have hlo : lo = 0 := by rw [h0] at hle; simpa using hle
    subst h0 hlo
    have e1 : timesP ([] : List Ev) 0 = [] := rfl
    have e2 : cntNear c.win [] now = 0 := rfl
    have e3 : passedP (c.win : Int) now [] = 0 := rfl
    have a1 : ¬ (0 < ([] : List Int).length ∧ now < ([] : List Int).getLastD 0) := fun k => by simp at k
    have a2 : ¬ (([] : List Ev) ≠ [] ∧ now < lastT []) := fun k => k.1 rfl
    rw [e1, e2, e3, if_neg a1, if_neg a2]
    by_cases hr : c.rate ≤ 0
    · rw [if_pos (by simpa using hr), if_pos (by omega)]
    · rw [if_neg (by simpa using hr), if_neg (by omega)]
  · obtain ⟨hlo, hlast⟩ := last_times h hc h0
    rw [hlast]
    by_cases ht : now < lastT evs
    · rw [if_pos ⟨by rw [timesP_len]; omega, ht⟩, if_pos ⟨h0, ht⟩]
    · have a1 : ¬ (0 < (timesP evs lo).length ∧ now < lastT evs) := fun k => ht k.2
      have a2 : ¬ (evs ≠ [] ∧ now < lastT evs) := fun k => ht k.2
      rw [if_neg a1, if_neg a2]
      have hw := win_later h (.inr (Int.not_lt.1 ht))
      have hcnt := hw.cnt
      have hp := passedP_le (c.win : Int) now (timesP evs lo)
      rw [timesP_len] at hp
      rw [hcnt, timesP_len]
      by_cases hr : c.rate ≤ evs.length - lo - passedP c.win now (timesP evs lo)
      · rw [if_pos hr, if_pos (by omega)]
      · rw [if_neg hr, if_neg (by omega)]
theorem WatchM.fault {F : Nat → Prop} {w : World} {X : Nat} {c : WC} {evs : List Ev} {lo : Nat} {sps : List Nat} {tv rv : Value} {rs : List MRun} (h : WatchM F w X c evs lo sps tv rv rs) (hc : WellC c) {rl : List (Nat × List Nat)} (hP : WatchP c evs lo rl) (e : Ev) (he : In64 e.time) :
    Calls Tryz.prog 48 #[.pointer (some ⟨X, 0, none⟩), evVal e] w fun x w' => x = .returned (.int .i64 (feedFP c.win c.rate evs e.time)) ∧ Below w.heap.size w w' := by
  have h1 := hc.win1; have h2 := hc.win2; have h3 := hc.rate; have h4 := hP.rate
  rw [← fault_eq hP h1]
  refine fault_p e h.heap.xb h.times (by rw [timesP_len]; omega) (by omega) (fun t ht => ?_) he (by omega)
  obtain ⟨i, hi, rfl⟩ := List.getElem_of_mem ht
  have hi' := hi
  rw [timesP_len] at hi'
  have h0 : evs ≠ [] := fun e => by rw [e] at hi'; simp at hi'
  rw [(last_times hP h1 h0).2, timesP_get]
  refine ⟨?_, by rw [evAt_get (by omega)]; exact hP.in64 _ (List.getElem_mem _)⟩
  exact hP.mono _ _ (by omega) (by omega)
end Go.Proofs.YtddbjcfdmdbmkaaGreatDoor
