import Derived.Test.YtddbjcfdmdbmkaaGreatDoorB21
set_option linter.unusedVariables false
set_option linter.unusedSimpArgs false
namespace Go.Proofs.YtddbjcfdmdbmkaaGreatDoor
open Go.RowKit

theorem below_new_blk {W w5 : World} {cs : Array Value} {t : TypeId} (h : Below (W.alloc (.cells cs t)).heap.size (W.alloc (.cells cs t)) w5) : Blk w5 W.heap.size cs t := (Blk.new W cs t).of_eq (h.block _ (by simp))
theorem below_new_blk2 {W w5 : World} {cs : Array Value} {t : TypeId} {n : Nat} (h : Below ((W.alloc (.cells cs t)).drewN n).heap.size ((W.alloc (.cells cs t)).drewN n) w5) : Blk w5 W.heap.size cs t := (Blk.new W cs t).of_eq (h.block _ (by show W.heap.size < (W.alloc _).heap.size; simp))
theorem below_new_blk3 {W w5 : World} {cs : Array Value} {t : TypeId} (h : Below ((W.alloc (.cells cs t)).drew).heap.size ((W.alloc (.cells cs t)).drew) w5) : Blk w5 W.heap.size cs t := (Blk.new W cs t).of_eq (h.block _ (by show W.heap.size < (W.alloc _).heap.size; simp))

set_option maxRecDepth 100000 in
set_option maxHeartbeats 3200000 in
theorem stepsOf_weak {own : Nat → Nat} {w : World} {g off cap : Nat} {l : List PPart} (hP : PathAt own w g off l) (hcap : l.length ≤ cap) (hl : l.length ≤ 100000) (hol : ∀ p ∈ l, p.cond.length ≤ 1000000) :
    Calls Tryz.prog 56 #[.slice (some ⟨g, off * 6, none⟩) l.length cap] w fun e w' => ∃ a n c, e = .returned (.slice a n c) ∧ Below w.heap.size w w' := by
  obtain ⟨i1, hi1, hs0, hs1, hs2⟩ := info_parts Tryz.infoStr2
  obtain ⟨i2, hi2, hw0, hw1, hw2⟩ := info_parts Tryz.infoWant
  obtain ⟨i3, hi3, ht0, ht1, ht2⟩ := info_parts Tryz.infoWstep
  go_enter Tryz.func56, Tryz.ntmps56
  go_wp2_with fail
  go_loopw [3, 4, 5, 12] (fun sv nv gv i wr => ∃ k : Nat, k ≤ l.length ∧ i = .int .i64 k ∧ SWk w.heap.size wr sv nv gv k ∧ Below w.heap.size w wr) (fun _ _ _ i _ => l.length - (intOf i).toNat)
  case atStart => exact ⟨0, Nat.zero_le _, rfl, ⟨⟨0, [], Nat.le_refl _, World.ownsRow_nil _ _ _ _⟩, ⟨[], Nat.le_refl _, World.ownsRow_nil _ _ _ _⟩, ⟨0, [], Nat.le_refl _, World.ownsRow_nil _ _ _ _⟩⟩, Below.refl _ _⟩
  case round =>
    obtain ⟨k, hk, rfl, hSW, hbel⟩ := hrel
    have hws := hbel.size
    by_cases hlt : k < l.length
    · obtain ⟨cv, hv, ho, hf, c0, c1, c2, c3, c4, c5⟩ := hP.part k hlt
      have hoc := hol l[k] (List.getElem_mem _)
      have hOl := ho.ext (Ext.of_below (own := own) hbel)
      have tr : ∀ j u, w.cell? ⟨g, (off + k) * 6 + j, none⟩ = some u → wr.cell? ⟨g, off * 6 + k * 6 + j, none⟩ = some u := fun j u e => by
        have e6 : (off + k) * 6 + j = off * 6 + k * 6 + j := by omega
        rw [← e6]; exact (hbel.cell (p := ⟨g, (off + k) * 6 + j, none⟩) hP.lt).trans e
      have d0 := tr 0 _ c0; have d1 := tr 1 _ c1; have d2 := tr 2 _ c2; have d3 := tr 3 _ c3; have d4 := tr 4 _ c4; have d5 := tr 5 _ c5
      rw [Nat.add_zero] at d0
      obtain ⟨ca, cb, cc, ecv⟩ : ∃ a b c, cv = .slice a b c := by rcases ho.open with ⟨_, p, c, e⟩ | ⟨G, C, e, _⟩ <;> exact ⟨_, _, _, e⟩
      obtain ⟨ha, hb, hc, rfl⟩ := hf
      subst ecv
      generalize hpk : l[k] = p at *
      obtain ⟨nn, nx, nle, hsrow⟩ := hSW.s
      obtain ⟨nm, nml, hnrow⟩ := hSW.n
      obtain ⟨gn, gx, gle, hgrow0⟩ := hSW.g
      obtain ⟨sa, sb, sc, esv⟩ := row_form hsrow
      obtain ⟨na, nb, nc, env⟩ := row_form hnrow
      obtain ⟨ga, gb, gc, egv⟩ := row_form hgrow0
      subst esv; subst env; subst egv
      have hki : (k : Int) < (l.length : Int) := by omega
      have hk0 : (0 : Int) ≤ (k : Int) := by omega
      have hB0 := Blk.new wr #[.string p.name, .int .i64 p.place, .int .i64 p.times, .int .i64 p.kind, .slice ca cb cc, .slice ha hb hc] 189
      clear tr c0 c1 c2 c3 c4 c5
      go_upto_region 8 with (first
        | (at_builtin; refine wpList_append_keeps _ rfl _ _ 91 rfl w.heap.size 9 i1 _ 1 16 Tryz.underlying91 hi1 hs0 hs1 hs2 rfl (by decide) _ nm.length (nm.map Value.string) (by rfl) ((hnrow.alloc _).alloc _) ⟨wr.heap.size + 1, 0, none⟩ 1 1 [.string p.name] (by rfl) rfl (World.news_of_block (alloc_at _ _ _ (by simp))) (by simp [Value.oneCell']) (by decide) (by unfold maxLen; omega) (by omega) (by simp; omega) (wr.heap.size + 1 + 1) (by simp) ?_; intro g4 cap4 w4 hown hgrow hat hlt4 hold))
      have hbel4 : Below w.heap.size w w4 := below_grown ((hbel.alloc hbel.size _).alloc (by simp; omega) _) hgrow (fun z e => (hnrow.lt z e).1)
      have hs4 := row_other ((hsrow.alloc _).alloc _) ((hnrow.alloc _).alloc _) (by decide) hgrow
      have hg4r := row_other ((hgrow0.alloc _).alloc _) ((hnrow.alloc _).alloc _) (by decide) hgrow
      have hBP : Blk w4 wr.heap.size #[.string p.name, .int .i64 p.place, .int .i64 p.times, .int .i64 p.kind, .slice ca cb cc, .slice ha hb hc] 189 := (hB0.alloc _).of_eq (hgrow.block _ (by simp; omega) (fun e => by have := (hnrow.lt _ e.symm).2; omega))
      have hSW4 : SWk w.heap.size w4 (.slice sa sb sc) (.slice na nb nc) (.slice ga gb gc) k := ⟨⟨nn, nx, nle, hs4⟩, ⟨nm, nml, hold⟩, ⟨gn, gx, gle, hg4r⟩⟩
      have hOps4 := ho.ext (Ext.of_below (own := own) hbel4)
      have hKn : ∀ z, (hz : z < (nm ++ [p.name]).length) → w4.cell? ⟨g4, z, none⟩ = some (.string (nm ++ [p.name])[z]) := fun z hz => by
        have hx := hown.cells (g := g4) rfl z (.string (nm ++ [p.name])[z]) (by
          rw [show (nm.map Value.string ++ [Value.string p.name]) = (nm ++ [p.name]).map Value.string by simp, List.getElem?_map, List.getElem?_eq_getElem hz]; rfl)
        rw [addr_add, Nat.zero_add] at hx; exact hx
      have hcall : ∀ W, Below w4.heap.size w4 W → Calls Tryz.prog 90 #[.slice ca cb cc, .slice (some ⟨g4, 0, none⟩) (nm.length + 1) cap4] W fun e w' => ∃ p n c, e = .returned (.slice p n c) ∧ Below W.heap.size W w' ∧ Below w4.heap.size w4 w' := fun W hW => by
        have hx := bind_any (hOps4.ext (Ext.of_below (own := own) hW)) hoc (g := g4) (cap := cap4) (names := nm ++ [p.name]) (Nat.lt_of_lt_of_le hlt4 hW.size) (fun z hz => (hW.cell (p := ⟨g4, z, none⟩) hlt4).trans (hKn z hz)) (by simp) (by simp; omega)
        rw [List.length_append] at hx
        refine hx.mono ?_
        rintro e w' ⟨a, b, c, h1, h2⟩
        exact ⟨a, b, c, h1, h2, hW.trans (h2.mono hW.size)⟩
      have q3 := hBP.cell 3; have q4 := hBP.cell 4; have hPl := hBP.lt
      simp at q3 q4
      have HBP : Hid (Blk w4 wr.heap.size #[.string p.name, .int .i64 p.place, .int .i64 p.times, .int .i64 p.kind, .slice ca cb cc, .slice ha hb hc] 189) := hBP
      have HSW4 : Hid (SWk w.heap.size w4 (.slice sa sb sc) (.slice na nb nc) (.slice ga gb gc) k) := hSW4
      have HOwn : Hid (w4.ownsRow w.heap.size 9 1 (.slice (some ⟨g4, 0, none⟩) (nm.length + 1) cap4) (nm.length + 1) ((nm ++ [p.name]).map Value.string)) := by show World.ownsRow _ _ _ _ _ _ _; rw [List.map_append]; exact hown
      generalize hPB : wr.heap.size = PB at *
      clear hown hgrow hat hold hs4 hg4r hBP hSW4 hOps4 hKn hB0 hSW hsrow hnrow hgrow0 hbel hOl d0 d1 d2 d3 d4 d5
      go_cut [9] from 13 to 42 (fun av wx => ∃ A x y z, av = .pointer (some ⟨A, 0, none⟩) ∧ Blk wx A #[.int .i64 p.kind, .slice x y z] 194 ∧ Below w4.heap.size w4 wx)
      case first =>
        go_region_with (first
          | (go_at_call 90; refine (hcall _ (by first | exact (Below.refl _ _) | exact ⟨rfl, rfl, rfl, Nat.le_refl _, fun _ _ => rfl⟩ | exact (Below.alloc (Below.refl _ _) (Nat.le_refl _) _) | exact ⟨rfl, rfl, rfl, by simp, fun z hz => Below.heap_alloc _ _ _ hz⟩)).mono ?_; rintro e w5 ⟨p5, n5, c5, rfl, hb5, hb6⟩; have q3' := (hb6.cell (p := ⟨PB, 3, none⟩) hPl).trans q3; have q4' := (hb6.cell (p := ⟨PB, 4, none⟩) hPl).trans q4; have hPl' : PB < w5.heap.size := Nat.lt_of_lt_of_le hPl hb6.size; first | (have hA := (by first | exact below_new_blk hb5 | exact below_new_blk2 hb5 | exact below_new_blk3 hb5 : Blk w5 w4.heap.size #[.int .i64 0, .slice none 0 0] 194); have y0 := hA.cell 0; have y1 := hA.cell 1; have y2 := hA.frozen 0; have y3 := hA.frozen 1; have y4 := hA.lt; simp at y0 y1 y2 y3 y4) | skip))
        all_goals
          go_wp2_with fail
          go_meet
          first
          | exact ⟨_, _, _, _, rfl, Blk.new _ _ _, hb6.alloc hb6.size _⟩
          | exact ⟨_, _, _, _, rfl, by simpa using (hA.set 0 (.int .i64 p.kind)).set 1 (.slice p5 n5 c5), below_grown (below_grown hb6 (grownBy_setCell _ _ _) (fun g e => by cases e; exact Nat.le_refl _)) (grownBy_setCell _ _ _) (fun g e => by cases e; exact Nat.le_refl _)⟩
      case rest =>
        obtain ⟨A, ax, ay, az, rfl, hBA, hbx⟩ := hcut
        have hBP5 := HBP.out.of_eq (hbx.block PB hPl)
        have hSW5 : SWk w.heap.size wc (.slice sa sb sc) (.slice na nb nc) (.slice ga gb gc) k := HSW4.out.keep (fun z hz => hbx.block z hz)
        have hOwn5 := row_of_blk HOwn.out (w' := wc) (fun z hz => hbx.block z (HOwn.out.lt z hz).2)
        have hbel5 : Below w.heap.size w wc := hbel4.trans (hbx.mono hbel4.size)
        have hstep := isStep_p p (.slice ca cb cc) (.slice ha hb hc) ⟨_, _, _, rfl⟩ ⟨_, _, _, rfl⟩ wc
        unfold partVal at hstep
        have m0 := hBP5.cell 0; have m1 := hBP5.cell 1; have m2 := hBP5.cell 2; have m3 := hBP5.cell 3; have m4 := hBP5.cell 4; have m5 := hBP5.cell 5
        have a0 := hBA.cell 0; have a1 := hBA.cell 1; have hAl := hBA.lt; have hPl5 := hBP5.lt
        simp at m0 m1 m2 m3 m4 m5 a0 a1
        have hbs := hbel5.size
        clear hcall HBP HSW4 HOwn hbx q3 q4 hbel4
        obtain ⟨nn, nx, nle, hsrow⟩ := hSW5.s
        obtain ⟨gn, gx, gle, hgrow0⟩ := hSW5.g
        have hA1 : A < wc.heap.size + 1 := by omega
        cases hst : isStepB p with
        | false =>
          rw [hst] at hstep
          go_wp2_with (first
            | (go_at_call 91; refine hstep.mono ?_; rintro e w6 ⟨rfl, o, rfl⟩)
            | (at_builtin; refine wpList_append_lies _ rfl _ _ 186 rfl w.heap.size 194 i2 _ 2 32 Tryz.underlying186 hi2 hw0 hw1 hw2 rfl (by decide) _ gn gx (by rfl) ((hgrow0.alloc _).alloc _) ⟨wc.heap.size + 1, 0, none⟩ 1 1 [.int .i64 p.kind, .slice ax ay az] (by rfl) rfl (World.news_of_block (alloc_at _ _ _ (by simp))) (by simp [Value.oneCell']) (by decide) (by unfold maxLen; omega) (by omega) (by simp; omega) (wc.heap.size + 1 + 1) (by simp) ?_; intro g7 cap7 w7 hown7 hgrow7 hat7 hlt7))
          have hbw : Below w.heap.size w w7 := below_grown ((hbel5.alloc hbel5.size _).alloc (by simp; omega) _) hgrow7 (fun z e => (hgrow0.lt z e).1)
          obtain ⟨nm5, nml5, hnrow5⟩ := hSW5.n
          have hSW7 : SWk w.heap.size w7 (.slice sa sb sc) (.slice na nb nc) (.slice (some ⟨g7, 0, none⟩) (gn + 1) cap7) (k + 1) := ⟨⟨nn, nx, by omega, row_other ((hsrow.alloc _).alloc _) ((hgrow0.alloc _).alloc _) (by decide) hgrow7⟩, ⟨nm5, by omega, row_other ((hnrow5.alloc _).alloc _) ((hgrow0.alloc _).alloc _) (by decide) hgrow7⟩, ⟨gn + 1, _, by omega, hown7⟩⟩
          clear hown7 hgrow7 hat7
          first
          | (go_roundw
             case rel => exact ⟨k + 1, by omega, by go_num, hSW7, hbw⟩
             case measure => simp [intOf]; omega)
          | (refine ⟨⟨k + 1, by omega, by go_num, hSW7, hbw⟩, by simp [intOf]; omega⟩)
        | true =>
          rw [hst] at hstep
          go_wp2_with (first
            | (go_at_call 91; refine hstep.mono ?_; rintro e w6 ⟨rfl, o, rfl⟩)
            | (at_builtin; refine wpList_append_lies _ rfl _ _ 112 rfl w.heap.size 196 i3 _ 3 56 Tryz.underlying112 hi3 ht0 ht1 ht2 rfl (by decide) _ nn nx (by rfl) ((hsrow.alloc _).alloc _) ⟨wc.heap.size + 1, 0, none⟩ 1 1 [.int .i64 p.kind, .slice ax ay az, .slice ga gb gc] (by rfl) rfl (World.news_of_block (alloc_at _ _ _ (by simp))) (by simp [Value.oneCell']) (by decide) (by unfold maxLen; omega) (by omega) (by simp; omega) (wc.heap.size + 1 + 1) (by simp) ?_; intro g7 cap7 w7 hown7 hgrow7 hat7 hlt7))
          have hbw : Below w.heap.size w w7 := below_grown ((hbel5.alloc hbel5.size _).alloc (by simp; omega) _) hgrow7 (fun z e => (hsrow.lt z e).1)
          have hkn7 := row_other ((hOwn5.alloc _).alloc _) ((hsrow.alloc _).alloc _) (by decide) hgrow7
          have hSW7 : SWk w.heap.size w7 (.slice (some ⟨g7, 0, none⟩) (nn + 1) cap7) (.slice (some ⟨g4, 0, none⟩) (nm.length + 1) cap4) (.slice none 0 0) (k + 1) := ⟨⟨nn + 1, _, by omega, hown7⟩, ⟨nm ++ [p.name], by simp; omega, by simpa using hkn7⟩, ⟨0, [], by omega, World.ownsRow_nil _ _ _ _⟩⟩
          clear hown7 hgrow7 hat7 hkn7
          first
          | (go_roundw
             case rel => exact ⟨k + 1, by omega, by go_num, hSW7, hbw⟩
             case measure => simp [intOf]; omega)
          | (refine ⟨⟨k + 1, by omega, by go_num, hSW7, hbw⟩, by simp [intOf]; omega⟩)
    · have e : k = l.length := by omega
      subst e
      obtain ⟨nn, nx, nle, hsrow⟩ := hSW.s
      obtain ⟨sa, sb, sc, esv⟩ := row_form hsrow
      subst esv
      clear hSW hsrow
      go_wp2
      go_ret
      exact ⟨_, _, _, rfl, hbel⟩
end Go.Proofs.YtddbjcfdmdbmkaaGreatDoor
