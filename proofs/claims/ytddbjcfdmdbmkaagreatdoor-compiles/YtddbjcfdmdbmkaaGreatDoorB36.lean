import Derived.Test.YtddbjcfdmdbmkaaGreatDoorB35
import Derived.Test.YtddbjcfdmdbmkaaGreatDoorB31
import Derived.Deep.RegionLaw
set_option linter.unusedVariables false
set_option linter.unusedSimpArgs false
/-
  The program's watch: New, as far as Compile asks.
-/
namespace Go.Proofs.YtddbjcfdmdbmkaaGreatDoor
open Go.RowKit

def WatchC (win rate : Int) (pv : Value) : Array Value := #[.int .i64 win, .int .i64 rate, pv, .int .i64 0, .slice none 0 0, .slice none 0 0]
theorem Tryz.infoWsteps : (Tryz.prog.info? 112).map (fun i => (i.zero, i.size, i.bytes)) = some (some (.slice none 0 0), 1, 24) := by kernel_rfl
theorem blk_apart {w : World} {X : Nat} {cs : Array Value} {t : TypeId} {b e s : Nat} {v : Value} {n : Nat} {xs : List Value} (hB : Blk w X cs t) (h : w.ownsRow b e s v n xs) (he : t ≠ e) : v.ownBlock ≠ some X := by
  intro hv
  rcases h.2 with ⟨rfl, _⟩ | ⟨g, c, cur, rfl, _, q, _⟩
  · cases hv
  · simp only [Value.ownBlock, Option.some.injEq] at hv
    subst hv
    have hB' : w.heap[g]? = some (.cells cs t (0, 0)) := hB
    rw [hB'] at q
    simp only [Option.some.injEq, Obj.cells.injEq] at q
    exact he q.2.1
/-- a path, whatever it is -/
theorem stepsOf_path {own : Nat → Nat} {w : World} {v : Value} {l : List PPart} (h : PathN own w v l) (hl : l.length ≤ 100000) (hol : ∀ p ∈ l, p.cond.length ≤ 1000000) (hne : l ≠ []) :
    Calls Tryz.prog 56 #[v] w fun e w' => ∃ a n c, e = .returned (.slice a n c) ∧ Below w.heap.size w w' := by
  rcases h.1 with ⟨e, _⟩ | ⟨g, off, cap, rfl, hc, hP⟩
  · exact absurd e hne
  · exact stepsOf_weak hP hc hl hol

set_option maxRecDepth 100000 in
set_option maxHeartbeats 3200000 in
theorem new_weak {own : Nat → Nat} {w : World} {pv : Value} {ps : List (List PPart)} (hP : PathsLie own w pv ps) (win rate bd : Int) (h16 : ps.length ≤ 1000) (hps : ∀ l ∈ ps, l.length ≤ 100000 ∧ l ≠ [] ∧ ∀ p ∈ l, p.cond.length ≤ 1000000) :
    Calls Tryz.prog 36 #[.agg #[.int .i64 win, .int .i64 rate, .int .i64 bd, pv]] w fun e w' => ∃ X, e = .returned (.pointer (some ⟨X, 0, none⟩)) ∧ Below w.heap.size w w' ∧ w.heap.size ≤ X ∧ ∃ a n c, Blk w' X (WatchC win rate (.slice a n c)) 110 := by
  obtain ⟨i0, hi0, hz0, hz1, hz2⟩ := info_parts Tryz.infoWsteps
  obtain ⟨pa, pn, pc, epv⟩ : ∃ a n c, pv = .slice a n c := by obtain ⟨vs, _, h, _⟩ := hP; exact row_form h
  subst epv
  have epn : pn = ps.length := by
    obtain ⟨vs, _, h, _⟩ := hP
    rcases h.2 with ⟨e, h0⟩ | ⟨g, c, cur, e, _⟩ <;> cases e
    · exact h0.symm
    · rfl
  subst epn
  have hB0 := Blk.new w #[.int .i64 win, .int .i64 rate, .int .i64 bd, .slice pa ps.length pc] 67
  have p0 := hB0.cell 0; have p1 := hB0.cell 1; have p3 := hB0.cell 3
  simp at p0 p1 p3
  have hX0 := Blk.new (w.alloc (.cells #[.int .i64 win, .int .i64 rate, .int .i64 bd, .slice pa ps.length pc] 67)) (WatchC win rate (.slice none 0 0)) 110
  have hbel0 : Below w.heap.size w ((w.alloc (.cells #[.int .i64 win, .int .i64 rate, .int .i64 bd, .slice pa ps.length pc] 67)).alloc (.cells (WatchC win rate (.slice none 0 0)) 110)) := ((Below.refl _ w).alloc (Nat.le_refl _) _).alloc (by simp) _
  rw [alloc_size] at hX0
  unfold WatchC at hX0 hbel0
  go_enter Tryz.func36, Tryz.ntmps36
  go_wp2_with fail
  go_loopw [15] (fun i wr => ∃ k : Nat, k ≤ ps.length ∧ i = .int .i64 k ∧ Below w.heap.size w wr ∧ ∃ a b c n xs, n ≤ k ∧ Blk wr (w.heap.size + 1) #[.int .i64 win, .int .i64 rate, .slice a b c, .int .i64 0, .slice none 0 0, .slice none 0 0] 110 ∧ wr.ownsRow w.heap.size 112 1 (.slice a b c) n xs) (fun i _ => ps.length - (intOf i).toNat)
  case atStart => exact ⟨0, Nat.zero_le _, rfl, hbel0, none, 0, 0, 0, [], Nat.le_refl _, hX0, World.ownsRow_nil _ _ _ _⟩
  case round =>
    obtain ⟨k, hk, rfl, hbel, ra, rb, rc, n, xs, hn, hX, hrow⟩ := hrel
    clear hX0 hbel0 hB0 p0 p1 p3
    have hws := hbel.size
    have hXl := hX.lt
    have x2 := hX.cell 2
    have xf := hX.frozen 2
    simp at x2
    by_cases hlt : k < ps.length
    · obtain ⟨g, cap, epv, hg, hcol, hcell⟩ := hP.open (by omega)
      simp only [Value.slice.injEq] at epv
      obtain ⟨rfl, _, rfl⟩ := epv
      obtain ⟨v, hcv, hpn⟩ := hcell k hlt
      have hcv' := (hbel.cell (p := ⟨g, k, none⟩) hg).trans hcv
      obtain ⟨hl1, hl2, hl3⟩ := hps ps[k] (List.getElem_mem _)
      have hcall : ∀ W, Below wr.heap.size wr W → Calls Tryz.prog 56 #[v] W fun e w' => ∃ a n c, e = .returned (.slice a n c) ∧ Below wr.heap.size wr w' := fun W hW => by
        refine (stepsOf_path ⟨hpn.1.ext (Ext.of_below (own := own) (hbel.trans (hW.mono hbel.size))), hpn.2⟩ hl1 hl3 hl2).mono ?_
        rintro e w' ⟨a, n, c, h1, h2⟩
        exact ⟨a, n, c, h1, hW.trans (h2.mono hW.size)⟩
      obtain ⟨va, vb, vc, ev⟩ : ∃ a b c, v = .slice a b c := by rcases hpn.1 with ⟨_, p, c, e⟩ | ⟨g, off, cap, e, _⟩ <;> exact ⟨_, _, _, e⟩
      subst ev
      have hki : (k : Int) < (ps.length : Int) := by omega
      have hk0 : (0 : Int) ≤ (k : Int) := by omega
      clear hcell hcv hpn
      go_upto_region 5 with fail
      go_region_law (first
        | (refine step_append_lies _ (by rfl) _ _ 106 (by rfl) w.heap.size 112 i0 _ 1 24 Tryz.underlying106 hi0 hz0 hz1 hz2 rfl (by decide) _ n xs (by rfl) (hrow5.alloc _) ⟨w5.heap.size, 0, none⟩ 1 1 [.slice sa sn sc] (by rfl) rfl (World.news_of_block (alloc_at _ _ _ (by simp))) (by simp [Value.oneCell']) (by decide) (by unfold maxLen; omega) (by omega) (by simp; omega) (w5.heap.size + 1) (by simp) ?_; intro g7 cap7 w7 hown7 hgrow7 hat7 hlt7; have hX7 := (hX5.alloc (.cells #[.slice sa sn sc] 112)).of_eq (hgrow7.block (w.heap.size + 1) (by simp; omega) (fun e => blk_apart hX5 hrow5 (by decide) e.symm)); have u2 := hX7.cell 2; have uf := hX7.frozen 2; have hXl7 := hX7.lt; simp at u2)
        | (go_simp; refine (hcall _ (by first | exact Below.refl _ _ | exact ⟨rfl, rfl, rfl, Nat.le_refl _, fun _ _ => rfl⟩)).mono ?_; rintro e w5 ⟨sa, sn, sc, rfl, hb5⟩; have hX5 := hX.of_eq (hb5.block (w.heap.size + 1) hXl); have y2 := hX5.cell 2; have yf := hX5.frozen 2; have hXl5 := hX5.lt; simp at y2; have hrow5 := row_of_blk hrow (w' := w5) (fun z hz => hb5.block z (hrow.lt z hz).2); have hbel5 : Below w.heap.size w w5 := hbel.trans (hb5.mono hbel.size); have hws5 := hbel5.size; show _; dsimp only))
      all_goals
        have hX8 : Blk (w7.setCell ⟨w.heap.size + 1, 2, none⟩ (.slice (some ⟨g7, 0, none⟩) (n + 1) cap7)) (w.heap.size + 1) #[.int .i64 win, .int .i64 rate, .slice (some ⟨g7, 0, none⟩) (n + 1) cap7, .int .i64 0, .slice none 0 0, .slice none 0 0] 110 := by simpa using hX7.set 2 (.slice (some ⟨g7, 0, none⟩) (n + 1) cap7)
        have hbel8 : Below w.heap.size w (w7.setCell ⟨w.heap.size + 1, 2, none⟩ (.slice (some ⟨g7, 0, none⟩) (n + 1) cap7)) := below_grown (below_grown (hbel5.alloc hbel5.size _) hgrow7 (fun z e => (hrow5.lt z e).1)) (grownBy_setCell _ _ _) (fun z e => by cases e; exact Nat.le_succ _)
        have hrow8 := row_of_blk hown7 (w' := w7.setCell ⟨w.heap.size + 1, 2, none⟩ (.slice (some ⟨g7, 0, none⟩) (n + 1) cap7)) (fun z hz => (grownBy_setCell w7 ⟨w.heap.size + 1, 2, none⟩ _).block z (hown7.lt z hz).2 (fun e => by simp at e; subst e; exact blk_apart hX7 hown7 (by decide) hz))
        clear hown7 hgrow7 hat7
        go_wp2_with fail
        first
        | (go_roundw
           case rel => exact ⟨k + 1, by omega, by go_num, hbel8, _, _, _, n + 1, _, by omega, hX8, hrow8⟩
           case measure => simp [intOf]; omega)
        | (refine ⟨⟨k + 1, by omega, by go_num, hbel8, _, _, _, n + 1, _, by omega, hX8, hrow8⟩, by simp [intOf]; omega⟩)
    · go_wp2
      go_ret
      exact ⟨_, rfl, hbel, by omega, ra, rb, rc, hX⟩
end Go.Proofs.YtddbjcfdmdbmkaaGreatDoor

/-
  The program's Compile and Look, where no event was fed.
-/
namespace Go.Proofs.YtddbjcfdmdbmkaaGreatDoor
open Go.RowKit

set_option maxHeartbeats 400000 in
theorem events_p {w : World} {X : Nat} {win rate : Int} {pv : Value} (h : Blk w X (WatchC win rate pv) 110) :
    Calls Tryz.prog 37 #[.pointer (some ⟨X, 0, none⟩)] w fun e w' => e = .returned (.int .i64 0) ∧ w' = w := by
  have x3 := h.cell 3
  have hX := h.lt
  simp [WatchC] at x3
  go_enter Tryz.func37, Tryz.ntmps37
  go_wp2
  go_ret
  exact ⟨rfl, rfl⟩
set_option maxHeartbeats 400000 in
theorem runs_p {w : World} {X : Nat} {win rate : Int} {pv : Value} (h : Blk w X (WatchC win rate pv) 110) :
    Calls Tryz.prog 38 #[.pointer (some ⟨X, 0, none⟩)] w fun e w' => e = .returned (.int .i64 0) ∧ w' = w := by
  have x5 := h.cell 5
  have hX := h.lt
  simp [WatchC] at x5
  go_enter Tryz.func38, Tryz.ntmps38
  go_wp2
  go_ret
  exact ⟨rfl, rfl⟩
def EngineC (bd : Int) (X : Nat) : Array Value := #[.int .i64 bd, .int .i64 0, .pointer (some ⟨X, 0, none⟩)]
/-- what Compile leaves -/
def ProgComp (w : World) (r : (PPat × Nat × List (List PPart)) ⊕ (Nat × Nat)) (v : Value) (w' : World) : Prop := Below w.heap.size w w' ∧ match r with
  | .inr (p, e) => v = .tuple #[.pointer none, .int .i64 p, .int .i64 e]
  | .inl (_, bd, _) => ∃ E X win rate pv, v = .tuple #[.pointer (some ⟨E, 0, none⟩), .int .i64 0, .int .i64 0] ∧ w.heap.size ≤ E ∧ Blk w' E (EngineC bd X) 73 ∧ Blk w' X (WatchC win rate pv) 110

set_option maxRecDepth 100000 in
set_option maxHeartbeats 1600000 in
theorem compile_p (s : ByteArray) (w : World) (hok : ∀ pat bd ps, herP s = .inl (pat, bd, ps) → ps.length ≤ 1000 ∧ ∀ l ∈ ps, l.length ≤ 100000 ∧ l ≠ [] ∧ ∀ p ∈ l, p.cond.length ≤ 1000000) (hnz : ∀ p e, herP s = .inr (p, e) → 1 ≤ e ∧ e ≤ 8) :
    Calls Tryz.prog 15 #[.string s] w fun e w' => ∃ v, e = .returned v ∧ ProgComp w (herP s) v w' := by
  have hread := read_h s w
  cases hr : herP s with
  | inr r =>
    obtain ⟨pl, er⟩ := r
    have he := hnz pl er hr
    have he' : ((er : Int) != 0) = true := by simp; omega
    have HR : Hid (herP s = .inr (pl, er)) := hr
    clear hok hnz he hr
    have hp0 := fun (W : World) => Blk.new W zeroPlan 67
    go_enter Tryz.func15, Tryz.ntmps15
    go_wp2_with fail
    refine hread.mono ?_
    rintro e w1 ⟨v, rfl, hbel, hpost⟩
    rw [HR.out] at hpost
    obtain ⟨tv, rfl⟩ := hpost
    unfold zeroPlan
    go_wp2
    exact bodyPost_ret (v := .tuple #[.pointer none, .int .i64 pl, .int .i64 er]) (by simp [results, Tryz.results15, go_sem]) rfl ⟨_, rfl, hbel.alloc hbel.size _, rfl⟩
  | inl r =>
    obtain ⟨pat, bd, ps⟩ := r
    obtain ⟨hl, hps⟩ := hok pat bd ps hr
    have HR : Hid (herP s = .inl (pat, bd, ps)) := hr
    clear hok hnz hr
    go_enter Tryz.func15, Tryz.ntmps15
    go_wp2_with fail
    refine hread.mono ?_
    rintro e w1 ⟨v, rfl, hbel, hpost⟩
    rw [HR.out] at hpost
    obtain ⟨tv, sv, rfl, hP, _⟩ := hpost
    obtain ⟨pa, pn, pc, epv⟩ : ∃ a n c, sv = .slice a n c := by obtain ⟨vs, _, h, _⟩ := hP; exact row_form h
    subst epv
    go_upto_region 4 with fail
    have hBp := Blk.new w1 #[.int .i64 pat.window, .int .i64 pat.rate, .int .i64 bd, .slice pa pn pc] 67
    have hbel1 : Below w.heap.size w (w1.alloc (.cells #[.int .i64 pat.window, .int .i64 pat.rate, .int .i64 bd, .slice pa pn pc] 67)) := hbel.alloc hbel.size _
    have hP1 : PathsLie all7 (w1.alloc (.cells #[.int .i64 pat.window, .int .i64 pat.rate, .int .i64 bd, .slice pa pn pc] 67)) (.slice pa pn pc) ps := hP.ext ((Ext.refl all7 w1).alloc _)
    have hNlt := hBp.lt
    generalize w1.alloc (.cells #[.int .i64 pat.window, .int .i64 pat.rate, .int .i64 bd, .slice pa pn pc] 67) = W1 at *
    generalize w1.heap.size = N at *
    have hcall : ∀ W, Below W1.heap.size W1 W → Calls Tryz.prog 36 #[.agg #[.int .i64 pat.window, .int .i64 pat.rate, .int .i64 bd, .slice pa pn pc]] W fun e w' => ∃ X, e = .returned (.pointer (some ⟨X, 0, none⟩)) ∧ Below W1.heap.size W1 w' ∧ ∃ pv, Blk w' X (WatchC pat.window pat.rate pv) 110 := fun W hW => by
      refine (new_weak (hP1.ext (Ext.of_below (own := all7) hW)) pat.window pat.rate bd hl hps).mono ?_
      rintro e w' ⟨X, h1, h2, h3, a, n, c, h4⟩
      exact ⟨X, h1, hW.trans (h2.mono hW.size), _, h4⟩
    have p0 := hBp.cell 0; have p1 := hBp.cell 1; have p2 := hBp.cell 2; have p3 := hBp.cell 3
    simp at p0 p1 p2 p3
    have hpf : ∀ w5, Below W1.heap.size W1 w5 → w5.cell? ⟨N, 2, none⟩ = some (.int .i64 bd) := fun w5 h => (h.cell (p := ⟨N, 2, none⟩) hNlt).trans p2
    go_region_with (first
      | (go_at_call 36; refine (hcall _ (by first | exact Below.refl _ _ | exact ⟨rfl, rfl, rfl, Nat.le_refl _, fun _ _ => rfl⟩)).mono ?_; rintro e w5 ⟨X, rfl, hb5, pv5, hX5⟩; have p2' := hpf w5 hb5; have hNl5 : N < w5.heap.size := Nat.lt_of_lt_of_le hNlt hb5.size))
    all_goals
      go_wp2
      have hb6 : Below w.heap.size w w5 := hbel1.trans (hb5.mono hbel1.size)
      refine bodyPost_ret (v := .tuple #[.pointer (some ⟨w5.heap.size, 0, none⟩), .int .i64 0, .int .i64 0]) (by simp [results, Tryz.results15, go_sem]) rfl ⟨_, rfl, hb6.alloc hb6.size _, ?_⟩
      exact ⟨w5.heap.size, X, _, _, _, rfl, hb6.size, Blk.new _ _ _, hX5.alloc _⟩

end Go.Proofs.YtddbjcfdmdbmkaaGreatDoor

/-
  The program's Look, where no event was fed.
-/
namespace Go.Proofs.YtddbjcfdmdbmkaaGreatDoor
open Go.RowKit

theorem below_set4 (W : World) (n : Nat) (a b c d : Value) : Below n W ((((W.setCell ⟨n, 0, none⟩ a).setCell ⟨n, 1, none⟩ b).setCell ⟨n, 2, none⟩ c).setCell ⟨n, 3, none⟩ d).drew :=
  ⟨rfl, rfl, rfl, by simp [World.setCell], fun k hk => by
    refine Eq.trans (Below.heap_setCell _ _ _ _ (Nat.ne_of_lt hk)) (Eq.trans (Below.heap_setCell _ _ _ _ (Nat.ne_of_lt hk)) (Eq.trans (Below.heap_setCell _ _ _ _ (Nat.ne_of_lt hk)) (Below.heap_setCell _ _ _ _ (Nat.ne_of_lt hk))))⟩

set_option maxRecDepth 100000 in
set_option maxHeartbeats 1600000 in
theorem look_p {w : World} {E X : Nat} {bd : Nat} {win rate : Int} {pv : Value} (hE : Blk w E (EngineC bd X) 73) (hX : Blk w X (WatchC win rate pv) 110) :
    Calls Tryz.prog 16 #[.pointer (some ⟨E, 0, none⟩)] w fun e w' => e = .returned (.agg #[.int .i64 0, .int .i64 0, .int .i64 (bd : Nat), .int .i64 0]) ∧ Below w.heap.size w w' := by
  have hE1 := hE.alloc (.cells #[.int .i64 0, .int .i64 0, .int .i64 0, .int .i64 0] 27)
  have hX1 := hX.alloc (.cells #[.int .i64 0, .int .i64 0, .int .i64 0, .int .i64 0] 27)
  have hN := Blk.new w #[.int .i64 0, .int .i64 0, .int .i64 0, .int .i64 0] 27
  have hbel : Below w.heap.size w (w.alloc (.cells #[.int .i64 0, .int .i64 0, .int .i64 0, .int .i64 0] 27)) := (Below.refl _ w).alloc (Nat.le_refl _) _
  go_enter Tryz.func16, Tryz.ntmps16
  go_upto_region 1 with fail
  have hb2 : ∀ W', Below w.heap.size (w.alloc (.cells #[.int .i64 0, .int .i64 0, .int .i64 0, .int .i64 0] 27)) W' → Below w.heap.size w W' := fun W' h => hbel.trans h
  generalize w.alloc (.cells #[.int .i64 0, .int .i64 0, .int .i64 0, .int .i64 0] 27) = W at *
  have e0 := hE1.cell 0; have e1 := hE1.cell 1; have e2 := hE1.cell 2; have l1 := hE1.lt; have l2 := hX1.lt; have l3 := hN.lt
  simp [EngineC] at e0 e1 e2
  have v0 := hN.cell 0; have v1 := hN.cell 1; have v2 := hN.cell 2; have v3 := hN.cell 3; have f0 := hN.frozen 0; have f1 := hN.frozen 1; have f2 := hN.frozen 2; have f3 := hN.frozen 3
  simp at v0 v1 v2 v3
  have hev := fun (w' : World) (h : Blk w' X (WatchC win rate pv) 110) => events_p (w := w') h
  have hru := fun (w' : World) (h : Blk w' X (WatchC win rate pv) 110) => runs_p (w := w') h
  have hne : ¬ E = w.heap.size := Nat.ne_of_lt hE.lt
  have hne' : ¬ w.heap.size = E := fun h => hne h.symm
  go_region_held3 (fun w' => w'.cell? ⟨E, 2, none⟩ = some (.pointer (some ⟨X, 0, none⟩)) ∧ w'.cell? ⟨E, 0, none⟩ = some (.int .i64 bd) ∧ w'.cell? ⟨E, 1, none⟩ = some (.int .i64 0)) (simp [*, World.cell?_setCell_other])
   (first
    | (go_at_call 38; refine (hru _ hX1.drew).mono ?_; rintro e w5 ⟨rfl, rfl⟩)
    | (go_at_call 37; refine (hev _ hX1.drew).mono ?_; rintro e w5 ⟨rfl, rfl⟩))
  all_goals
    go_wp2
    clear hev hru hE1 hX1 hE hX e0 e1 e2 hne hne'
    rename_i hheld
    clear hheld
    have hB : Below w.heap.size W ((((W.setCell ⟨w.heap.size, 0, none⟩ (.int .i64 0)).setCell ⟨w.heap.size, 1, none⟩ (.int .i64 0)).setCell ⟨w.heap.size, 2, none⟩ (.int .i64 (bd : Nat))).setCell ⟨w.heap.size, 3, none⟩ (.int .i64 0)).drew :=
      below_set4 _ _ _ _ _ _
    have g0 : ((((W.setCell ⟨w.heap.size, 0, none⟩ (.int .i64 0)).setCell ⟨w.heap.size, 1, none⟩ (.int .i64 0)).setCell ⟨w.heap.size, 2, none⟩ (.int .i64 (bd : Nat))).setCell ⟨w.heap.size, 3, none⟩ (.int .i64 0)).drew.cell? ⟨w.heap.size, 0, none⟩ = some (.int .i64 0) := by simp [World.cell?_setCell_other, v0, v1, v2, v3, go_sem]
    have g1 : ((((W.setCell ⟨w.heap.size, 0, none⟩ (.int .i64 0)).setCell ⟨w.heap.size, 1, none⟩ (.int .i64 0)).setCell ⟨w.heap.size, 2, none⟩ (.int .i64 (bd : Nat))).setCell ⟨w.heap.size, 3, none⟩ (.int .i64 0)).drew.cell? ⟨w.heap.size, 1, none⟩ = some (.int .i64 0) := by simp [World.cell?_setCell_other, v0, v1, v2, v3, go_sem]
    have g2 : ((((W.setCell ⟨w.heap.size, 0, none⟩ (.int .i64 0)).setCell ⟨w.heap.size, 1, none⟩ (.int .i64 0)).setCell ⟨w.heap.size, 2, none⟩ (.int .i64 (bd : Nat))).setCell ⟨w.heap.size, 3, none⟩ (.int .i64 0)).drew.cell? ⟨w.heap.size, 2, none⟩ = some (.int .i64 (bd : Nat)) := by simp [World.cell?_setCell_other, v0, v1, v2, v3, go_sem]
    have g3 : ((((W.setCell ⟨w.heap.size, 0, none⟩ (.int .i64 0)).setCell ⟨w.heap.size, 1, none⟩ (.int .i64 0)).setCell ⟨w.heap.size, 2, none⟩ (.int .i64 (bd : Nat))).setCell ⟨w.heap.size, 3, none⟩ (.int .i64 0)).drew.cell? ⟨w.heap.size, 3, none⟩ = some (.int .i64 0) := by simp [World.cell?_setCell_other, v0, v1, v2, v3, go_sem]
    generalize ((((W.setCell ⟨w.heap.size, 0, none⟩ (.int .i64 0)).setCell ⟨w.heap.size, 1, none⟩ (.int .i64 0)).setCell ⟨w.heap.size, 2, none⟩ (.int .i64 (bd : Nat))).setCell ⟨w.heap.size, 3, none⟩ (.int .i64 0)).drew = W4 at *
    refine bodyPost_ret (v := .agg #[.int .i64 0, .int .i64 0, .int .i64 (bd : Nat), .int .i64 0]) (by simp [results, Tryz.results16, go_sem, g0, g1, g2, g3]) rfl ⟨rfl, hb2 _ hB⟩
end Go.Proofs.YtddbjcfdmdbmkaaGreatDoor
