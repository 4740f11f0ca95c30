import Derived.Test.YtddbjcfdmdbmkaaGreatDoorB43
import Derived.Test.YtddbjcfdmdbmkaaGreatDoorB42
import Derived.Test.YtddbjcfdmdbmkaaGreatDoorB11
import Derived.Test.YtddbjcfdmdbmkaaGreatDoorB36
set_option linter.unusedVariables false
set_option linter.unusedSimpArgs false
/-
  Compile: the program and the document tell the same.
-/
namespace Go.Proofs.YtddbjcfdmdbmkaaGreatDoor
open Go.RowKit

structure BothL (ts : List STok) (l : List RTok) (out : List Nat) (τ : PSt) : Prop where
  q : Q (.seq [] out) (patD l) τ
  inv : TInv τ
  sA : (patA l).Small
  sC : (patC l).Small
  err : ∀ p e, readP ts = .inr (p, e) → (e = 1 ∧ τ.fin.wrong = p) ∨ (e = 2 ∧ τ.fin.wrong < 0 ∧ τ.deep = p) ∨ (e = 3 ∧ τ.fin.wrong < 0 ∧ τ.deep < 0 ∧ outs τ = some p)
  ok : ∀ pat z, readP ts = .inl (pat, z) → τ.fin.wrong < 0 ∧ τ.deep < 0 ∧ outs τ = none ∧ CH τ out ∧
    (∀ p e, makeP (ts.length + 1) pat = .inr (p, e) → compF τ out = .inr ((p : Int), e)) ∧
    (∀ bd ps, makeP (ts.length + 1) pat = .inl (bd, ps) → (∃ q, compF τ out = .inl (bd, q)) ∧ ps.length ≤ 1000 ∧ ∀ l ∈ ps, l.length ≤ 100000 ∧ l ≠ [] ∧ ∀ p ∈ l, p.cond.length ≤ 1000000)
theorem fin_deep (τ : PSt) : τ.fin.deep = τ.deep := by
  unfold PSt.fin
  split
  · rfl
  · unfold PSt.bad; split <;> rfl
theorem read_both0 {ts : List STok} {l : List RTok} (hT : TR ts l) (hl : l.length ≤ 601) : ∃ out τ, BothL ts l out τ := by
  obtain ⟨hG, hGl⟩ := hT.sgood
  obtain ⟨out, τ, hQ, hI, _, ho1, ho, hpl, sA, sC, hm⟩ := read_rel2 hT hl
  refine ⟨out, τ, hQ, hI, sA, sC, fun p e hr => ?_, fun pat z hr => ?_⟩
  · clear hQ sA sC
    rw [hr] at hm
    simp only [fin_deep] at hm
    exact hm
  · clear hQ sA sC
    rw [hr] at hm
    obtain ⟨h1, h2, h3, h4, ⟨hi, hP⟩, hS, hN, hw, hrt⟩ := hm
    obtain ⟨f1, f2, f3, f4, f5, f6⟩ := read_fine hG (by omega) hr
    have f2' : bnd (ts.length + 1) pat.body ≤ 100000 := by omega
    refine ⟨h1, h3, h4, ch_of hI h4 hP hS hN ho hpl hrt f6 f1 f2', fun p e hk => ?_, fun bd ps hk => ?_⟩
    · have := comp_rel hP hS hN hrt f6 f1 f2'
      rw [hk] at this; exact this
    · have := comp_rel hP hS hN hrt f6 f1 f2'
      rw [hk] at this
      obtain ⟨q, hq, _⟩ := this
      exact ⟨⟨q, hq⟩, ok_of hP hS hN f1 f2' hk⟩
theorem read_both1 (s : ByteArray) (hs : s.size ≤ 600) (ts : List STok) (n : Nat) (hn : n = s.size + 1) (e : stoks s n 0 = ts) : ∃ l out τ, LX s 0 l ∧ BothL ts l out τ := by
  obtain ⟨l, hL⟩ := lex_total s s.size 0 (by omega) (Nat.zero_le _)
  have hl := (lx_good hL (Nat.zero_le _) hs).2.2
  have h := toks_rel s hL n (Nat.zero_le _) (by omega)
  rw [e] at h
  obtain ⟨out, τ, h⟩ := read_both0 h.1 (by omega)
  exact ⟨l, out, τ, hL, h⟩
theorem read_both (s : ByteArray) (hs : s.size ≤ 600) : ∃ l out τ, LX s 0 l ∧ BothL (tokensP s) l out τ := read_both1 s hs _ _ rfl rfl
/-- what the document's Compile leaves, told by the program's plain reading -/
def DocAs (w : World) (r : (PPat × Nat × List (List PPart)) ⊕ (Nat × Nat)) (v : Value) (w' : World) : Prop := Below w.heap.size w w' ∧ match r with
  | .inr (p, e) => v = .tuple #[.pointer none, .int .i64 (p : Nat), .int .i64 (e : Nat)]
  | .inl (_, bd, _) => ∃ X b pa pn pc, v = .tuple #[.pointer (some ⟨X, 0, none⟩), .int .i64 0, .int .i64 0] ∧ w.heap.size ≤ X ∧ Blk w' X (EngC b (.slice pa pn pc) bd) 127
theorem her_ok (s : ByteArray) : (∀ pat bd ps, herP s = .inl (pat, bd, ps) → ps.length ≤ 1000 ∧ ∀ l ∈ ps, l.length ≤ 100000 ∧ l ≠ [] ∧ ∀ p ∈ l, p.cond.length ≤ 1000000) ∧ (∀ p e, herP s = .inr (p, e) → 1 ≤ e ∧ e ≤ 8) := by
  by_cases hs : 600 < s.size
  · unfold herP
    rw [if_pos hs]
    refine ⟨fun pat bd ps h => (by cases h), fun p e h => (by cases h; omega)⟩
  · obtain ⟨l, out, τ, hL, B⟩ := read_both s (by omega)
    unfold herP
    rw [if_neg hs]
    have he := B.err
    have ho := B.ok
    cases hr : readP (tokensP s) with
    | inr r =>
      obtain ⟨p, e⟩ := r
      simp only
      refine ⟨fun pat bd ps h => (by cases h), fun p' e' h => ?_⟩
      cases h
      rcases he _ _ hr with h | h | h <;> omega
    | inl r =>
      obtain ⟨pat, z⟩ := r
      simp only
      obtain ⟨_, _, _, _, _, h6⟩ := ho _ _ hr
      cases hk : makeP ((tokensP s).length + 1) pat with
      | inr r =>
        obtain ⟨p, e⟩ := r
        refine ⟨fun pat bd ps h => (by cases h), fun p' e' h => ?_⟩
        cases h
        exact make_kind hk
      | inl r =>
        obtain ⟨bd, ps⟩ := r
        refine ⟨fun pat bd ps h => ?_, fun p' e' h => by cases h⟩
        cases h
        exact (h6 _ _ hk).2
theorem doc_compile (s : ByteArray) (w : World) :
    Calls Tryz.prog 39 #[.string s] w fun e w' => ∃ v, e = .returned v ∧ DocAs w (herP s) v w' := by
  by_cases hs : 600 < s.size
  · have e : herP s = .inr (600, 1) := by unfold herP; rw [if_pos hs]
    rw [e]
    refine (comp_err s w 600 1 (by omega) (by omega) (docread_long s w hs)).mono ?_
    rintro e' w' ⟨v, rfl, h1, h2⟩
    exact ⟨v, rfl, h1, h2⟩
  · obtain ⟨l, out, τ, hL, B⟩ := read_both s (by omega)
    have hRd := docread_any s (by omega) l hL (fun w => tokens_any s (by omega) l hL w) out τ B.q B.inv B.sA B.sC w
    have he := B.err
    have ho := B.ok
    unfold herP
    rw [if_neg hs]
    cases hr : readP (tokensP s) with
    | inr r =>
      obtain ⟨p, e⟩ := r
      simp only
      have hc : 1 ≤ e ∧ e ≤ 8 := by rcases he _ _ hr with h | h | h <;> omega
      refine (comp_err s w p e hc.1 hc.2 (hRd.mono ?_)).mono ?_
      · rintro e' w' ⟨v, rfl, h1, h2⟩
        refine ⟨?_, h1⟩
        rcases he _ _ hr with ⟨rfl, a⟩ | ⟨rfl, a, b⟩ | ⟨rfl, a, b, c⟩
        · rw [if_pos (by omega), a] at h2; rw [h2]; rfl
        · rw [if_neg (by omega), if_pos (by omega), b] at h2; rw [h2]; rfl
        · rw [if_neg (by omega), if_neg (by omega), c] at h2; rw [h2]; rfl
      · rintro e' w' ⟨v, rfl, h1, h2⟩
        exact ⟨v, rfl, h1, h2⟩
    | inl r =>
      obtain ⟨pat, z⟩ := r
      simp only
      obtain ⟨h1, h2, h3, h4, h5, h6⟩ := ho _ _ hr
      refine (comp_core s w τ out h4 (hRd.mono ?_)).mono ?_
      · rintro e' w' ⟨v, rfl, g1, g2⟩
        rw [if_neg (by omega), if_neg (by omega), h3] at g2
        obtain ⟨b, own, m, rfl, a, b', c⟩ := g2
        exact ⟨b, own, m, rfl, a, b', c⟩
      · rintro e' w' ⟨v, rfl, g1, g2⟩
        refine ⟨v, rfl, ?_⟩
        cases hk : makeP ((tokensP s).length + 1) pat with
        | inr r =>
          obtain ⟨p, e⟩ := r
          rw [h5 _ _ hk] at g2
          exact ⟨g1, g2⟩
        | inl r =>
          obtain ⟨bd, ps⟩ := r
          obtain ⟨⟨q, hq⟩, _⟩ := h6 _ _ hk
          rw [hq] at g2
          obtain ⟨X, b, pa, pc, a1, a2, a3⟩ := g2
          exact ⟨g1, X, b, pa, q.length, pc, a1, a2, a3⟩
theorem prog_compile (s : ByteArray) (w : World) : Calls Tryz.prog 15 #[.string s] w fun e w' => ∃ v, e = .returned v ∧ ProgComp w (herP s) v w' :=
  compile_p s w (her_ok s).1 (her_ok s).2
end Go.Proofs.YtddbjcfdmdbmkaaGreatDoor

/-
  The law's own functions: one text.
-/
namespace Go.Proofs.YtddbjcfdmdbmkaaGreatDoor
open Go.RowKit

set_option maxHeartbeats 400000 in
theorem num_p (n : Int) (w : World) : Calls Tryz.prog 40 #[.int .i64 n] w fun e w' => e = .returned (.int .i64 n) ∧ w' = w := by
  go_enter Tryz.func40, Tryz.ntmps40
  go_wp2
  go_ret
  exact ⟨rfl, rfl⟩

set_option maxRecDepth 100000 in
set_option maxHeartbeats 1600000 in
theorem compiled_err (s : ByteArray) (p e : Nat) (hr : herP s = .inr (p, e)) (w : World) :
    Calls Tryz.prog 17 #[.string s] w fun e w' => e = .returned (.bool true) ∧ Below w.heap.size w w' := by
  have hp := prog_compile s w
  have hd := fun w1 => doc_compile s w1
  rw [hr] at hp
  simp only [hr] at hd
  clear hr
  have hn := fun w1 => num_p (e : Nat) w1
  go_enter Tryz.func17, Tryz.ntmps17
  go_wp2_with (first
    | (go_at_call 15; refine hp.mono ?_; rintro e' w1 ⟨v, rfl, hb1, rfl⟩)
    | (go_at_call 39; refine (hd _).mono ?_; rintro e' w2 ⟨v, rfl, hb2, rfl⟩)
    | (go_at_call 40; refine (hn _).mono ?_; rintro e' w3 ⟨rfl, rfl⟩))
  go_ret
  exact ⟨rfl, hb1.trans (hb2.mono hb1.size)⟩

set_option maxRecDepth 100000 in
set_option maxHeartbeats 1600000 in
theorem compiled_ok (s : ByteArray) (pat : PPat) (bd : Nat) (ps : List (List PPart)) (hr : herP s = .inl (pat, bd, ps)) (w : World) :
    Calls Tryz.prog 17 #[.string s] w fun e w' => e = .returned (.bool true) ∧ Below w.heap.size w w' := by
  have hp := prog_compile s w
  have hd := fun w1 => doc_compile s w1
  rw [hr] at hp
  simp only [hr] at hd
  clear hr
  have hn := fun w1 => num_p 0 w1
  go_enter Tryz.func17, Tryz.ntmps17
  go_upto_region 8 with (first
    | (go_at_call 15; refine hp.mono ?_; rintro e' w1 ⟨v, rfl, hb1, E, X, win, rate, pv, rfl, hE0, hE, hX⟩)
    | (go_at_call 39; refine (hd _).mono ?_; rintro e' w2 ⟨v, rfl, hb2, Y, b, pa, pn, pc, rfl, hY0, hY⟩; have hE2 := hE.of_eq (hb2.block E hE.lt); have hX2 := hX.of_eq (hb2.block X hX.lt); have hL := look_p hE2 hX2)
    | (go_at_call 40; refine (hn _).mono ?_; rintro e' w3 ⟨rfl, rfl⟩)
    | (go_at_call 16; refine hL.mono ?_; rintro e' w4 ⟨rfl, hb4⟩; have hY4 := hY.of_eq (hb4.block Y hY.lt)))
  have hV := Blk.new w4 #[.int .i64 0, .int .i64 0, .int .i64 (bd : Nat), .int .i64 0] 27
  have hY5 := hY4.alloc (.cells #[.int .i64 0, .int .i64 0, .int .i64 (bd : Nat), .int .i64 0] 27)
  have hb3 : Below w.heap.size w w3 := hb1.trans (hb2.mono hb1.size)
  have hb4' : Below w.heap.size w w4 := hb3.trans (hb4.mono hb3.size)
  have hb5 : Below w.heap.size w (w4.alloc (.cells #[.int .i64 0, .int .i64 0, .int .i64 (bd : Nat), .int .i64 0] 27)) := hb4'.alloc hb4'.size _
  clear hp hd hn hb1 hE hX hb2 hY hE2 hX2 hL hb4 hY4 hE0 hY0
  generalize w4.alloc (.cells #[.int .i64 0, .int .i64 0, .int .i64 (bd : Nat), .int .i64 0] 27) = W at *
  generalize w4.heap.size = N at *
  have v0 := hV.cell 0; have v1 := hV.cell 1; have v2 := hV.cell 2; have v3 := hV.cell 3
  simp at v0 v1 v2 v3
  have hlt := hV.lt
  have hlook := fun (w' : World) (h : Blk w' Y (EngC b (.slice pa pn pc) bd) 127) => doclook_none h
  have keep : ∀ w6, Below W.drew.heap.size W.drew w6 → (w6.cell? ⟨N, 0, none⟩ = some (.int .i64 0) ∧ w6.cell? ⟨N, 1, none⟩ = some (.int .i64 0) ∧ w6.cell? ⟨N, 2, none⟩ = some (.int .i64 (bd : Nat)) ∧ w6.cell? ⟨N, 3, none⟩ = some (.int .i64 0)) ∧ Below w.heap.size w w6 := fun w6 h =>
    ⟨⟨(h.cell (p := ⟨N, 0, none⟩) hlt).trans v0, (h.cell (p := ⟨N, 1, none⟩) hlt).trans v1, (h.cell (p := ⟨N, 2, none⟩) hlt).trans v2, (h.cell (p := ⟨N, 3, none⟩) hlt).trans v3⟩, hb5.trans (Below.mono (show Below W.heap.size W w6 from ⟨h.os, h.tape, h.output, h.size, h.block⟩) hb5.size)⟩
  go_region_held3 (fun w' => w'.cell? ⟨N, 0, none⟩ = some (.int .i64 0) ∧ w'.cell? ⟨N, 1, none⟩ = some (.int .i64 0) ∧ w'.cell? ⟨N, 2, none⟩ = some (.int .i64 (bd : Nat)) ∧ w'.cell? ⟨N, 3, none⟩ = some (.int .i64 0)) (simp [*])
    (first
      | (go_at_call 41; refine (hlook _ hY5.drew).mono ?_; rintro e' w6 ⟨rfl, hb6⟩; obtain ⟨hk6, hb7⟩ := keep _ hb6; clear hb6))
  all_goals
    go_wp2
    go_ret
    exact ⟨rfl, hb7⟩
theorem compiled_p (s : ByteArray) (w : World) : Calls Tryz.prog 17 #[.string s] w fun e w' => e = .returned (.bool true) ∧ Below w.heap.size w w' := by
  cases hr : herP s with
  | inr r => exact compiled_err s r.1 r.2 hr w
  | inl r => exact compiled_ok s r.1 r.2.1 r.2.2 hr w
end Go.Proofs.YtddbjcfdmdbmkaaGreatDoor

/-
  The law's own functions: Compiles.
-/
namespace Go.Proofs.YtddbjcfdmdbmkaaGreatDoor
open Go.RowKit

def exText : ByteArray := ⟨#[119, 105, 116, 104, 105, 110, 32, 49, 48, 32, 114, 97, 116, 101, 32, 53, 32, 120, 58, 49, 32, 116, 104, 101, 110, 32, 121, 58, 50, 32, 105, 102, 32, 121, 46, 97, 32, 61, 32, 120, 46, 97]⟩
def boundOf (r : (PPat × Nat × List (List PPart)) ⊕ (Nat × Nat)) : Nat := match r with | .inl (_, bd, _) => bd | .inr _ => 0
theorem ex_bound : boundOf (herP exText) = 5 := by kernel_rfl
theorem view_field (a b c d : Int) (w : World) : (Instr.field 27 (.agg #[.int .i64 a, .int .i64 b, .int .i64 c, .int .i64 d]) 2).run Tryz.prog w = .ok (.int .i64 c) w := by kernel_rfl
attribute [local go_sem] view_field
theorem ex_ok : ∃ pat ps, herP exText = .inl (pat, 5, ps) := by
  have h := ex_bound
  cases hr : herP exText with
  | inr r => rw [hr] at h; cases h
  | inl r =>
    obtain ⟨pat, bd, ps⟩ := r
    rw [hr] at h
    cases h
    exact ⟨pat, ps, rfl⟩

set_option maxRecDepth 100000 in
set_option maxHeartbeats 1600000 in
theorem compiles_p (s t : ByteArray) (w : World) : Calls Tryz.prog 3 #[.string s, .string t] w fun e w' => e = .returned (.bool true) ∧ Below w.heap.size w w' := by
  have hp := prog_compile exText w
  obtain ⟨pat, ps, hr⟩ := ex_ok
  rw [hr] at hp
  clear hr
  unfold exText at hp
  have hc := fun u w1 => compiled_p u w1
  go_enter Tryz.func3, Tryz.ntmps3
  go_wp2_with (first
    | (go_at_call 15; refine hp.mono ?_; rintro e' w1 ⟨v, rfl, hb1, E, X, win, rate, pv, rfl, hE0, hE, hX⟩; have hL := look_p hE hX)
    | (go_at_call 16; refine hL.mono ?_; rintro e' w2 ⟨rfl, hb2⟩; have hB2 : Below w.heap.size w w2 := hb1.trans (hb2.mono hb1.size))
    | (go_at_call 17; refine (hc _ _).mono ?_; rintro e' w3 ⟨rfl, hb3⟩; replace hB2 : Below w.heap.size w w3 := hB2.trans (hb3.mono hB2.size)))
  go_ret
  exact ⟨rfl, hB2⟩

end Go.Proofs.YtddbjcfdmdbmkaaGreatDoor
