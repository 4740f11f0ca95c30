import Derived.Test.YtddbjcfdmdbmkaaGreatDoorB05
set_option linter.unusedVariables false
set_option linter.unusedSimpArgs false
namespace Go.Proofs.YtddbjcfdmdbmkaaGreatDoor
open Go.RowKit

structure Ok2 (σ σ' : Rd) : Prop where
  good : SGood σ'.ahead
  le : σ'.ahead.length ≤ σ.ahead.length
  deep : σ'.deep = σ.deep
theorem Ok.ok2 {d : Nat} {a b : Rd} (h : Ok d a b) : Ok2 a b := ⟨h.good, h.le, h.deep⟩
theorem Ok2.refl {σ : Rd} (h : SGood σ.ahead) : Ok2 σ σ := ⟨h, Nat.le_refl _, rfl⟩
theorem Ok2.trans {a b c : Rd} (h : Ok2 a b) (k : Ok2 b c) : Ok2 a c := ⟨k.good, Nat.le_trans k.le h.le, k.deep.trans h.deep⟩
theorem condP_ok {n : Nat} {σ : Rd} (h : SGood σ.ahead) (hl : σ.ahead.length ≤ n) : Ok2 σ (condP n σ) ∧ (condP n σ).ops.isSome = true := by
  unfold condP; split
  · rename_i hh
    have h2 := h.has (ts := [tIf]) (by simp [KW]) hh
    have c := chainP_ok (bothP_ok (factorP_ok n)) (by omega) (ts := [tOr]) (by simp [KW]) { σ.skip with ops := some [] } (h.tail h2) (by simp only [Rd.skip, List.length_tail]; omega)
    exact ⟨⟨c.good, Nat.le_trans c.le (by show σ.ahead.tail.length ≤ _; rw [List.length_tail]; omega), c.deep⟩, c.live rfl⟩
  · exact ⟨⟨h, Nat.le_refl _, rfl⟩, rfl⟩
theorem dead_ok {σ : Rd} (h : SGood σ.ahead) : Ok2 σ σ.dead := ⟨h, Nat.le_refl _, rfl⟩
def KeepsP {α : Type} (n : Nat) (part : Rd → Rd × α) : Prop := ∀ σ, SGood σ.ahead → σ.ahead.length ≤ n → Ok2 σ (part σ).1
theorem stepP_ok {n : Nat} {σ : Rd} (h : SGood σ.ahead) (h2 : 2 ≤ σ.ahead.length) (hl : σ.ahead.length ≤ n + 1) : Ok2 σ (stepP n σ).1 := by
  have s := skip_ok h h2
  have c := expect_ok s.good (ts := [tColon]) (by simp [KW])
  have a := num_ok c.good 0 99
  have t := ((s.trans c).trans a).ok2
  have hle : ((σ.skip.expect [tColon]).num 0 99).ahead.length ≤ n := by
    have := a.le; have := c.le; rw [skip_len] at this; omega
  unfold stepP
  simp only
  by_cases hh : ((σ.skip.expect [tColon]).num 0 99).has [tTimes] = true
  · simp only [hh, if_true]
    have h3 := a.good.has (ts := [tTimes]) (by simp [KW]) hh
    have s2 := skip_ok a.good h3
    have n2 := num_ok s2.good 1 4
    have k := condP_ok (n := n) n2.good (Nat.le_trans n2.le (Nat.le_trans s2.le hle))
    exact (t.trans ((s2.trans n2).ok2.trans k.1)).trans (dead_ok k.1.good)
  · simp only [hh]
    have k := condP_ok (n := n) a.good hle
    exact (t.trans k.1).trans (dead_ok k.1.good)
theorem guardP_ok {n : Nat} {σ : Rd} (h : SGood σ.ahead) (h2 : 2 ≤ σ.ahead.length) (hl : σ.ahead.length ≤ n + 1) : Ok2 σ (guardP n σ).1 := by
  have s := skip_ok h h2
  have a := num_ok s.good 0 99
  have k := condP_ok (n := n) a.good (by have := a.le; rw [skip_len] at this; omega)
  exact ((s.trans a).ok2.trans k.1).trans (dead_ok k.1.good)
theorem seqL_ok {n : Nat} {part : Rd → Rd × PPart} (hp : KeepsP n part) : ∀ k σ l, SGood σ.ahead → σ.ahead.length ≤ n → Ok2 σ (seqL part k σ l).1 := by
  intro k
  induction k with
  | zero => intro σ l h _; exact Ok2.refl h
  | succ k ih =>
    intro σ l h hl
    unfold seqL; split
    · rename_i hh
      have h2 := h.has (ts := [tThen]) (by simp [KW]) hh
      have s := skip_ok h h2
      have p := hp _ s.good (Nat.le_trans s.le hl)
      exact (s.ok2.trans p).trans (ih _ _ p.good (Nat.le_trans p.le (Nat.le_trans s.le hl)))
    · exact Ok2.refl h
theorem seqP_ok {n : Nat} {part : Rd → Rd × PPart} (hp : KeepsP n part) : KeepsP n (seqP part) := by
  intro σ h hl
  have p := hp σ h hl
  exact p.trans (seqL_ok hp _ _ _ p.good (Nat.le_trans p.le hl))
theorem barL_ok {n : Nat} {seq : Rd → Rd × List PPart} (hp : KeepsP n seq) : ∀ k σ l, SGood σ.ahead → σ.ahead.length ≤ n → Ok2 σ (barL seq k σ l).1 := by
  intro k
  induction k with
  | zero => intro σ l h _; exact Ok2.refl h
  | succ k ih =>
    intro σ l h hl
    unfold barL; split
    · rename_i hh
      have h2 := h.has (ts := [tBar]) (by simp [KW]) hh
      have s := skip_ok h h2
      have p := hp _ s.good (Nat.le_trans s.le hl)
      exact (s.ok2.trans p).trans (ih _ _ p.good (Nat.le_trans p.le (Nat.le_trans s.le hl)))
    · exact Ok2.refl h
theorem bracketsP_ok {n : Nat} {seq : Rd → Rd × List PPart} (hp : KeepsP n seq) {σ : Rd} (h : SGood σ.ahead) (h2 : 2 ≤ σ.ahead.length) (hl : σ.ahead.length ≤ n + 1) : Ok2 σ (bracketsP seq σ).1 := by
  have hle : σ.enter.ahead.length ≤ n := by rw [enter_len]; omega
  have a := hp σ.enter (h.tail h2) hle
  have b := expect_ok a.good (ts := [tBar]) (by simp [KW])
  have hb := Nat.le_trans b.le (Nat.le_trans a.le hle)
  have c := hp _ b.good hb
  have d := barL_ok hp (seq ((seq σ.enter).1.expect [tBar])).1.ahead.length _ [(seq σ.enter).2, (seq ((seq σ.enter).1.expect [tBar])).2] c.good (Nat.le_trans c.le hb)
  have e := expect_ok d.good (ts := [tClose]) (by simp [KW])
  have t := ((a.trans b.ok2).trans (c.trans d)).trans e.ok2
  refine ⟨t.good, ?_, ?_⟩
  · have := t.le; rw [enter_len] at this; show _ ≤ _; simp only [bracketsP, Rd.leave] at *; omega
  · have := t.deep; simp only [bracketsP, Rd.leave, Rd.enter] at *; omega
theorem partP_ok : ∀ n, KeepsP n (partP n) := by
  intro n
  induction n with
  | zero => intro σ h hl; have := h.pos; omega
  | succ n ih =>
    intro σ h hl
    unfold partP
    split
    · rename_i hk; exact stepP_ok h (h.more (by show 2 ≤ σ.now.kind; omega)) hl
    split
    · rename_i hm; exact guardP_ok h (h.is (by simp [KW]) hm) hl
    split
    · rename_i hm; exact bracketsP_ok (seqP_ok ih) h (h.is (by simp [KW]) hm) hl
    · exact (fail_ok h).ok2
end Go.Proofs.YtddbjcfdmdbmkaaGreatDoor

namespace Go.Proofs.YtddbjcfdmdbmkaaGreatDoor
open Go.RowKit

theorem cell_eq {w w' : World} {b : Nat} (h : w'.heap[b]? = w.heap[b]?) (k : Nat) : w'.cell? ⟨b, k, none⟩ = w.cell? ⟨b, k, none⟩ := by
  unfold World.cell?; simp only [h]

structure TokRow (w : World) (tg toff : Nat) (l : List STok) : Prop where
  lt : tg < w.heap.size
  c0 : ∀ j, (h : j < l.length) → w.cell? ⟨tg, (toff + j) * 3, none⟩ = some (.int .i64 l[j].kind)
  c1 : ∀ j, (h : j < l.length) → w.cell? ⟨tg, (toff + j) * 3 + 1, none⟩ = some (.int .i64 l[j].place)
  c2 : ∀ j, (h : j < l.length) → w.cell? ⟨tg, (toff + j) * 3 + 2, none⟩ = some (.string l[j].text)
theorem TokRow.of_eq {w w' : World} {tg toff : Nat} {l : List STok} (h : TokRow w tg toff l) (e : w'.heap[tg]? = w.heap[tg]?) (hs : w.heap.size ≤ w'.heap.size) : TokRow w' tg toff l :=
  ⟨Nat.lt_of_lt_of_le h.lt hs, fun j hj => (cell_eq e _).trans (h.c0 j hj), fun j hj => (cell_eq e _).trans (h.c1 j hj), fun j hj => (cell_eq e _).trans (h.c2 j hj)⟩
theorem TokRow.tail {w : World} {tg toff : Nat} {l : List STok} (h : TokRow w tg toff l) : TokRow w tg (toff + 1) l.tail := by
  have e : ∀ j, toff + 1 + j = toff + (j + 1) := fun j => by omega
  refine ⟨h.lt, fun j hj => ?_, fun j hj => ?_, fun j hj => ?_⟩ <;> (rw [List.length_tail] at hj; rw [e, List.getElem_tail])
  · exact h.c0 (j + 1) (by omega)
  · exact h.c1 (j + 1) (by omega)
  · exact h.c2 (j + 1) (by omega)

structure RM where
  tg : Nat
  toff : Nat
  tcap : Nat
  ov : Value
def RCells (m : RM) (σ : Rd) : Array Value :=
  #[.slice (some ⟨m.tg, m.toff * 3, none⟩) σ.ahead.length m.tcap, .int .i64 σ.deep, .bool σ.td.isSome, .int .i64 (σ.td.getD 0 : Nat), .bool σ.bn.isSome, .int .i64 (σ.bn.getD 0 : Nat), m.ov]

structure RSt (own : Nat → Nat) (w : World) (b : Nat) (m : RM) (σ : Rd) : Prop where
  blk : Blk w b (RCells m σ) 177
  ob : own b = 1
  toks : TokRow w m.tg m.toff σ.ahead
  ot : own m.tg = 7
  cap : σ.ahead.length ≤ m.tcap
  live : ∀ l, σ.ops = some l → w.ownsRow 0 241 4 m.ov l.length (flat POp.cells l) ∧ ∀ g, m.ov.ownBlock = some g → own g = 2

def AfterR (own : Nat → Nat) (w : World) (b : Nat) (σ : Rd) (w' : World) : Prop := ∃ own' m', RSt own' w' b m' σ ∧ Ext own w own' w'

theorem RSt.own7 {own : Nat → Nat} {w : World} {b : Nat} {m : RM} {σ : Rd} (h : RSt own w b m σ) : own b < 7 := by rw [h.ob]; decide
theorem RSt.tgne {own : Nat → Nat} {w : World} {b : Nat} {m : RM} {σ : Rd} (h : RSt own w b m σ) : m.tg ≠ b := fun e => by have := h.ot; rw [e, h.ob] at this; cases this
theorem RSt.cell {own : Nat → Nat} {w : World} {b : Nat} {m : RM} {σ : Rd} (h : RSt own w b m σ) (k : Nat) : w.cell? ⟨b, k, none⟩ = (RCells m σ)[k]? := h.blk.cell k

theorem RSt.grow {own : Nat → Nat} {w w' : World} {b : Nat} {m : RM} {σ : Rd} (h : RSt own w b m σ) (hg : w.grownBy w' none) : RSt own w' b m σ := by
  have hn : ∀ (c : Nat) (g : Nat), (none : Option Nat) = some g → own g ≠ c := fun _ _ e => by cases e
  exact ⟨h.blk.of_eq (hg.block b h.blk.lt (by simp)), h.ob, h.toks.of_eq (hg.block _ h.toks.lt (by simp)) hg.size, h.ot, h.cap, fun l hl => ⟨row_kept 2 (h.live l hl).1 (h.live l hl).2 hg (hn 2), (h.live l hl).2⟩⟩
theorem RSt.alloc {own : Nat → Nat} {w : World} {b : Nat} {m : RM} {σ : Rd} (h : RSt own w b m σ) (o : Obj) : RSt own (w.alloc o) b m σ := h.grow (World.grownBy_alloc w o none)
theorem RSt.drew {own : Nat → Nat} {w : World} {b : Nat} {m : RM} {σ : Rd} (h : RSt own w b m σ) : RSt own w.drew b m σ := h.grow (grownBy_drew w none)
theorem RSt.drewN {own : Nat → Nat} {w : World} {b : Nat} {m : RM} {σ : Rd} (h : RSt own w b m σ) (n : Nat) : RSt own (w.drewN n) b m σ := h.grow (grownBy_drewN w n none)
theorem RSt.owner {own own' : Nat → Nat} {w : World} {b : Nat} {m : RM} {σ : Rd} (h : RSt own w b m σ) (he : ∀ k, k < w.heap.size → own' k = own k) : RSt own' w b m σ :=
  ⟨h.blk, (he b h.blk.lt).trans h.ob, h.toks, (he _ h.toks.lt).trans h.ot, h.cap, fun l hl => ⟨(h.live l hl).1, fun g hg => (he g ((h.live l hl).1.lt g hg).2).trans ((h.live l hl).2 g hg)⟩⟩
theorem RSt.store {own : Nat → Nat} {w : World} {b : Nat} {m m' : RM} {σ σ' : Rd} (h : RSt own w b m σ) (k : Nat) (v : Value) (hc : (RCells m σ).setIfInBounds k v = RCells m' σ')
    (ht : TokRow w m'.tg m'.toff σ'.ahead) (hot : own m'.tg = 7) (hcap : σ'.ahead.length ≤ m'.tcap)
    (hl : ∀ l, σ'.ops = some l → w.ownsRow 0 241 4 m'.ov l.length (flat POp.cells l) ∧ ∀ g, m'.ov.ownBlock = some g → own g = 2) : RSt own (w.setCell ⟨b, k, none⟩ v) b m' σ' := by
  have hg := grownBy_setCell w ⟨b, k, none⟩ v
  have ho : ∀ (c : Nat), c ≠ 1 → ∀ (g : Nat), some b = some g → own g ≠ c := fun c hc g e => by cases e; rw [h.ob]; exact Ne.symm hc
  have hne : m'.tg ≠ b := fun e => by rw [e, h.ob] at hot; cases hot
  exact ⟨by rw [← hc]; exact h.blk.set k v, h.ob, ht.of_eq (hg.block _ ht.lt (fun e => hne (Option.some.inj e))) hg.size, hot, hcap, fun l e => ⟨row_kept 2 (hl l e).1 (hl l e).2 hg (ho 2 (by decide)), (hl l e).2⟩⟩
theorem RSt.store1 {own : Nat → Nat} {w : World} {b : Nat} {m : RM} {σ σ' : Rd} (h : RSt own w b m σ) (k : Nat) (v : Value) (hc : (RCells m σ).setIfInBounds k v = RCells m σ')
    (ha : σ'.ahead = σ.ahead) (ho : σ'.ops = σ.ops) : RSt own (w.setCell ⟨b, k, none⟩ v) b m σ' :=
  h.store k v hc (by rw [ha]; exact h.toks) h.ot (by rw [ha]; exact h.cap) (by rw [ho]; exact h.live)
theorem RSt.write8 {own : Nat → Nat} {w : World} {b : Nat} {m : RM} {σ : Rd} (h : RSt own w b m σ) {p : Addr} (hp : own p.block = 8) (v : Value) : RSt own (w.setCell p v) b m σ := by
  have hg := grownBy_setCell w p v
  have ho : ∀ (c : Nat), c ≠ 8 → ∀ (g : Nat), some p.block = some g → own g ≠ c := fun c hc g e => by cases e; rw [hp]; exact Ne.symm hc
  have hne : m.tg ≠ p.block := fun e => by have := h.ot; rw [e, hp] at this; cases this
  exact ⟨h.blk.other p v (fun e => by rw [e, h.ob] at hp; cases hp), h.ob, h.toks.of_eq (hg.block _ h.toks.lt (fun e => hne (Option.some.inj e))) hg.size, h.ot, h.cap, fun l hl => ⟨row_kept 2 (h.live l hl).1 (h.live l hl).2 hg (ho 2 (by decide)), (h.live l hl).2⟩⟩
theorem RSt.far {own : Nat → Nat} {w w1 : World} {b : Nat} {m : RM} {σ : Rd} {row : Option Nat} {c0 : Nat} (h : RSt own w b m σ) (hg : w.grownBy w1 row) (hr : ∀ k, row = some k → own k = c0) (hc : 1 ≠ c0) : Blk w1 b (RCells m σ) 177 :=
  h.blk.of_eq (hg.block b h.blk.lt (fun e => by have := hr b e.symm; rw [h.ob] at this; exact hc this))
theorem RSt.app {own : Nat → Nat} {w w1 : World} {b : Nat} {m : RM} {σ : Rd} {l : List POp} {g cap : Nat} (h : RSt own w b m σ) (hl : σ.ops = some l) (x : POp)
    (hown : w1.ownsRow 0 241 4 (.slice (some ⟨g, 0, none⟩) (l.length + 1) cap) (l.length + 1) (flat POp.cells l ++ POp.cells x))
    (hg : w.grownBy w1 m.ov.ownBlock) (hat : m.ov.ownBlock = some g ∨ g = w.heap.size) :
    RSt (Go.Proofs.YtddbjcfdmdbmkaaGreatDoor.put own g 2) (w1.setCell ⟨b, 6, none⟩ (.slice (some ⟨g, 0, none⟩) (l.length + 1) cap)) b { m with ov := .slice (some ⟨g, 0, none⟩) (l.length + 1) cap } (σ.put x) ∧
    Ext own w (Go.Proofs.YtddbjcfdmdbmkaaGreatDoor.put own g 2) (w1.setCell ⟨b, 6, none⟩ (.slice (some ⟨g, 0, none⟩) (l.length + 1) cap)) := by
  have hr := (h.live l hl).2
  have hob : Go.Proofs.YtddbjcfdmdbmkaaGreatDoor.put own g 2 b = 1 := (put_old 2 hr hat b h.blk.lt).trans h.ob
  have hblk := h.far hg hr (by decide)
  have hgb := grownBy_setCell w1 ⟨b, 6, none⟩ (.slice (some ⟨g, 0, none⟩) (l.length + 1) cap)
  have ho : ∀ (c : Nat), c ≠ 1 → ∀ (k : Nat), some b = some k → Go.Proofs.YtddbjcfdmdbmkaaGreatDoor.put own g 2 k ≠ c := fun c hc k e => by cases e; rw [hob]; exact Ne.symm hc
  have htg : m.ov.ownBlock ≠ some m.tg := fun e => by have := hr _ e; rw [h.ot] at this; cases this
  have htk := h.toks.of_eq (hg.block _ h.toks.lt (fun e => htg e.symm)) hg.size
  have hot : Go.Proofs.YtddbjcfdmdbmkaaGreatDoor.put own g 2 m.tg = 7 := (put_old 2 hr hat _ h.toks.lt).trans h.ot
  have hne : m.tg ≠ b := h.tgne
  refine ⟨⟨?_, hob, htk.of_eq (hgb.block _ htk.lt (fun e => hne (Option.some.inj e))) hgb.size, hot, h.cap, ?_⟩, (Ext.grown (g := g) 2 hg hr (by decide) hat).setCell (p := ⟨b, 6, none⟩) (by rw [hob]; decide) _⟩
  · have := hblk.set 6 (.slice (some ⟨g, 0, none⟩) (l.length + 1) cap)
    simpa [RCells, Rd.put] using this
  · intro l' e
    simp only [Rd.put, hl, Option.map_some] at e
    cases e
    refine ⟨?_, fun k e => by cases e; exact put_same _ _ _⟩
    simp only [flat_snoc, List.length_append, List.length_cons, List.length_nil, Nat.zero_add]
    exact row_kept 2 hown (own := Go.Proofs.YtddbjcfdmdbmkaaGreatDoor.put own g 2) (fun k e => by cases e; exact put_same _ _ _) hgb (ho 2 (by decide))
theorem AfterR.of {own own' : Nat → Nat} {w w' : World} {b : Nat} {m : RM} {σ : Rd} (h : RSt own' w' b m σ) (e : Ext own w own' w') : AfterR own w b σ w' := ⟨own', m, h, e⟩
theorem headD_eq {l : List STok} (h : 0 < l.length) : l.headD default = l[0] := by
  cases l with
  | nil => simp at h
  | cons a l => rfl
theorem RSt.tok {own : Nat → Nat} {w : World} {b : Nat} {m : RM} {σ : Rd} (h : RSt own w b m σ) (hp : 0 < σ.ahead.length) :
    w.cell? ⟨m.tg, m.toff * 3, none⟩ = some (.int .i64 σ.now.kind) ∧ w.cell? ⟨m.tg, m.toff * 3 + 1, none⟩ = some (.int .i64 σ.now.place) ∧ w.cell? ⟨m.tg, m.toff * 3 + 2, none⟩ = some (.string σ.now.text) := by
  have e : σ.now = σ.ahead[0] := headD_eq hp
  have h0 := h.toks.c0 0 hp; have h1 := h.toks.c1 0 hp; have h2 := h.toks.c2 0 hp
  rw [Nat.add_zero] at h0 h1 h2
  rw [e]; exact ⟨h0, h1, h2⟩
end Go.Proofs.YtddbjcfdmdbmkaaGreatDoor
