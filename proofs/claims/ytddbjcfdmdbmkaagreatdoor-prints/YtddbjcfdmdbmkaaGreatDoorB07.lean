import Derived.Test.YtddbjcfdmdbmkaaGreatDoorB04
import Derived.Deep.LoopGhost
set_option linter.unusedVariables false
set_option linter.unusedSimpArgs false
/-
  sequence: the walk.
-/
namespace Go.Proofs.YtddbjcfdmdbmkaaGreatDoor
open Go.RowKit

theorem row_of_block {w w' : World} {base : Nat} {e : TypeId} {size : Nat} {v : Value} {n : Nat} {xs : List Value} (h : w.ownsRow base e size v n xs) (hb : ∀ g, v.ownBlock = some g → w'.heap[g]? = w.heap[g]?) : w'.ownsRow base e size v n xs := by
  refine ⟨h.1, ?_⟩
  rcases h.2 with hn | ⟨g, cap, cur, rfl, h1, h2, rest⟩
  · exact .inl hn
  · exact .inr ⟨g, cap, cur, rfl, h1, (hb g rfl).trans h2, rest⟩
theorem row_ext {own own' : Nat → Nat} {w w' : World} {base : Nat} {e : TypeId} {size : Nat} {v : Value} {n : Nat} {xs : List Value} (h : w.ownsRow base e size v n xs) (ho : ∀ g, v.ownBlock = some g → 7 ≤ own g) (hE : Ext own w own' w') : w'.ownsRow base e size v n xs :=
  row_of_block h fun g hg => hE.kept.block g ⟨(h.lt g hg).2, ho g hg⟩
theorem Ints.ext {own own' : Nat → Nat} {w w' : World} {v : Value} {l : List Nat} (h : Ints own w v l) (hE : Ext own w own' w') : Ints own' w' v l := by
  obtain ⟨⟨k, h⟩, ho⟩ := h
  exact ⟨⟨k, row_ext h (fun g hg => by rw [ho g hg]; exact Nat.le_refl _) hE⟩, fun g hg => (hE.same g (h.lt g hg).2).trans (ho g hg)⟩

/-- Another colour for a block of the caller's own. -/
theorem row_recolor {own : Nat → Nat} {v : Value} {g c d : Nat} (ho : ∀ k, v.ownBlock = some k → own k = c) (hg : 7 < own g) (hc : c ≤ 7) : ∀ k, v.ownBlock = some k → put own g d k = c := fun k hk => by
  rw [put_other]; exact ho k hk
  intro e; subst e; rw [ho k hk] at hg; omega
theorem Ints.recolor {own : Nat → Nat} {w : World} {v : Value} {l : List Nat} {g d : Nat} (h : Ints own w v l) (hg : 7 < own g) : Ints (put own g d) w v l := ⟨h.1, row_recolor h.2 hg (by decide)⟩
theorem Wayz.recolor {own : Nat → Nat} {w : World} {v : Value} {l : List (List Nat)} {g d : Nat} (h : Wayz own w v l) (hg : 7 < own g) : Wayz (put own g d) w v l := by
  obtain ⟨vs, h, ho, hl, hi⟩ := h
  exact ⟨vs, h, row_recolor ho hg (by decide), hl, fun i h1 h2 => (hi i h1 h2).recolor hg⟩
theorem St.recolor {own : Nat → Nat} {w : World} {b : Nat} {m : PM} {σ : PSt} {g : Nat} (d : Nat) (h : St own w b m σ) (hg : 7 < own g) : St (put own g d) w b m σ :=
  ⟨h.blk, by rw [put_other]; exact h.ob; intro e; rw [e] at h; have := h.ob; omega, h.toks, by rw [put_other]; exact h.ot; intro e; have := h.ot; rw [e] at this; omega,
    h.nums, row_recolor h.on hg (by decide), h.lo, row_recolor h.ol hg (by decide), h.hi, row_recolor h.oh hg (by decide), h.nodes, row_recolor h.od hg (by decide),
    h.parts, row_recolor h.op hg (by decide), fun p hp => (h.ways p hp).recolor hg, h.wlen, h.tlen, h.ilt, h.wlo⟩

/-- An append to a row of the caller's own. -/
theorem St.appD (c : Nat) (hc : 7 < c) {own : Nat → Nat} {w w1 : World} {b : Nat} {m : PM} {σ : PSt} {row : Option Nat} {g : Nat} (h : St own w b m σ) (hr : ∀ k, row = some k → own k = c) (hg : w.grownBy w1 row) (hat : row = some g ∨ g = w.heap.size) : St (put own g c) w1 b m σ := by
  have toks := row_moved (g := g) 7 c h.toks (fun k e => by cases e; exact h.ot) hg hr (by omega) hat
  have r2 := row_moved (g := g) 2 c h.nums h.on hg hr (by omega) hat
  have r3 := row_moved (g := g) 3 c h.lo h.ol hg hr (by omega) hat
  have r4 := row_moved (g := g) 4 c h.hi h.oh hg hr (by omega) hat
  have r5 := row_moved (g := g) 5 c h.nodes h.od hg hr (by omega) hat
  have r6 := row_moved (g := g) 6 c h.parts h.op hg hr (by omega) hat
  exact ⟨h.far hg hr (by omega), (put_old c hr hat b h.blk.lt).trans h.ob, toks.1, toks.2 _ rfl, r2.1, r2.2, r3.1, r3.2, r4.1, r4.2, r5.1, r5.2, r6.1, r6.2,
    fun p hp => (h.ways p hp).moved c hg hr (by omega) hat, h.wlen, h.tlen, h.ilt, h.wlo⟩
theorem Ext.appD (c : Nat) {own0 own : Nat → Nat} {w0 w w1 : World} {row : Option Nat} {g : Nat} (hE : Ext own0 w0 own w) (hg : w.grownBy w1 row) (hr : ∀ k, row = some k → w0.heap.size ≤ k) (hat : row = some g ∨ g = w.heap.size) : Ext own0 w0 (put own g c) w1 :=
  ⟨fun k hk => by
    rw [put_other]; exact hE.same k hk
    intro e; subst e
    rcases hat with e | e
    · have := hr k e; omega
    · have := hE.size; omega,
   hE.kept.grown hg (fun k hk => Nat.lt_of_lt_of_le hk.1 hE.size) (fun k e hk => by have := hr k e; have := hk.1; omega)⟩

/-- The loop of sequence: so many rounds more. -/
inductive SWd (out : List Nat) (σ' : PSt) : Nat → List Nat → PSt → Prop
  | stop {acc : List Nat} {r : Nat} {σ σ1 : PSt} : acc.length ≤ 10000 → PartCd r σ σ1 → σ1.toks = σ.toks → σ1.isS bThen = false → out = acc ++ [r] → σ' = σ1 → SWd out σ' 0 acc σ
  | more {n : Nat} {acc : List Nat} {r : Nat} {σ σ1 : PSt} : acc.length ≤ 10000 → PartCd r σ σ1 → σ1.toks = σ.toks → σ1.isS bThen = true → SWd out σ' n (acc ++ [r]) σ1.adv → SWd out σ' (n + 1) acc σ

/-- what holds in it -/
def SL (out : List Nat) (σ' : PSt) (own : Nat → Nat) (w : World) (b : Nat) (k : Nat) (v : Value) (wr : World) : Prop :=
  ∃ acc σc own' m', SWd out σ' k acc σc ∧ Good σc.toks ∧ St own' wr b m' σc ∧ Ext own w own' wr ∧ wr.ownsRow 0 3 1 v acc.length (acc.map fun n : Nat => Value.int .i64 (n : Int)) ∧ ∀ g, v.ownBlock = some g → own' g = 8 ∧ w.heap.size ≤ g

def SeqPost (own : Nat → Nat) (w : World) (b : Nat) (out : List Nat) (σ' : PSt) (v : Value) (w' : World) : Prop := ∃ own' m', St own' w' b m' σ' ∧ Ext own w own' w' ∧ Ints own' w' v out

set_option maxRecDepth 100000 in
set_option maxHeartbeats 800000 in
theorem seq_walk {out : List Nat} {σ σ' : PSt} {n : Nat} (hg : Good σ.toks) (hs : SWd out σ' n [] σ) (own : Nat → Nat) (w : World) (b : Nat) (m : PM) (h : St own w b m σ) :
    Calls Tryz.prog 95 #[.pointer (some ⟨b, 0, none⟩)] w fun e w' => ∃ v, e = .returned v ∧ SeqPost own w b out σ' v w' := by
  have hS0 : SL out σ' own w b n (.slice none 0 0) w := ⟨[], σ, own, m, hs, hg, h, Ext.refl _ _, World.ownsRow_nil _ _ _ _, fun g hg => by simp [Value.ownBlock] at hg⟩
  clear hs h hg
  go_enter Tryz.func95, Tryz.ntmps95
  go_wp2_with fail
  go_loopg [3] n (fun k v wr => SL out σ' own w b k v wr)
  case atStart => exact hS0
  case round =>
    obtain ⟨acc, σc, own', m', hSW, hG, hS, hE, hrow, hcol⟩ := hrel
    clear hS0
    obtain ⟨j0, hj0, hy0, hy1, hy2⟩ := info_parts Tryz.infoInt
    cases hSW with
    | @stop _ r _ σ1 hlen hP hts hno hout hs' =>
      subst hout hs'
      go_wp2_with fail
      refine (hP own' wr b m' hS).mono ?_
      rintro e w1 ⟨rfl, own1, m1, hS1, hE1⟩
      have hrow1 := row_ext hrow (fun g hg => by rw [(hcol g hg).1]; decide) hE1
      have hcol1 : ∀ g, _ → own1 g = 8 ∧ w.heap.size ≤ g := fun g hg => ⟨(hE1.same g (hrow.lt g hg).2).trans (hcol g hg).1, (hcol g hg).2⟩
      have hE2 := hE.trans hE1
      have hg1 : Good σ'.toks := by rw [hts]; exact hG
      clear hrow hcol hE hE1 hS
      go_wp2_with (at_builtin; refine wpList_append_lies _ rfl (.tmp 8) (.tmp 10) 48 rfl 0 3 j0 _ 1 8 Tryz.underlying48 hj0 hy0 hy1 hy2 rfl (by decide) _ acc.length (acc.map fun n : Nat => Value.int .i64 (n : Int)) (by rfl) (hrow1.alloc _) ⟨w1.heap.size, 0, none⟩ 1 1 [.int .i64 r] (by rfl) rfl (World.news_of_block (alloc_at _ _ _ (by simp))) (by simp [Value.oneCell']) (by decide) (by unfold maxLen; omega) (by omega) (Nat.zero_le _) (w1.heap.size + 1) (by simp) ?_; intro g cap w2 hown hgrow hat hlt)
      have hS2 := (hS1.alloc _).appD 8 (by decide) (fun k hk => (hcol1 k hk).1) hgrow (by simpa using hat)
      have hE3 := (hE2.alloc _).appD 8 hgrow (fun k hk => (hcol1 k hk).2) (by simpa using hat)
      have hg8 : put own1 g 8 g = 8 := put_same _ _ _
      have hgw : w.heap.size ≤ g := by
        rcases hat with e | e
        · exact (hcol1 g e).2
        · have := hE2.size; omega
      clear hgrow hat hrow1 hcol1 hE2 hS1
      have HM : Hid (σ'.may bThen = σ') := by show _ = _; simp [PSt.may, hno]
      refine (may_any hS2 hg1.inv bThen).mono ?_
      rintro e w3 ⟨rfl, hS3, hE4⟩
      rw [hno]
      rw [HM.out] at hS3
      have hrow3 := row_ext hown (own := put own1 g 8) (fun k e => by cases e; rw [hg8]; decide) hE4
      go_wp2_with fail
      go_ret
      refine ⟨_, rfl, put (put own1 g 8) g 7, m1, hS3.recolor 7 (by rw [hg8]; decide), ⟨fun k hk => ?_, (hE3.trans hE4).kept⟩, ⟨⟨_, by simpa using hrow3⟩, fun k e => by cases e; exact put_same _ _ _⟩⟩
      rw [put_other _ _ _ _ (by omega)]; exact (hE3.trans hE4).same k hk
    | @more gn _ r _ σ1 hlen hP hts hyes hSW =>
      go_wp2_with fail
      refine (hP own' wr b m' hS).mono ?_
      rintro e w1 ⟨rfl, own1, m1, hS1, hE1⟩
      have hrow1 := row_ext hrow (fun g hg => by rw [(hcol g hg).1]; decide) hE1
      have hcol1 : ∀ g, _ → own1 g = 8 ∧ w.heap.size ≤ g := fun g hg => ⟨(hE1.same g (hrow.lt g hg).2).trans (hcol g hg).1, (hcol g hg).2⟩
      have hE2 := hE.trans hE1
      have hg1 : Good σ1.toks := by rw [hts]; exact hG
      clear hrow hcol hE hE1 hS
      go_wp2_with (at_builtin; refine wpList_append_lies _ rfl (.tmp 8) (.tmp 10) 48 rfl 0 3 j0 _ 1 8 Tryz.underlying48 hj0 hy0 hy1 hy2 rfl (by decide) _ acc.length (acc.map fun n : Nat => Value.int .i64 (n : Int)) (by rfl) (hrow1.alloc _) ⟨w1.heap.size, 0, none⟩ 1 1 [.int .i64 r] (by rfl) rfl (World.news_of_block (alloc_at _ _ _ (by simp))) (by simp [Value.oneCell']) (by decide) (by unfold maxLen; omega) (by omega) (Nat.zero_le _) (w1.heap.size + 1) (by simp) ?_; intro g cap w2 hown hgrow hat hlt)
      have hS2 := (hS1.alloc _).appD 8 (by decide) (fun k hk => (hcol1 k hk).1) hgrow (by simpa using hat)
      have hE3 := (hE2.alloc _).appD 8 hgrow (fun k hk => (hcol1 k hk).2) (by simpa using hat)
      have hg8 : put own1 g 8 g = 8 := put_same _ _ _
      have hgw : w.heap.size ≤ g := by
        rcases hat with e | e
        · exact (hcol1 g e).2
        · have := hE2.size; omega
      clear hgrow hat hrow1 hcol1 hE2 hS1
      have HM : Hid (σ1.may bThen = σ1.adv) := by show _ = _; simp [PSt.may, hyes, PSt.adv]
      refine (may_any hS2 hg1.inv bThen).mono ?_
      rintro e w3 ⟨rfl, hS3, hE4⟩
      rw [hyes]
      rw [HM.out] at hS3
      have hrow3 := row_ext hown (own := put own1 g 8) (fun k e => by cases e; rw [hg8]; decide) hE4
      go_wp2_with fail
      go_roundg gn
      case measure => omega
      case rel => exact ⟨acc ++ [r], σ1.adv, put own1 g 8, m1, hSW, hg1, hS3, hE3.trans hE4, by simpa using hrow3, fun k e => by cases e; exact ⟨hg8, hgw⟩⟩
end Go.Proofs.YtddbjcfdmdbmkaaGreatDoor

/-
  part: steps and guards.
-/
namespace Go.Proofs.YtddbjcfdmdbmkaaGreatDoor
open Go.RowKit
attribute [local go_sem ↓] Go.wp_at_zero Go.wp_at_succ

/-- A part that is being made, in a block of the caller's own. -/
structure XAt (own : Nat → Nat) (w : World) (b : Nat) (σ : PSt) (own1 : Nat → Nat) (m1 : PM) (X : Nat) (cs : Array Value) (w1 : World) : Prop where
  st : St own1 w1 b m1 σ
  ext : Ext own w own1 w1
  blk : Blk w1 X cs 202
  col : own1 X = 8
  new : w.heap.size ≤ X
theorem XAt.next {own own1 own2 : Nat → Nat} {w w1 w2 : World} {b : Nat} {σ σ2 : PSt} {m1 m2 : PM} {X : Nat} {cs : Array Value} (h : XAt own w b σ own1 m1 X cs w1) (hS : St own2 w2 b m2 σ2) (hE : Ext own1 w1 own2 w2) : XAt own w b σ2 own2 m2 X cs w2 :=
  ⟨hS, h.ext.trans hE, hE.blk8 h.col h.blk, (hE.same X h.blk.lt).trans h.col, h.new⟩
theorem XAt.write {own own1 : Nat → Nat} {w w1 : World} {b : Nat} {σ : PSt} {m1 : PM} {X : Nat} {cs : Array Value} (h : XAt own w b σ own1 m1 X cs w1) (k : Nat) (v : Value) : XAt own w b σ own1 m1 X (cs.setIfInBounds k v) (w1.setCell ⟨X, k, none⟩ v) :=
  ⟨h.st.write8 (p := ⟨X, k, none⟩) h.col v, h.ext.setNew (p := ⟨X, k, none⟩) h.new v, h.blk.set k v, h.col, h.new⟩
theorem XAt.ne {own own1 : Nat → Nat} {w w1 : World} {b : Nat} {σ : PSt} {m1 : PM} {X : Nat} {cs : Array Value} (h : XAt own w b σ own1 m1 X cs w1) : b ≠ X := fun e => by have := h.st.ob; rw [e, h.col] at this; cases this

def PX (pos : Int) (gd : Bool) (nm : ByteArray) (kd tm cd : Int) (wv : Value) : Array Value := #[.int .i64 pos, .bool gd, .string nm, .int .i64 kd, .int .i64 tm, .int .i64 cd, wv]
theorem Tryz.infoPartD : (Tryz.prog.info? 202).map (fun i => (i.zero, i.size, i.bytes)) = some (some (.agg #[.int .i64 0, .bool false, .string ⟨#[]⟩, .int .i64 0, .int .i64 0, .int .i64 0, .slice none 0 0]), 7, 80) := by kernel_rfl
theorem tok_field (k : Int) (s : ByteArray) (p n : Int) (w : World) : (Instr.field 150 (.agg #[.int .i64 k, .string s, .int .i64 p, .int .i64 n]) 2).run Tryz.prog w = .ok (.int .i64 p) w := by kernel_rfl
theorem x_new {own : Nat → Nat} {w : World} {b : Nat} {m : PM} {σ : PSt} (h : St own w b m σ) (o : Obj) (cs : Array Value) : XAt own w b σ (put own (w.heap.size + 1) 8) m (w.heap.size + 1) cs ((w.alloc o).alloc (.cells cs 202)).drew :=
  ⟨(((h2st h (w.heap.size + 1) (by omega)).alloc _).alloc _).drew, ⟨fun k hk => put_other _ _ _ _ (by omega), ((((Ext.refl own w).alloc o).alloc _).drew).kept⟩, alloc_at _ _ _ (by simp), put_same _ _ _, by omega⟩
theorem Wayz.nil (own : Nat → Nat) (w : World) : Wayz own w (.slice none 0 0) [] := ⟨[], World.ownsRow_nil _ _ _ _, fun g hg => by simp [Value.ownBlock] at hg, rfl, fun i h => by simp at h⟩

set_option maxRecDepth 100000 in
set_option maxHeartbeats 1600000 in
theorem part_n_plain {σ : PSt} (hg : Good σ.toks) (hp : σ.isS ⟨#[40]⟩ = false) (hn : σ.isS bNot = true) (hs1 : σ.hSt.Small) (hi : σ.tSt.isS bIf = false) (hb : σ.tSt.parts.length ≤ 100000) :
    PartCd σ.tSt.parts.length σ (σ.tSt.addPart ⟨σ.now.pos, true, mt, σ.hSt.numV, 1, -1, []⟩) := by
  intro own w b m h
  have HP : Hid (σ.isS ⟨#[40]⟩ = false) := hp
  have HMP : Hid (σ.may ⟨#[40]⟩ = σ) := by show _ = _; simp [PSt.may, hp]
  have HN : Hid (σ.isS bNot = true) := hn
  have HMN : Hid (σ.may bNot = σ.adv) := by show _ = _; simp [PSt.may, hn, PSt.adv]
  have HH : Hid (σ.hSt = σ.adv) := by show _ = _; simp [PSt.hSt, hn]
  have HT : Hid (σ.tSt = σ.kSt) := by show _ = _; simp [PSt.tSt, PSt.hasT, hn]
  have HK : Hid (σ.kSt = σ.hSt.num 0 99) := rfl
  have HI : Hid (σ.tSt.isS bIf = false) := hi
  have HMI : Hid (σ.tSt.may bIf = σ.tSt) := by show _ = _; simp [PSt.may, hi]
  have gn : Good σ.nam.toks := by rw [nam_toks]; exact hg
  have gh : Good σ.hSt.toks := by rw [hSt_toks]; exact hg
  have gk : Good σ.kSt.toks := by rw [kSt_toks]; exact hg
  have gt : Good σ.tSt.toks := by rw [tSt_toks]; exact hg
  have hfld := tok_field
  clear hp hn hi
  go_enter Tryz.func143, Tryz.ntmps143
  go_wp2_with fail
  refine (now_any h).mono ?_
  rintro e w0 ⟨rfl, o, rfl⟩
  go_wp2_with fail
  have hX := x_new h o (PX σ.now.pos false mt 0 1 (-1) (.slice none 0 0))
  unfold PX at hX
  refine (may_any hX.st hg.inv _).mono ?_
  rintro e w1 ⟨rfl, hS1, hE1⟩
  rw [HP.out]
  rw [HMP.out] at hS1
  replace hX := hX.next hS1 hE1
  clear hS1 hE1
  generalize w.heap.size + 1 = X at *
  generalize put own X 8 = ownX at *
  go_wp2_with fail
  refine (may_any hX.st hg.inv bNot).mono ?_
  rintro e w2 ⟨rfl, hS2, hE2⟩
  rw [HN.out]
  rw [HMN.out] at hS2
  replace hX := hX.next hS2 hE2
  clear hS2 hE2
  have x1 := hX.blk.cell 1
  have xf := hX.blk.frozen 1
  simp at x1
  go_wp2_with fail
  replace hX := hX.write 1 (.bool true)
  simp at hX
  clear x1 xf
  rw [← HH.out] at hX
  refine (number_any hX.st gh _ _ hs1.nums hs1.lo hs1.hi).mono ?_
  rintro e w5 ⟨rfl, own5, m5, hS5, hE5⟩
  rw [← HK.out] at hS5
  replace hX := hX.next hS5 hE5
  clear hS5 hE5
  have x3 := hX.blk.cell 3
  have xf := hX.blk.frozen 3
  have x1 := hX.blk.cell 1
  simp at x3 x1
  go_wp2_with fail
  replace hX := hX.write 3 (.int .i64 σ.hSt.numV)
  simp at hX
  clear x3 xf x1
  rw [← HT.out] at hX
  refine (may_any hX.st gt.inv bIf).mono ?_
  rintro e w8 ⟨rfl, hS8, hE8⟩
  rw [HI.out]
  rw [HMI.out] at hS8
  replace hX := hX.next hS8 hE8
  clear hS8 hE8
  have hway := Wayz.nil own5 w8
  have hw9 := hX.st.cell 9
  simp [PCells] at hw9
  have x0 := hX.blk.cell 0
  have x1 := hX.blk.cell 1
  have x2 := hX.blk.cell 2
  have x3 := hX.blk.cell 3
  have x4 := hX.blk.cell 4
  have x5 := hX.blk.cell 5
  have x6 := hX.blk.cell 6
  simp at x0 x1 x2 x3 x4 x5 x6
  have hbl := hX.st.blk.lt
  have hXl := hX.blk.lt
  obtain ⟨i0, hi0, hz0, hz1, hz2⟩ := info_parts Tryz.infoPartD
  clear hfld hg gn gh gk gt h
  go_wp2_with fail
  go_region_law ((refine step_append_lies _ (by rfl) _ _ 121 (by rfl) 0 202 i0 _ 7 80 Tryz.underlying121 hi0 hz0 hz1 hz2 rfl (by decide) m5.pv σ.tSt.parts.length (flat RPart.cells (σ.tSt.parts.zip m5.wvs)) (by rfl) ((hX.st.alloc _).drew.parts) ⟨w8.heap.size, 0, none⟩ 1 1 (RPart.cells (⟨σ.now.pos, true, mt, σ.hSt.numV, 1, -1, []⟩, .slice none 0 0)) (by rfl) rfl (World.news_of_block (alloc_at _ _ _ (by simp))) (by simp [RPart.cells, Value.oneCell']) (by decide) (by unfold maxLen; omega) (by omega) (Nat.zero_le _) (w8.heap.size + 1) (by simp) ?_; intro g cap w1z hown hgrow hat hlt1; have kb := (hX.st.alloc _).drew.far hgrow hX.st.op (by decide); have q9 := kb.cell 9; have qf := kb.frozen 9; simp [PCells] at q9))
  all_goals
    obtain ⟨hSZ, hEZ⟩ := (hX.st.alloc _).drew.app_parts ⟨σ.now.pos, true, mt, σ.hSt.numV, 1, -1, []⟩ (.slice none 0 0) ((hway.grown (World.grownBy_alloc w8 _ none) (fun _ e => by cases e)).grown (grownBy_drew _ none) (fun _ e => by cases e)) hown hgrow (by simpa using hat)
    have hEF := ((hX.ext.alloc _).drew).trans hEZ
    clear hEZ hown hgrow hat kb x0 x1 x2 x3 x4 x5 x6 hw9 hway
    go_wp2
    go_ret
    exact ⟨ret_int (by omega), _, _, hSZ, hEF⟩

set_option maxRecDepth 100000 in
set_option maxHeartbeats 1600000 in
theorem part_n_cond {σ : PSt} {σ1 : PSt} {c : Int} (hg : Good σ.toks) (hp : σ.isS ⟨#[40]⟩ = false) (hn : σ.isS bNot = true) (hs1 : σ.hSt.Small) (hi : σ.tSt.isS bIf = true) (hj : JC 0 σ.tSt.adv c σ1) (hb : σ1.parts.length ≤ 100000) :
    PartCd σ1.parts.length σ (σ1.addPart ⟨σ.now.pos, true, mt, σ.hSt.numV, 1, c, []⟩) := by
  intro own w b m h
  have HP : Hid (σ.isS ⟨#[40]⟩ = false) := hp
  have HMP : Hid (σ.may ⟨#[40]⟩ = σ) := by show _ = _; simp [PSt.may, hp]
  have HN : Hid (σ.isS bNot = true) := hn
  have HMN : Hid (σ.may bNot = σ.adv) := by show _ = _; simp [PSt.may, hn, PSt.adv]
  have HH : Hid (σ.hSt = σ.adv) := by show _ = _; simp [PSt.hSt, hn]
  have HT : Hid (σ.tSt = σ.kSt) := by show _ = _; simp [PSt.tSt, PSt.hasT, hn]
  have HK : Hid (σ.kSt = σ.hSt.num 0 99) := rfl
  have HI : Hid (σ.tSt.isS bIf = true) := hi
  have HMI : Hid (σ.tSt.may bIf = σ.tSt.adv) := by show _ = _; simp [PSt.may, hi, PSt.adv]
  have gn : Good σ.nam.toks := by rw [nam_toks]; exact hg
  have gh : Good σ.hSt.toks := by rw [hSt_toks]; exact hg
  have gk : Good σ.kSt.toks := by rw [kSt_toks]; exact hg
  have gt : Good σ.tSt.toks := by rw [tSt_toks]; exact hg
  have hfld := tok_field
  clear hp hn hi
  go_enter Tryz.func143, Tryz.ntmps143
  go_wp2_with fail
  refine (now_any h).mono ?_
  rintro e w0 ⟨rfl, o, rfl⟩
  go_wp2_with fail
  have hX := x_new h o (PX σ.now.pos false mt 0 1 (-1) (.slice none 0 0))
  unfold PX at hX
  refine (may_any hX.st hg.inv _).mono ?_
  rintro e w1 ⟨rfl, hS1, hE1⟩
  rw [HP.out]
  rw [HMP.out] at hS1
  replace hX := hX.next hS1 hE1
  clear hS1 hE1
  generalize w.heap.size + 1 = X at *
  generalize put own X 8 = ownX at *
  go_wp2_with fail
  refine (may_any hX.st hg.inv bNot).mono ?_
  rintro e w2 ⟨rfl, hS2, hE2⟩
  rw [HN.out]
  rw [HMN.out] at hS2
  replace hX := hX.next hS2 hE2
  clear hS2 hE2
  have x1 := hX.blk.cell 1
  have xf := hX.blk.frozen 1
  simp at x1
  go_wp2_with fail
  replace hX := hX.write 1 (.bool true)
  simp at hX
  clear x1 xf
  rw [← HH.out] at hX
  refine (number_any hX.st gh _ _ hs1.nums hs1.lo hs1.hi).mono ?_
  rintro e w5 ⟨rfl, own5, m5, hS5, hE5⟩
  rw [← HK.out] at hS5
  replace hX := hX.next hS5 hE5
  clear hS5 hE5
  have x3 := hX.blk.cell 3
  have xf := hX.blk.frozen 3
  have x1 := hX.blk.cell 1
  simp at x3 x1
  go_wp2_with fail
  replace hX := hX.write 3 (.int .i64 σ.hSt.numV)
  simp at hX
  clear x3 xf x1
  rw [← HT.out] at hX
  refine (may_any hX.st gt.inv bIf).mono ?_
  rintro e w8 ⟨rfl, hS8, hE8⟩
  rw [HI.out]
  rw [HMI.out] at hS8
  replace hX := hX.next hS8 hE8
  clear hS8 hE8
  go_wp2_with fail
  refine (hj _ _ _ _ hX.st).mono ?_
  rintro e w9 ⟨rfl, own9, m9, hS9, hE9⟩
  replace hX := hX.next hS9 hE9
  clear hS9 hE9
  have x5 := hX.blk.cell 5
  have xf := hX.blk.frozen 5
  simp at x5
  go_wp2_with fail
  replace hX := hX.write 5 (.int .i64 c)
  simp at hX
  clear x5 xf
  generalize w9.setCell ⟨X, 5, none⟩ (.int .i64 c) = W at *
  have hway := Wayz.nil own9 W
  have hw9 := hX.st.cell 9
  simp [PCells] at hw9
  have x0 := hX.blk.cell 0
  have x1 := hX.blk.cell 1
  have x2 := hX.blk.cell 2
  have x3 := hX.blk.cell 3
  have x4 := hX.blk.cell 4
  have x5 := hX.blk.cell 5
  have x6 := hX.blk.cell 6
  simp at x0 x1 x2 x3 x4 x5 x6
  have hbl := hX.st.blk.lt
  have hXl := hX.blk.lt
  obtain ⟨i0, hi0, hz0, hz1, hz2⟩ := info_parts Tryz.infoPartD
  clear hfld hg gn gh gk gt h
  go_wp2_with fail
  go_region_law ((refine step_append_lies _ (by rfl) _ _ 121 (by rfl) 0 202 i0 _ 7 80 Tryz.underlying121 hi0 hz0 hz1 hz2 rfl (by decide) m9.pv σ1.parts.length (flat RPart.cells (σ1.parts.zip m9.wvs)) (by rfl) ((hX.st.alloc _).drew.parts) ⟨W.heap.size, 0, none⟩ 1 1 (RPart.cells (⟨σ.now.pos, true, mt, σ.hSt.numV, 1, c, []⟩, .slice none 0 0)) (by rfl) rfl (World.news_of_block (alloc_at _ _ _ (by simp))) (by simp [RPart.cells, Value.oneCell']) (by decide) (by unfold maxLen; omega) (by omega) (Nat.zero_le _) (W.heap.size + 1) (by simp) ?_; intro g cap w1z hown hgrow hat hlt1; have kb := (hX.st.alloc _).drew.far hgrow hX.st.op (by decide); have q9 := kb.cell 9; have qf := kb.frozen 9; simp [PCells] at q9))
  all_goals
    obtain ⟨hSZ, hEZ⟩ := (hX.st.alloc _).drew.app_parts ⟨σ.now.pos, true, mt, σ.hSt.numV, 1, c, []⟩ (.slice none 0 0) ((hway.grown (World.grownBy_alloc W _ none) (fun _ e => by cases e)).grown (grownBy_drew _ none) (fun _ e => by cases e)) hown hgrow (by simpa using hat)
    have hEF := ((hX.ext.alloc _).drew).trans hEZ
    clear hEZ hown hgrow hat kb x0 x1 x2 x3 x4 x5 x6 hw9 hway
    go_wp2
    go_ret
    exact ⟨ret_int (by omega), _, _, hSZ, hEF⟩

set_option maxRecDepth 100000 in
set_option maxHeartbeats 1600000 in
theorem part_s_plain {σ : PSt} (hg : Good σ.toks) (hp : σ.isS ⟨#[40]⟩ = false) (hn : σ.isS bNot = false) (hs1 : σ.hSt.Small) (ht : σ.kSt.isS bTimes = false) (hi : σ.tSt.isS bIf = false) (hb : σ.tSt.parts.length ≤ 100000) :
    PartCd σ.tSt.parts.length σ (σ.tSt.addPart ⟨σ.now.pos, false, σ.nameV, σ.hSt.numV, 1, -1, []⟩) := by
  intro own w b m h
  have HP : Hid (σ.isS ⟨#[40]⟩ = false) := hp
  have HMP : Hid (σ.may ⟨#[40]⟩ = σ) := by show _ = _; simp [PSt.may, hp]
  have HN : Hid (σ.isS bNot = false) := hn
  have HMN : Hid (σ.may bNot = σ) := by show _ = _; simp [PSt.may, hn]
  have HH : Hid (σ.hSt = σ.nam.want ⟨#[58]⟩) := by show _ = _; simp [PSt.hSt, hn]
  have HTs : Hid (σ.kSt.isS bTimes = false) := ht
  have HMT : Hid (σ.kSt.may bTimes = σ.kSt) := by show _ = _; simp [PSt.may, ht]
  have HT : Hid (σ.tSt = σ.kSt) := by show _ = _; simp [PSt.tSt, PSt.hasT, hn, ht]
  have HK : Hid (σ.kSt = σ.hSt.num 0 99) := rfl
  have HI : Hid (σ.tSt.isS bIf = false) := hi
  have HMI : Hid (σ.tSt.may bIf = σ.tSt) := by show _ = _; simp [PSt.may, hi]
  have gn : Good σ.nam.toks := by rw [nam_toks]; exact hg
  have gh : Good σ.hSt.toks := by rw [hSt_toks]; exact hg
  have gk : Good σ.kSt.toks := by rw [kSt_toks]; exact hg
  have gt : Good σ.tSt.toks := by rw [tSt_toks]; exact hg
  have hfld := tok_field
  clear hp hn hi ht
  go_enter Tryz.func143, Tryz.ntmps143
  go_wp2_with fail
  refine (now_any h).mono ?_
  rintro e w0 ⟨rfl, o, rfl⟩
  go_wp2_with fail
  have hX := x_new h o (PX σ.now.pos false mt 0 1 (-1) (.slice none 0 0))
  unfold PX at hX
  refine (may_any hX.st hg.inv _).mono ?_
  rintro e w1 ⟨rfl, hS1, hE1⟩
  rw [HP.out]
  rw [HMP.out] at hS1
  replace hX := hX.next hS1 hE1
  clear hS1 hE1
  generalize w.heap.size + 1 = X at *
  generalize put own X 8 = ownX at *
  go_wp2_with fail
  refine (may_any hX.st hg.inv bNot).mono ?_
  rintro e w2 ⟨rfl, hS2, hE2⟩
  rw [HN.out]
  rw [HMN.out] at hS2
  replace hX := hX.next hS2 hE2
  clear hS2 hE2
  have x1 := hX.blk.cell 1
  have xf := hX.blk.frozen 1
  simp at x1
  go_wp2_with fail
  replace hX := hX.write 1 (.bool false)
  simp at hX
  clear x1 xf
  refine (name_any hX.st hg.inv hg.size).mono ?_
  rintro e w3 ⟨rfl, hS3, hE3⟩
  replace hX := hX.next hS3 hE3
  clear hS3 hE3
  have x2 := hX.blk.cell 2
  have xf := hX.blk.frozen 2
  simp at x2
  go_wp2_with fail
  replace hX := hX.write 2 (.string σ.nameV)
  simp at hX
  clear x2 xf
  refine (want_any hX.st gn.inv _).mono ?_
  rintro e w4 ⟨rfl, hS4, hE4⟩
  rw [← HH.out] at hS4
  replace hX := hX.next hS4 hE4
  clear hS4 hE4
  go_wp2_with fail
  refine (number_any hX.st gh _ _ hs1.nums hs1.lo hs1.hi).mono ?_
  rintro e w5 ⟨rfl, own5, m5, hS5, hE5⟩
  rw [← HK.out] at hS5
  replace hX := hX.next hS5 hE5
  clear hS5 hE5
  have x3 := hX.blk.cell 3
  have xf := hX.blk.frozen 3
  have x1 := hX.blk.cell 1
  simp at x3 x1
  go_wp2_with fail
  replace hX := hX.write 3 (.int .i64 σ.hSt.numV)
  simp at hX
  clear x3 xf x1
  refine (may_any hX.st gk.inv bTimes).mono ?_
  rintro e w6 ⟨rfl, hS6, hE6⟩
  rw [HTs.out]
  rw [HMT.out] at hS6
  replace hX := hX.next hS6 hE6
  clear hS6 hE6
  go_wp2_with fail
  rw [← HT.out] at hX
  refine (may_any hX.st gt.inv bIf).mono ?_
  rintro e w8 ⟨rfl, hS8, hE8⟩
  rw [HI.out]
  rw [HMI.out] at hS8
  replace hX := hX.next hS8 hE8
  clear hS8 hE8
  have hway := Wayz.nil own5 w8
  have hw9 := hX.st.cell 9
  simp [PCells] at hw9
  have x0 := hX.blk.cell 0
  have x1 := hX.blk.cell 1
  have x2 := hX.blk.cell 2
  have x3 := hX.blk.cell 3
  have x4 := hX.blk.cell 4
  have x5 := hX.blk.cell 5
  have x6 := hX.blk.cell 6
  simp at x0 x1 x2 x3 x4 x5 x6
  have hbl := hX.st.blk.lt
  have hXl := hX.blk.lt
  obtain ⟨i0, hi0, hz0, hz1, hz2⟩ := info_parts Tryz.infoPartD
  clear hfld hg gn gh gk gt h
  go_wp2_with fail
  go_region_law ((refine step_append_lies _ (by rfl) _ _ 121 (by rfl) 0 202 i0 _ 7 80 Tryz.underlying121 hi0 hz0 hz1 hz2 rfl (by decide) m5.pv σ.tSt.parts.length (flat RPart.cells (σ.tSt.parts.zip m5.wvs)) (by rfl) ((hX.st.alloc _).drew.parts) ⟨w8.heap.size, 0, none⟩ 1 1 (RPart.cells (⟨σ.now.pos, false, σ.nameV, σ.hSt.numV, 1, -1, []⟩, .slice none 0 0)) (by rfl) rfl (World.news_of_block (alloc_at _ _ _ (by simp))) (by simp [RPart.cells, Value.oneCell']) (by decide) (by unfold maxLen; omega) (by omega) (Nat.zero_le _) (w8.heap.size + 1) (by simp) ?_; intro g cap w1z hown hgrow hat hlt1; have kb := (hX.st.alloc _).drew.far hgrow hX.st.op (by decide); have q9 := kb.cell 9; have qf := kb.frozen 9; simp [PCells] at q9))
  all_goals
    obtain ⟨hSZ, hEZ⟩ := (hX.st.alloc _).drew.app_parts ⟨σ.now.pos, false, σ.nameV, σ.hSt.numV, 1, -1, []⟩ (.slice none 0 0) ((hway.grown (World.grownBy_alloc w8 _ none) (fun _ e => by cases e)).grown (grownBy_drew _ none) (fun _ e => by cases e)) hown hgrow (by simpa using hat)
    have hEF := ((hX.ext.alloc _).drew).trans hEZ
    clear hEZ hown hgrow hat kb x0 x1 x2 x3 x4 x5 x6 hw9 hway
    go_wp2
    go_ret
    exact ⟨ret_int (by omega), _, _, hSZ, hEF⟩

set_option maxRecDepth 100000 in
set_option maxHeartbeats 1600000 in
theorem part_s_cond {σ : PSt} {σ1 : PSt} {c : Int} (hg : Good σ.toks) (hp : σ.isS ⟨#[40]⟩ = false) (hn : σ.isS bNot = false) (hs1 : σ.hSt.Small) (ht : σ.kSt.isS bTimes = false) (hi : σ.tSt.isS bIf = true) (hj : JC 0 σ.tSt.adv c σ1) (hb : σ1.parts.length ≤ 100000) :
    PartCd σ1.parts.length σ (σ1.addPart ⟨σ.now.pos, false, σ.nameV, σ.hSt.numV, 1, c, []⟩) := by
  intro own w b m h
  have HP : Hid (σ.isS ⟨#[40]⟩ = false) := hp
  have HMP : Hid (σ.may ⟨#[40]⟩ = σ) := by show _ = _; simp [PSt.may, hp]
  have HN : Hid (σ.isS bNot = false) := hn
  have HMN : Hid (σ.may bNot = σ) := by show _ = _; simp [PSt.may, hn]
  have HH : Hid (σ.hSt = σ.nam.want ⟨#[58]⟩) := by show _ = _; simp [PSt.hSt, hn]
  have HTs : Hid (σ.kSt.isS bTimes = false) := ht
  have HMT : Hid (σ.kSt.may bTimes = σ.kSt) := by show _ = _; simp [PSt.may, ht]
  have HT : Hid (σ.tSt = σ.kSt) := by show _ = _; simp [PSt.tSt, PSt.hasT, hn, ht]
  have HK : Hid (σ.kSt = σ.hSt.num 0 99) := rfl
  have HI : Hid (σ.tSt.isS bIf = true) := hi
  have HMI : Hid (σ.tSt.may bIf = σ.tSt.adv) := by show _ = _; simp [PSt.may, hi, PSt.adv]
  have gn : Good σ.nam.toks := by rw [nam_toks]; exact hg
  have gh : Good σ.hSt.toks := by rw [hSt_toks]; exact hg
  have gk : Good σ.kSt.toks := by rw [kSt_toks]; exact hg
  have gt : Good σ.tSt.toks := by rw [tSt_toks]; exact hg
  have hfld := tok_field
  clear hp hn hi ht
  go_enter Tryz.func143, Tryz.ntmps143
  go_wp2_with fail
  refine (now_any h).mono ?_
  rintro e w0 ⟨rfl, o, rfl⟩
  go_wp2_with fail
  have hX := x_new h o (PX σ.now.pos false mt 0 1 (-1) (.slice none 0 0))
  unfold PX at hX
  refine (may_any hX.st hg.inv _).mono ?_
  rintro e w1 ⟨rfl, hS1, hE1⟩
  rw [HP.out]
  rw [HMP.out] at hS1
  replace hX := hX.next hS1 hE1
  clear hS1 hE1
  generalize w.heap.size + 1 = X at *
  generalize put own X 8 = ownX at *
  go_wp2_with fail
  refine (may_any hX.st hg.inv bNot).mono ?_
  rintro e w2 ⟨rfl, hS2, hE2⟩
  rw [HN.out]
  rw [HMN.out] at hS2
  replace hX := hX.next hS2 hE2
  clear hS2 hE2
  have x1 := hX.blk.cell 1
  have xf := hX.blk.frozen 1
  simp at x1
  go_wp2_with fail
  replace hX := hX.write 1 (.bool false)
  simp at hX
  clear x1 xf
  refine (name_any hX.st hg.inv hg.size).mono ?_
  rintro e w3 ⟨rfl, hS3, hE3⟩
  replace hX := hX.next hS3 hE3
  clear hS3 hE3
  have x2 := hX.blk.cell 2
  have xf := hX.blk.frozen 2
  simp at x2
  go_wp2_with fail
  replace hX := hX.write 2 (.string σ.nameV)
  simp at hX
  clear x2 xf
  refine (want_any hX.st gn.inv _).mono ?_
  rintro e w4 ⟨rfl, hS4, hE4⟩
  rw [← HH.out] at hS4
  replace hX := hX.next hS4 hE4
  clear hS4 hE4
  go_wp2_with fail
  refine (number_any hX.st gh _ _ hs1.nums hs1.lo hs1.hi).mono ?_
  rintro e w5 ⟨rfl, own5, m5, hS5, hE5⟩
  rw [← HK.out] at hS5
  replace hX := hX.next hS5 hE5
  clear hS5 hE5
  have x3 := hX.blk.cell 3
  have xf := hX.blk.frozen 3
  have x1 := hX.blk.cell 1
  simp at x3 x1
  go_wp2_with fail
  replace hX := hX.write 3 (.int .i64 σ.hSt.numV)
  simp at hX
  clear x3 xf x1
  refine (may_any hX.st gk.inv bTimes).mono ?_
  rintro e w6 ⟨rfl, hS6, hE6⟩
  rw [HTs.out]
  rw [HMT.out] at hS6
  replace hX := hX.next hS6 hE6
  clear hS6 hE6
  go_wp2_with fail
  rw [← HT.out] at hX
  refine (may_any hX.st gt.inv bIf).mono ?_
  rintro e w8 ⟨rfl, hS8, hE8⟩
  rw [HI.out]
  rw [HMI.out] at hS8
  replace hX := hX.next hS8 hE8
  clear hS8 hE8
  go_wp2_with fail
  refine (hj _ _ _ _ hX.st).mono ?_
  rintro e w9 ⟨rfl, own9, m9, hS9, hE9⟩
  replace hX := hX.next hS9 hE9
  clear hS9 hE9
  have x5 := hX.blk.cell 5
  have xf := hX.blk.frozen 5
  simp at x5
  go_wp2_with fail
  replace hX := hX.write 5 (.int .i64 c)
  simp at hX
  clear x5 xf
  generalize w9.setCell ⟨X, 5, none⟩ (.int .i64 c) = W at *
  have hway := Wayz.nil own9 W
  have hw9 := hX.st.cell 9
  simp [PCells] at hw9
  have x0 := hX.blk.cell 0
  have x1 := hX.blk.cell 1
  have x2 := hX.blk.cell 2
  have x3 := hX.blk.cell 3
  have x4 := hX.blk.cell 4
  have x5 := hX.blk.cell 5
  have x6 := hX.blk.cell 6
  simp at x0 x1 x2 x3 x4 x5 x6
  have hbl := hX.st.blk.lt
  have hXl := hX.blk.lt
  obtain ⟨i0, hi0, hz0, hz1, hz2⟩ := info_parts Tryz.infoPartD
  clear hfld hg gn gh gk gt h
  go_wp2_with fail
  go_region_law ((refine step_append_lies _ (by rfl) _ _ 121 (by rfl) 0 202 i0 _ 7 80 Tryz.underlying121 hi0 hz0 hz1 hz2 rfl (by decide) m9.pv σ1.parts.length (flat RPart.cells (σ1.parts.zip m9.wvs)) (by rfl) ((hX.st.alloc _).drew.parts) ⟨W.heap.size, 0, none⟩ 1 1 (RPart.cells (⟨σ.now.pos, false, σ.nameV, σ.hSt.numV, 1, c, []⟩, .slice none 0 0)) (by rfl) rfl (World.news_of_block (alloc_at _ _ _ (by simp))) (by simp [RPart.cells, Value.oneCell']) (by decide) (by unfold maxLen; omega) (by omega) (Nat.zero_le _) (W.heap.size + 1) (by simp) ?_; intro g cap w1z hown hgrow hat hlt1; have kb := (hX.st.alloc _).drew.far hgrow hX.st.op (by decide); have q9 := kb.cell 9; have qf := kb.frozen 9; simp [PCells] at q9))
  all_goals
    obtain ⟨hSZ, hEZ⟩ := (hX.st.alloc _).drew.app_parts ⟨σ.now.pos, false, σ.nameV, σ.hSt.numV, 1, c, []⟩ (.slice none 0 0) ((hway.grown (World.grownBy_alloc W _ none) (fun _ e => by cases e)).grown (grownBy_drew _ none) (fun _ e => by cases e)) hown hgrow (by simpa using hat)
    have hEF := ((hX.ext.alloc _).drew).trans hEZ
    clear hEZ hown hgrow hat kb x0 x1 x2 x3 x4 x5 x6 hw9 hway
    go_wp2
    go_ret
    exact ⟨ret_int (by omega), _, _, hSZ, hEF⟩

set_option maxRecDepth 100000 in
set_option maxHeartbeats 1600000 in
theorem part_t_plain {σ : PSt} (hg : Good σ.toks) (hp : σ.isS ⟨#[40]⟩ = false) (hn : σ.isS bNot = false) (hs1 : σ.hSt.Small) (hs2 : σ.kSt.adv.Small) (ht : σ.kSt.isS bTimes = true) (hi : σ.tSt.isS bIf = false) (hb : σ.tSt.parts.length ≤ 100000) :
    PartCd σ.tSt.parts.length σ (σ.tSt.addPart ⟨σ.now.pos, false, σ.nameV, σ.hSt.numV, σ.kSt.adv.numV, -1, []⟩) := by
  intro own w b m h
  have HP : Hid (σ.isS ⟨#[40]⟩ = false) := hp
  have HMP : Hid (σ.may ⟨#[40]⟩ = σ) := by show _ = _; simp [PSt.may, hp]
  have HN : Hid (σ.isS bNot = false) := hn
  have HMN : Hid (σ.may bNot = σ) := by show _ = _; simp [PSt.may, hn]
  have HH : Hid (σ.hSt = σ.nam.want ⟨#[58]⟩) := by show _ = _; simp [PSt.hSt, hn]
  have HTs : Hid (σ.kSt.isS bTimes = true) := ht
  have HMT : Hid (σ.kSt.may bTimes = σ.kSt.adv) := by show _ = _; simp [PSt.may, ht, PSt.adv]
  have HT : Hid (σ.tSt = σ.kSt.adv.num 1 4) := by show _ = _; simp [PSt.tSt, PSt.hasT, hn, ht]
  have HK : Hid (σ.kSt = σ.hSt.num 0 99) := rfl
  have HI : Hid (σ.tSt.isS bIf = false) := hi
  have HMI : Hid (σ.tSt.may bIf = σ.tSt) := by show _ = _; simp [PSt.may, hi]
  have gn : Good σ.nam.toks := by rw [nam_toks]; exact hg
  have gh : Good σ.hSt.toks := by rw [hSt_toks]; exact hg
  have gk : Good σ.kSt.toks := by rw [kSt_toks]; exact hg
  have gt : Good σ.tSt.toks := by rw [tSt_toks]; exact hg
  have hfld := tok_field
  clear hp hn hi ht
  go_enter Tryz.func143, Tryz.ntmps143
  go_wp2_with fail
  refine (now_any h).mono ?_
  rintro e w0 ⟨rfl, o, rfl⟩
  go_wp2_with fail
  have hX := x_new h o (PX σ.now.pos false mt 0 1 (-1) (.slice none 0 0))
  unfold PX at hX
  refine (may_any hX.st hg.inv _).mono ?_
  rintro e w1 ⟨rfl, hS1, hE1⟩
  rw [HP.out]
  rw [HMP.out] at hS1
  replace hX := hX.next hS1 hE1
  clear hS1 hE1
  generalize w.heap.size + 1 = X at *
  generalize put own X 8 = ownX at *
  go_wp2_with fail
  refine (may_any hX.st hg.inv bNot).mono ?_
  rintro e w2 ⟨rfl, hS2, hE2⟩
  rw [HN.out]
  rw [HMN.out] at hS2
  replace hX := hX.next hS2 hE2
  clear hS2 hE2
  have x1 := hX.blk.cell 1
  have xf := hX.blk.frozen 1
  simp at x1
  go_wp2_with fail
  replace hX := hX.write 1 (.bool false)
  simp at hX
  clear x1 xf
  refine (name_any hX.st hg.inv hg.size).mono ?_
  rintro e w3 ⟨rfl, hS3, hE3⟩
  replace hX := hX.next hS3 hE3
  clear hS3 hE3
  have x2 := hX.blk.cell 2
  have xf := hX.blk.frozen 2
  simp at x2
  go_wp2_with fail
  replace hX := hX.write 2 (.string σ.nameV)
  simp at hX
  clear x2 xf
  refine (want_any hX.st gn.inv _).mono ?_
  rintro e w4 ⟨rfl, hS4, hE4⟩
  rw [← HH.out] at hS4
  replace hX := hX.next hS4 hE4
  clear hS4 hE4
  go_wp2_with fail
  refine (number_any hX.st gh _ _ hs1.nums hs1.lo hs1.hi).mono ?_
  rintro e w5 ⟨rfl, own5, m5, hS5, hE5⟩
  rw [← HK.out] at hS5
  replace hX := hX.next hS5 hE5
  clear hS5 hE5
  have x3 := hX.blk.cell 3
  have xf := hX.blk.frozen 3
  have x1 := hX.blk.cell 1
  simp at x3 x1
  go_wp2_with fail
  replace hX := hX.write 3 (.int .i64 σ.hSt.numV)
  simp at hX
  clear x3 xf x1
  refine (may_any hX.st gk.inv bTimes).mono ?_
  rintro e w6 ⟨rfl, hS6, hE6⟩
  rw [HTs.out]
  rw [HMT.out] at hS6
  replace hX := hX.next hS6 hE6
  clear hS6 hE6
  go_wp2_with fail
  refine (number_any hX.st gk _ _ hs2.nums hs2.lo hs2.hi).mono ?_
  rintro e w7 ⟨rfl, own7, m7, hS7, hE7⟩
  rw [← HT.out] at hS7
  replace hX := hX.next hS7 hE7
  clear hS7 hE7
  have x4 := hX.blk.cell 4
  have xf := hX.blk.frozen 4
  simp at x4
  go_wp2_with fail
  replace hX := hX.write 4 (.int .i64 σ.kSt.adv.numV)
  simp at hX
  clear x4 xf
  refine (may_any hX.st gt.inv bIf).mono ?_
  rintro e w8 ⟨rfl, hS8, hE8⟩
  rw [HI.out]
  rw [HMI.out] at hS8
  replace hX := hX.next hS8 hE8
  clear hS8 hE8
  have hway := Wayz.nil own7 w8
  have hw9 := hX.st.cell 9
  simp [PCells] at hw9
  have x0 := hX.blk.cell 0
  have x1 := hX.blk.cell 1
  have x2 := hX.blk.cell 2
  have x3 := hX.blk.cell 3
  have x4 := hX.blk.cell 4
  have x5 := hX.blk.cell 5
  have x6 := hX.blk.cell 6
  simp at x0 x1 x2 x3 x4 x5 x6
  have hbl := hX.st.blk.lt
  have hXl := hX.blk.lt
  obtain ⟨i0, hi0, hz0, hz1, hz2⟩ := info_parts Tryz.infoPartD
  clear hfld hg gn gh gk gt h
  go_wp2_with fail
  go_region_law ((refine step_append_lies _ (by rfl) _ _ 121 (by rfl) 0 202 i0 _ 7 80 Tryz.underlying121 hi0 hz0 hz1 hz2 rfl (by decide) m7.pv σ.tSt.parts.length (flat RPart.cells (σ.tSt.parts.zip m7.wvs)) (by rfl) ((hX.st.alloc _).drew.parts) ⟨w8.heap.size, 0, none⟩ 1 1 (RPart.cells (⟨σ.now.pos, false, σ.nameV, σ.hSt.numV, σ.kSt.adv.numV, -1, []⟩, .slice none 0 0)) (by rfl) rfl (World.news_of_block (alloc_at _ _ _ (by simp))) (by simp [RPart.cells, Value.oneCell']) (by decide) (by unfold maxLen; omega) (by omega) (Nat.zero_le _) (w8.heap.size + 1) (by simp) ?_; intro g cap w1z hown hgrow hat hlt1; have kb := (hX.st.alloc _).drew.far hgrow hX.st.op (by decide); have q9 := kb.cell 9; have qf := kb.frozen 9; simp [PCells] at q9))
  all_goals
    obtain ⟨hSZ, hEZ⟩ := (hX.st.alloc _).drew.app_parts ⟨σ.now.pos, false, σ.nameV, σ.hSt.numV, σ.kSt.adv.numV, -1, []⟩ (.slice none 0 0) ((hway.grown (World.grownBy_alloc w8 _ none) (fun _ e => by cases e)).grown (grownBy_drew _ none) (fun _ e => by cases e)) hown hgrow (by simpa using hat)
    have hEF := ((hX.ext.alloc _).drew).trans hEZ
    clear hEZ hown hgrow hat kb x0 x1 x2 x3 x4 x5 x6 hw9 hway
    go_wp2
    go_ret
    exact ⟨ret_int (by omega), _, _, hSZ, hEF⟩

set_option maxRecDepth 100000 in
set_option maxHeartbeats 1600000 in
theorem part_t_cond {σ : PSt} {σ1 : PSt} {c : Int} (hg : Good σ.toks) (hp : σ.isS ⟨#[40]⟩ = false) (hn : σ.isS bNot = false) (hs1 : σ.hSt.Small) (hs2 : σ.kSt.adv.Small) (ht : σ.kSt.isS bTimes = true) (hi : σ.tSt.isS bIf = true) (hj : JC 0 σ.tSt.adv c σ1) (hb : σ1.parts.length ≤ 100000) :
    PartCd σ1.parts.length σ (σ1.addPart ⟨σ.now.pos, false, σ.nameV, σ.hSt.numV, σ.kSt.adv.numV, c, []⟩) := by
  intro own w b m h
  have HP : Hid (σ.isS ⟨#[40]⟩ = false) := hp
  have HMP : Hid (σ.may ⟨#[40]⟩ = σ) := by show _ = _; simp [PSt.may, hp]
  have HN : Hid (σ.isS bNot = false) := hn
  have HMN : Hid (σ.may bNot = σ) := by show _ = _; simp [PSt.may, hn]
  have HH : Hid (σ.hSt = σ.nam.want ⟨#[58]⟩) := by show _ = _; simp [PSt.hSt, hn]
  have HTs : Hid (σ.kSt.isS bTimes = true) := ht
  have HMT : Hid (σ.kSt.may bTimes = σ.kSt.adv) := by show _ = _; simp [PSt.may, ht, PSt.adv]
  have HT : Hid (σ.tSt = σ.kSt.adv.num 1 4) := by show _ = _; simp [PSt.tSt, PSt.hasT, hn, ht]
  have HK : Hid (σ.kSt = σ.hSt.num 0 99) := rfl
  have HI : Hid (σ.tSt.isS bIf = true) := hi
  have HMI : Hid (σ.tSt.may bIf = σ.tSt.adv) := by show _ = _; simp [PSt.may, hi, PSt.adv]
  have gn : Good σ.nam.toks := by rw [nam_toks]; exact hg
  have gh : Good σ.hSt.toks := by rw [hSt_toks]; exact hg
  have gk : Good σ.kSt.toks := by rw [kSt_toks]; exact hg
  have gt : Good σ.tSt.toks := by rw [tSt_toks]; exact hg
  have hfld := tok_field
  clear hp hn hi ht
  go_enter Tryz.func143, Tryz.ntmps143
  go_wp2_with fail
  refine (now_any h).mono ?_
  rintro e w0 ⟨rfl, o, rfl⟩
  go_wp2_with fail
  have hX := x_new h o (PX σ.now.pos false mt 0 1 (-1) (.slice none 0 0))
  unfold PX at hX
  refine (may_any hX.st hg.inv _).mono ?_
  rintro e w1 ⟨rfl, hS1, hE1⟩
  rw [HP.out]
  rw [HMP.out] at hS1
  replace hX := hX.next hS1 hE1
  clear hS1 hE1
  generalize w.heap.size + 1 = X at *
  generalize put own X 8 = ownX at *
  go_wp2_with fail
  refine (may_any hX.st hg.inv bNot).mono ?_
  rintro e w2 ⟨rfl, hS2, hE2⟩
  rw [HN.out]
  rw [HMN.out] at hS2
  replace hX := hX.next hS2 hE2
  clear hS2 hE2
  have x1 := hX.blk.cell 1
  have xf := hX.blk.frozen 1
  simp at x1
  go_wp2_with fail
  replace hX := hX.write 1 (.bool false)
  simp at hX
  clear x1 xf
  refine (name_any hX.st hg.inv hg.size).mono ?_
  rintro e w3 ⟨rfl, hS3, hE3⟩
  replace hX := hX.next hS3 hE3
  clear hS3 hE3
  have x2 := hX.blk.cell 2
  have xf := hX.blk.frozen 2
  simp at x2
  go_wp2_with fail
  replace hX := hX.write 2 (.string σ.nameV)
  simp at hX
  clear x2 xf
  refine (want_any hX.st gn.inv _).mono ?_
  rintro e w4 ⟨rfl, hS4, hE4⟩
  rw [← HH.out] at hS4
  replace hX := hX.next hS4 hE4
  clear hS4 hE4
  go_wp2_with fail
  refine (number_any hX.st gh _ _ hs1.nums hs1.lo hs1.hi).mono ?_
  rintro e w5 ⟨rfl, own5, m5, hS5, hE5⟩
  rw [← HK.out] at hS5
  replace hX := hX.next hS5 hE5
  clear hS5 hE5
  have x3 := hX.blk.cell 3
  have xf := hX.blk.frozen 3
  have x1 := hX.blk.cell 1
  simp at x3 x1
  go_wp2_with fail
  replace hX := hX.write 3 (.int .i64 σ.hSt.numV)
  simp at hX
  clear x3 xf x1
  refine (may_any hX.st gk.inv bTimes).mono ?_
  rintro e w6 ⟨rfl, hS6, hE6⟩
  rw [HTs.out]
  rw [HMT.out] at hS6
  replace hX := hX.next hS6 hE6
  clear hS6 hE6
  go_wp2_with fail
  refine (number_any hX.st gk _ _ hs2.nums hs2.lo hs2.hi).mono ?_
  rintro e w7 ⟨rfl, own7, m7, hS7, hE7⟩
  rw [← HT.out] at hS7
  replace hX := hX.next hS7 hE7
  clear hS7 hE7
  have x4 := hX.blk.cell 4
  have xf := hX.blk.frozen 4
  simp at x4
  go_wp2_with fail
  replace hX := hX.write 4 (.int .i64 σ.kSt.adv.numV)
  simp at hX
  clear x4 xf
  refine (may_any hX.st gt.inv bIf).mono ?_
  rintro e w8 ⟨rfl, hS8, hE8⟩
  rw [HI.out]
  rw [HMI.out] at hS8
  replace hX := hX.next hS8 hE8
  clear hS8 hE8
  go_wp2_with fail
  refine (hj _ _ _ _ hX.st).mono ?_
  rintro e w9 ⟨rfl, own9, m9, hS9, hE9⟩
  replace hX := hX.next hS9 hE9
  clear hS9 hE9
  have x5 := hX.blk.cell 5
  have xf := hX.blk.frozen 5
  simp at x5
  go_wp2_with fail
  replace hX := hX.write 5 (.int .i64 c)
  simp at hX
  clear x5 xf
  generalize w9.setCell ⟨X, 5, none⟩ (.int .i64 c) = W at *
  have hway := Wayz.nil own9 W
  have hw9 := hX.st.cell 9
  simp [PCells] at hw9
  have x0 := hX.blk.cell 0
  have x1 := hX.blk.cell 1
  have x2 := hX.blk.cell 2
  have x3 := hX.blk.cell 3
  have x4 := hX.blk.cell 4
  have x5 := hX.blk.cell 5
  have x6 := hX.blk.cell 6
  simp at x0 x1 x2 x3 x4 x5 x6
  have hbl := hX.st.blk.lt
  have hXl := hX.blk.lt
  obtain ⟨i0, hi0, hz0, hz1, hz2⟩ := info_parts Tryz.infoPartD
  clear hfld hg gn gh gk gt h
  go_wp2_with fail
  go_region_law ((refine step_append_lies _ (by rfl) _ _ 121 (by rfl) 0 202 i0 _ 7 80 Tryz.underlying121 hi0 hz0 hz1 hz2 rfl (by decide) m9.pv σ1.parts.length (flat RPart.cells (σ1.parts.zip m9.wvs)) (by rfl) ((hX.st.alloc _).drew.parts) ⟨W.heap.size, 0, none⟩ 1 1 (RPart.cells (⟨σ.now.pos, false, σ.nameV, σ.hSt.numV, σ.kSt.adv.numV, c, []⟩, .slice none 0 0)) (by rfl) rfl (World.news_of_block (alloc_at _ _ _ (by simp))) (by simp [RPart.cells, Value.oneCell']) (by decide) (by unfold maxLen; omega) (by omega) (Nat.zero_le _) (W.heap.size + 1) (by simp) ?_; intro g cap w1z hown hgrow hat hlt1; have kb := (hX.st.alloc _).drew.far hgrow hX.st.op (by decide); have q9 := kb.cell 9; have qf := kb.frozen 9; simp [PCells] at q9))
  all_goals
    obtain ⟨hSZ, hEZ⟩ := (hX.st.alloc _).drew.app_parts ⟨σ.now.pos, false, σ.nameV, σ.hSt.numV, σ.kSt.adv.numV, c, []⟩ (.slice none 0 0) ((hway.grown (World.grownBy_alloc W _ none) (fun _ e => by cases e)).grown (grownBy_drew _ none) (fun _ e => by cases e)) hown hgrow (by simpa using hat)
    have hEF := ((hX.ext.alloc _).drew).trans hEZ
    clear hEZ hown hgrow hat kb x0 x1 x2 x3 x4 x5 x6 hw9 hway
    go_wp2
    go_ret
    exact ⟨ret_int (by omega), _, _, hSZ, hEF⟩
end Go.Proofs.YtddbjcfdmdbmkaaGreatDoor

/-
  part: brackets.
-/
namespace Go.Proofs.YtddbjcfdmdbmkaaGreatDoor
open Go.RowKit
attribute [local go_sem ↓] Go.wp_at_zero Go.wp_at_succ

theorem Tryz.infoInts : (Tryz.prog.info? 48).map (fun i => (i.zero, i.size, i.bytes)) = some (some (.slice none 0 0), 1, 24) := by kernel_rfl

/-- sequence's contract. -/
def SqC (out : List Nat) (σ σ' : PSt) : Prop := ∀ (own : Nat → Nat) (w : World) (b : Nat) (m : PM), St own w b m σ →
  Calls Tryz.prog 95 #[.pointer (some ⟨b, 0, none⟩)] w fun e w' => ∃ v, e = .returned v ∧ SeqPost own w b out σ' v w'

def bBar : ByteArray := ⟨#[124]⟩
/-- The loop of part's brackets: so many rounds more. -/
inductive BW (out : List (List Nat)) (σ' : PSt) : Nat → List (List Nat) → PSt → Prop
  | stop {acc : List (List Nat)} {l : List Nat} {σ σ1 : PSt} : acc.length ≤ 10000 → SqC l σ σ1 → σ1.toks = σ.toks → σ1.isS bBar = false → out = acc ++ [l] → σ' = σ1 → BW out σ' 0 acc σ
  | more {n : Nat} {acc : List (List Nat)} {l : List Nat} {σ σ1 : PSt} : acc.length ≤ 10000 → SqC l σ σ1 → σ1.toks = σ.toks → σ1.isS bBar = true → BW out σ' n (acc ++ [l]) σ1.adv → BW out σ' (n + 1) acc σ

/-- A list of lists that is being made: its row is of colour 9. -/
def Way9 (own : Nat → Nat) (w : World) (v : Value) (l : List (List Nat)) (lo : Nat) : Prop :=
  ∃ vs : List Value, w.ownsRow 0 48 1 v l.length vs ∧ (∀ g, v.ownBlock = some g → own g = 9 ∧ lo ≤ g) ∧ vs.length = l.length ∧ ∀ i, (h : i < vs.length) → (h' : i < l.length) → Ints own w vs[i] l[i]
theorem Way9.ext {own own' : Nat → Nat} {w w' : World} {v : Value} {l : List (List Nat)} {lo : Nat} (h : Way9 own w v l lo) (hE : Ext own w own' w') : Way9 own' w' v l lo := by
  obtain ⟨vs, h, ho, hl, hi⟩ := h
  exact ⟨vs, row_ext h (fun g hg => by rw [(ho g hg).1]; decide) hE, fun g hg => ⟨(hE.same g (h.lt g hg).2).trans (ho g hg).1, (ho g hg).2⟩, hl, fun i h1 h2 => (hi i h1 h2).ext hE⟩
theorem Way9.nil (own : Nat → Nat) (w : World) (lo : Nat) : Way9 own w (.slice none 0 0) [] lo := ⟨[], World.ownsRow_nil _ _ _ _, fun g hg => by simp [Value.ownBlock] at hg, rfl, fun i h => by simp at h⟩

/-- what holds in the loop -/
def BLd (pos : Int) (out : List (List Nat)) (σ' : PSt) (own : Nat → Nat) (w : World) (b X : Nat) (k : Nat) (wr : World) : Prop :=
  ∃ acc σc own' m' wv, BW out σ' k acc σc ∧ Good σc.toks ∧ XAt own w b σc own' m' X (PX pos false mt 0 1 (-1) wv) wr ∧ Way9 own' wr wv acc w.heap.size

theorem one_of {v : Value} (h : v.oneCell' = true) : ∀ u ∈ [v], u.oneCell' = true := fun u hu => by simp at hu; subst hu; exact h
theorem Ints.form {own : Nat → Nat} {w : World} {v : Value} {l : List Nat} (h : Ints own w v l) : ∃ a n c, v = .slice a n c := by
  obtain ⟨⟨k, h⟩, _⟩ := h
  rcases h.2 with ⟨rfl, _⟩ | ⟨g, cap, cur, rfl, _⟩
  · exact ⟨_, _, _, rfl⟩
  · exact ⟨_, _, _, rfl⟩
theorem Ints.one {own : Nat → Nat} {w : World} {v : Value} {l : List Nat} (h : Ints own w v l) : v.oneCell' = true := by
  obtain ⟨⟨k, h⟩, _⟩ := h
  rcases h.2 with ⟨rfl, _⟩ | ⟨g, cap, cur, rfl, _⟩ <;> rfl
theorem Wayz.ext {own own' : Nat → Nat} {w w' : World} {v : Value} {l : List (List Nat)} (h : Wayz own w v l) (hE : Ext own w own' w') : Wayz own' w' v l := by
  obtain ⟨vs, h, ho, hl, hi⟩ := h
  exact ⟨vs, row_ext h (fun g hg => by rw [ho g hg]; exact Nat.le_refl _) hE, fun g hg => (hE.same g (h.lt g hg).2).trans (ho g hg), hl, fun i h1 h2 => (hi i h1 h2).ext hE⟩

theorem way_step {own own3 : Nat → Nat} {w w3 w4 : World} {b X g cap : Nat} {σ : PSt} {m3 : PM} {pos : Int} {wv v : Value} {o : Obj} {acc : List (List Nat)} {l : List Nat} {vs : List Value}
    (hX : XAt own w b σ own3 m3 X #[.int .i64 pos, .bool false, .string mt, .int .i64 0, .int .i64 1, .int .i64 (-1), wv] w3) (_hrow : w3.ownsRow 0 48 1 wv acc.length vs)
    (hcol : ∀ g, wv.ownBlock = some g → own3 g = 9 ∧ w.heap.size ≤ g) (hvl : vs.length = acc.length) (hvi : ∀ i, (h : i < vs.length) → (h' : i < acc.length) → Ints own3 w3 vs[i] acc[i]) (hI : Ints own3 w3 v l)
    (hg : (w3.alloc o).grownBy w4 wv.ownBlock) (hat : wv.ownBlock = some g ∨ g = w3.heap.size + 1)
    (hown : w4.ownsRow 0 48 1 (.slice (some ⟨g, 0, none⟩) (acc.length + 1) cap) (acc.length + 1) (vs ++ [v])) :
    XAt own w b σ (put own3 g 9) m3 X #[.int .i64 pos, .bool false, .string mt, .int .i64 0, .int .i64 1, .int .i64 (-1), .slice (some ⟨g, 0, none⟩) (acc.length + 1) cap] (w4.setCell ⟨X, 6, none⟩ (.slice (some ⟨g, 0, none⟩) (acc.length + 1) cap)) ∧
    Way9 (put own3 g 9) (w4.setCell ⟨X, 6, none⟩ (.slice (some ⟨g, 0, none⟩) (acc.length + 1) cap)) (.slice (some ⟨g, 0, none⟩) (acc.length + 1) cap) (acc ++ [l]) w.heap.size := by
  have hr : ∀ k, wv.ownBlock = some k → own3 k = 9 := fun k hk => (hcol k hk).1
  have hat' : wv.ownBlock = some g ∨ g = (w3.alloc o).heap.size := by simpa using hat
  have hXg : X ≠ g := fun e => by
    rcases hat with e' | e'
    · have := hr g e'; rw [← e, hX.col] at this; cases this
    · have := hX.blk.lt; omega
  have hc8 : put own3 g 9 X = 8 := by rw [put_other _ _ _ _ hXg]; exact hX.col
  have hgw : w.heap.size ≤ g := by
    rcases hat with e | e
    · exact (hcol g e).2
    · have := hX.ext.size; omega
  have hS := ((hX.st.alloc o).appD 9 (by decide) hr hg hat')
  have hE := (hX.ext.alloc o).appD 9 hg (fun k hk => (hcol k hk).2) hat'
  have hB : Blk w4 X _ 202 := (hX.blk.alloc o).far hX.col hg hr (by decide)
  have hgs := grownBy_setCell w4 ⟨X, 6, none⟩ (.slice (some ⟨g, 0, none⟩) (acc.length + 1) cap)
  have h7 : ∀ k, some X = some k → put own3 g 9 k ≠ 7 := fun k e => by cases e; rw [hc8]; decide
  have ints : ∀ {u : Value} {l' : List Nat}, Ints own3 w3 u l' → Ints (put own3 g 9) (w4.setCell ⟨X, 6, none⟩ (.slice (some ⟨g, 0, none⟩) (acc.length + 1) cap)) u l' := fun hu =>
    ((hu.grown (World.grownBy_alloc w3 o none) (fun _ e => by cases e)).moved 9 hg hr (by decide) hat').grown hgs h7
  refine ⟨⟨hS.write8 (p := ⟨X, 6, none⟩) hc8 _, hE.setNew (p := ⟨X, 6, none⟩) hX.new _, ?_, hc8, hX.new⟩, vs ++ [v], ?_, fun k e => by cases e; exact ⟨put_same _ _ _, hgw⟩, by simp [hvl], ?_⟩
  · have := hB.set 6 (.slice (some ⟨g, 0, none⟩) (acc.length + 1) cap); simpa using this
  · have := hown.kept hgs (.inr (by simp [Value.ownBlock]; exact Ne.symm hXg)); simpa using this
  · intro i h1 h2
    by_cases hi : i < vs.length
    · have hi2 : i < acc.length := by omega
      rw [List.getElem_append_left hi, List.getElem_append_left hi2]
      exact ints (hvi i hi hi2)
    · have e1 : i = vs.length := by simp at h1; omega
      subst e1
      rw [List.getElem_append_right (Nat.le_refl _), List.getElem_append_right (by omega)]
      simp [hvl]
      exact ints hI

theorem bad_parts (σ : PSt) : σ.bad.parts = σ.parts := by unfold PSt.bad; split <;> rfl
theorem want_parts (σ : PSt) (s : ByteArray) : (σ.want s).parts = σ.parts := by unfold PSt.want; split; rfl; exact bad_parts σ
theorem want_bad_parts (σ : PSt) (s : ByteArray) : (σ.bad.want s).parts = σ.parts := by rw [want_parts, bad_parts]

set_option maxRecDepth 100000 in
set_option maxHeartbeats 1600000 in
theorem part_brk_walk {ways : List (List Nat)} {σ σ1 : PSt} {k n : Nat} (hg : Good σ.toks) (hp : σ.isS ⟨#[40]⟩ = true) (hin : σ.inside ≤ 1000000) (hB : BW ways σ1 n [] (σ.adv.down σ.now.pos)) (hk : σ1.inside = k + 1) (hk2 : k ≤ 1000000) (hb : σ1.parts.length ≤ 100000) :
    PartCd σ1.parts.length σ (({ σ1 with inside := k }.closed ways).addPart ⟨σ.now.pos, false, mt, 0, 1, -1, ways⟩) := by
  intro own w b m h
  have HP : Hid (σ.isS ⟨#[40]⟩ = true) := hp
  have HMP : Hid (σ.may ⟨#[40]⟩ = σ.adv) := by show _ = _; simp [PSt.may, hp, PSt.adv]
  have HI : Hid (σ1.inside = k + 1) := hk
  have hin' : σ.adv.inside ≤ 1000000 := hin
  have hfld := tok_field
  clear hp hk
  go_enter Tryz.func143, Tryz.ntmps143
  go_wp2_with fail
  refine (now_any h).mono ?_
  rintro e w0 ⟨rfl, o, rfl⟩
  go_wp2_with fail
  have hX := x_new h o (PX σ.now.pos false mt 0 1 (-1) (.slice none 0 0))
  unfold PX at hX
  refine (may_any hX.st hg.inv _).mono ?_
  rintro e w1 ⟨rfl, hS1, hE1⟩
  rw [HP.out]
  rw [HMP.out] at hS1
  replace hX := hX.next hS1 hE1
  clear hS1 hE1 hfld
  generalize w.heap.size + 1 = X at *
  generalize put own X 8 = ownX at *
  have x0 := hX.blk.cell 0
  simp at x0
  go_wp2_with fail
  refine (down_any hX.st _ hin').mono ?_
  rintro e w2 ⟨rfl, hS2, hE2⟩
  replace hX := hX.next hS2 hE2
  clear hS2 hE2 x0
  go_wp2_with fail
  have hL0 : BLd σ.now.pos ways σ1 own w b X n w2 := ⟨[], _, ownX, m, .slice none 0 0, hB, hg, hX, Way9.nil _ _ _⟩
  clear hB hX h
  go_loopg [] n (fun k wr => BLd σ.now.pos ways σ1 own w b X k wr)
  case atStart => exact hL0
  case round =>
    obtain ⟨acc, σc, own', m', wv, hBW, hG, hX, hW9⟩ := hrel
    clear hL0
    unfold PX at hX
    obtain ⟨j0, hj0, hy0, hy1, hy2⟩ := info_parts Tryz.infoInts
    cases hBW with
    | @stop _ l _ σ2 hlen hSq hts hno hout hs' =>
      subst hout hs'
      obtain ⟨vs, hrow, hcol, hvl, hvi⟩ := hW9
      go_wp2_with fail
      refine (hSq own' wr b m' hX.st).mono ?_
      rintro e w3 ⟨v, rfl, own3, m3, hS3, hE3, hInt⟩
      have hW9 : Way9 own3 w3 wv acc w.heap.size := Way9.ext ⟨vs, hrow, hcol, hvl, hvi⟩ hE3
      replace hX := hX.next hS3 hE3
      clear hS3 hE3 hrow hcol hvl hvi vs
      obtain ⟨vs, hrow, hcol, hvl, hvi⟩ := hW9
      have x6 := hX.blk.cell 6
      have xf := hX.blk.frozen 6
      simp at x6
      have hXl := hX.blk.lt
      have hone := hInt.one
      obtain ⟨av, nv, cv, rfl⟩ := hInt.form
      go_wp2_with (at_builtin; refine wpList_append_lies _ rfl (.tmp 23) (.tmp 25) 40 rfl 0 48 j0 _ 1 24 Tryz.underlying40 hj0 hy0 hy1 hy2 rfl (by decide) wv acc.length vs (by rfl) (hrow.alloc _) ⟨w3.heap.size, 0, none⟩ 1 1 [.slice av nv cv] (by rfl) rfl (World.news_of_block (alloc_at _ _ _ (by first | rfl | simp))) (one_of hone) (by decide) (by unfold maxLen; omega) (by omega) (Nat.zero_le _) (w3.heap.size + 1) (by first | rfl | simp) ?_; intro g cap w4 hown hgrow hat hlt; have kx := (hX.blk.alloc _).far hX.col hgrow (fun k hk => (hcol k hk).1) (by decide); have y6 := kx.cell 6; have yf := kx.frozen 6; simp at y6)
      obtain ⟨hX4, hW4⟩ := way_step hX hrow hcol hvl hvi hInt hgrow hat hown
      clear hX hrow hcol hvl hvi hInt hgrow hat hown x6 xf y6 yf kx hone hXl
      have hX := hX4
      clear hX4
      generalize w4.setCell ⟨X, 6, none⟩ (.slice (some ⟨g, 0, none⟩) (acc.length + 1) cap) = W4 at *
      generalize put own3 g 9 = own4 at *
      have HM : Hid (σ1.may bBar = σ1) := by show _ = _; simp [PSt.may, hno]
      have hg1 : Good σ1.toks := by rw [hts]; exact hG
      refine (may_any hX.st hg1.inv bBar).mono ?_
      rintro e w5 ⟨rfl, hS5, hE5⟩
      rw [hno]
      rw [HM.out] at hS5
      replace hX := hX.next hS5 hE5
      replace hW4 := hW4.ext hE5
      clear hS5 hE5
      have c3 := hX.st.cell 3
      have f3 := hX.st.blk.frozen 3
      simp [PCells] at c3
      rw [HI.out] at c3
      have x6 := hX.blk.cell 6
      simp at x6
      have hbX := hX.ne
      have hbX' := Ne.symm hbX
      obtain ⟨vs, hrow, hcol, hvl, hvi⟩ := hW4
      have hc9 : own4 g = 9 := (hcol g rfl).1
      -- the struct's store; the row becomes everybody's
      have hXs : XAt own w b { σ1 with inside := k } (put own4 g 7) m3 X #[.int .i64 σ.now.pos, .bool false, .string mt, .int .i64 0, .int .i64 1, .int .i64 (-1), .slice (some ⟨g, 0, none⟩) (acc.length + 1) cap] (w5.setCell ⟨b, 3, none⟩ (.int .i64 k)) :=
        ⟨(hX.st.store (σ' := { σ1 with inside := k }) 3 _ (by simp [PCells]) rfl rfl rfl rfl rfl rfl hX.st.ilt hX.st.wlo).recolor 7 (by rw [hc9]; decide),
         ⟨fun i hi => by rw [put_other _ _ _ _ (by have := (hcol g rfl).2; omega)]; exact hX.ext.same i hi, (hX.ext.setCell (p := ⟨b, 3, none⟩) hX.st.own7 _).kept⟩,
         hX.blk.other _ _ (by simpa using hbX), by rw [put_other _ _ _ _ (fun e => by rw [← e, hX.col] at hc9; cases hc9)]; exact hX.col, hX.new⟩
      have hgs := grownBy_setCell w5 ⟨b, 3, none⟩ (.int .i64 k)
      have hWs : Wayz (put own4 g 7) (w5.setCell ⟨b, 3, none⟩ (.int .i64 k)) (.slice (some ⟨g, 0, none⟩) (acc.length + 1) cap) (acc ++ [l]) :=
        ⟨vs, hrow.kept hgs (.inr (fun e => by have e' : g = b := by simpa [Value.ownBlock] using e
                                              rw [e', hX.st.ob] at hc9; cases hc9)), fun i e => by cases e; exact put_same _ _ _, hvl,
          fun i h1 h2 => ((hvi i h1 h2).grown hgs (fun i e => by cases e; rw [hX.st.ob]; decide)).recolor (by rw [hc9]; decide)⟩
      have hgk : Good ({ σ1 with inside := k } : PSt).toks := hg1
      clear hX hrow hcol hvl hvi hc9 hgs HM hno hts
      by_cases hl2 : acc.length + 1 < 2
      · have hl2' : (acc.length : Int) + 1 < 2 := by omega
        have HC : Hid (({ σ1 with inside := k } : PSt).closed (acc ++ [l]) = ({ σ1 with inside := k } : PSt).bad.want ⟨#[41]⟩) := by show _ = _; simp only [PSt.closed, List.length_append, List.length_cons, List.length_nil]; rw [if_pos (by omega)]
        have HCp : Hid ((({ σ1 with inside := k } : PSt).closed (acc ++ [l])).parts = σ1.parts) := by show _ = _; rw [HC.out]; exact want_bad_parts _ _
        go_wp2_with fail
        clear c3 f3 x6
        refine (bad_any hXs.st).mono ?_
        rintro e w6 ⟨rfl, hS6, hE6⟩
        replace hXs := hXs.next hS6 hE6
        replace hWs := hWs.ext hE6
        clear hS6 hE6
        go_wp2_with fail
        have hgb : Good ({ σ1 with inside := k } : PSt).bad.toks := by rw [bad_toks]; exact hgk
        refine (want_any hXs.st hgb.inv _).mono ?_
        rintro e w7 ⟨rfl, hS7, hE7⟩
        rw [← HC.out] at hS7
        have hX := hXs.next hS7 hE7
        have hway := hWs.ext hE7
        clear hXs hWs hS7 hE7
        have hb : (({ σ1 with inside := k } : PSt).closed (acc ++ [l])).parts.length ≤ 100000 := by rw [HCp.out]; exact hb
        generalize hσZ : ({ σ1 with inside := k } : PSt).closed (acc ++ [l]) = σZ at *
        have HσZ : Hid (({ σ1 with inside := k } : PSt).closed (acc ++ [l]) = σZ) := hσZ
        clear hσZ
        have hw9 := hX.st.cell 9
        simp [PCells] at hw9
        have x0 := hX.blk.cell 0
        have x1 := hX.blk.cell 1
        have x2 := hX.blk.cell 2
        have x3 := hX.blk.cell 3
        have x4 := hX.blk.cell 4
        have x5 := hX.blk.cell 5
        have x6 := hX.blk.cell 6
        simp at x0 x1 x2 x3 x4 x5 x6
        have hbl := hX.st.blk.lt
        have hXl := hX.blk.lt
        obtain ⟨i0, hi0, hz0, hz1, hz2⟩ := info_parts Tryz.infoPartD
        clear hg
        go_wp2_with fail
        go_region_law ((refine step_append_lies _ (by rfl) _ _ 121 (by rfl) 0 202 i0 _ 7 80 Tryz.underlying121 hi0 hz0 hz1 hz2 rfl (by decide) m3.pv σZ.parts.length (flat RPart.cells (σZ.parts.zip m3.wvs)) (by rfl) ((hX.st.alloc _).drew.parts) ⟨w7.heap.size, 0, none⟩ 1 1 (RPart.cells (⟨σ.now.pos, false, mt, 0, 1, -1, (acc ++ [l])⟩, .slice (some ⟨g, 0, none⟩) (acc.length + 1) cap)) (by rfl) rfl (World.news_of_block (alloc_at _ _ _ (by simp))) (by simp [RPart.cells, Value.oneCell']) (by decide) (by unfold maxLen; omega) (by omega) (Nat.zero_le _) (w7.heap.size + 1) (by simp) ?_; intro gz capz w1z hown hgrow hat hlt1; have kb := (hX.st.alloc _).drew.far hgrow hX.st.op (by decide); have q9 := kb.cell 9; have qf := kb.frozen 9; simp [PCells] at q9))
        all_goals
          obtain ⟨hSZ, hEZ⟩ := (hX.st.alloc _).drew.app_parts ⟨σ.now.pos, false, mt, 0, 1, -1, (acc ++ [l])⟩ (.slice (some ⟨g, 0, none⟩) (acc.length + 1) cap) ((hway.grown (World.grownBy_alloc w7 _ none) (fun _ e => by cases e)).grown (grownBy_drew _ none) (fun _ e => by cases e)) hown hgrow (by simpa using hat)
          have hEF := ((hX.ext.alloc _).drew).trans hEZ
          clear hEZ hown hgrow hat kb x0 x1 x2 x3 x4 x5 x6 hw9 hway
          go_wp2
          go_ret
          rw [HσZ.out]; exact ⟨ret_int (by rw [← HCp.out]), _, _, hSZ, hEF⟩
      · have hl2' : 2 ≤ (acc.length : Int) + 1 := by omega
        have HC : Hid (({ σ1 with inside := k } : PSt).closed (acc ++ [l]) = ({ σ1 with inside := k } : PSt).want ⟨#[41]⟩) := by show _ = _; simp only [PSt.closed, List.length_append, List.length_cons, List.length_nil]; rw [if_neg (by omega)]
        have HCp : Hid ((({ σ1 with inside := k } : PSt).closed (acc ++ [l])).parts = σ1.parts) := by show _ = _; rw [HC.out]; exact want_parts _ _
        go_wp2_with fail
        clear c3 f3 x6
        refine (want_any hXs.st hgk.inv _).mono ?_
        rintro e w7 ⟨rfl, hS7, hE7⟩
        rw [← HC.out] at hS7
        have hX := hXs.next hS7 hE7
        have hway := hWs.ext hE7
        clear hXs hWs hS7 hE7
        have hb : (({ σ1 with inside := k } : PSt).closed (acc ++ [l])).parts.length ≤ 100000 := by rw [HCp.out]; exact hb
        generalize hσZ : ({ σ1 with inside := k } : PSt).closed (acc ++ [l]) = σZ at *
        have HσZ : Hid (({ σ1 with inside := k } : PSt).closed (acc ++ [l]) = σZ) := hσZ
        clear hσZ
        have hw9 := hX.st.cell 9
        simp [PCells] at hw9
        have x0 := hX.blk.cell 0
        have x1 := hX.blk.cell 1
        have x2 := hX.blk.cell 2
        have x3 := hX.blk.cell 3
        have x4 := hX.blk.cell 4
        have x5 := hX.blk.cell 5
        have x6 := hX.blk.cell 6
        simp at x0 x1 x2 x3 x4 x5 x6
        have hbl := hX.st.blk.lt
        have hXl := hX.blk.lt
        obtain ⟨i0, hi0, hz0, hz1, hz2⟩ := info_parts Tryz.infoPartD
        clear hg
        go_wp2_with fail
        go_region_law ((refine step_append_lies _ (by rfl) _ _ 121 (by rfl) 0 202 i0 _ 7 80 Tryz.underlying121 hi0 hz0 hz1 hz2 rfl (by decide) m3.pv σZ.parts.length (flat RPart.cells (σZ.parts.zip m3.wvs)) (by rfl) ((hX.st.alloc _).drew.parts) ⟨w7.heap.size, 0, none⟩ 1 1 (RPart.cells (⟨σ.now.pos, false, mt, 0, 1, -1, (acc ++ [l])⟩, .slice (some ⟨g, 0, none⟩) (acc.length + 1) cap)) (by rfl) rfl (World.news_of_block (alloc_at _ _ _ (by simp))) (by simp [RPart.cells, Value.oneCell']) (by decide) (by unfold maxLen; omega) (by omega) (Nat.zero_le _) (w7.heap.size + 1) (by simp) ?_; intro gz capz w1z hown hgrow hat hlt1; have kb := (hX.st.alloc _).drew.far hgrow hX.st.op (by decide); have q9 := kb.cell 9; have qf := kb.frozen 9; simp [PCells] at q9))
        all_goals
          obtain ⟨hSZ, hEZ⟩ := (hX.st.alloc _).drew.app_parts ⟨σ.now.pos, false, mt, 0, 1, -1, (acc ++ [l])⟩ (.slice (some ⟨g, 0, none⟩) (acc.length + 1) cap) ((hway.grown (World.grownBy_alloc w7 _ none) (fun _ e => by cases e)).grown (grownBy_drew _ none) (fun _ e => by cases e)) hown hgrow (by simpa using hat)
          have hEF := ((hX.ext.alloc _).drew).trans hEZ
          clear hEZ hown hgrow hat kb x0 x1 x2 x3 x4 x5 x6 hw9 hway
          go_wp2
          go_ret
          rw [HσZ.out]; exact ⟨ret_int (by rw [← HCp.out]), _, _, hSZ, hEF⟩
    | @more gn _ l _ σ2 hlen hSq hts hyes hBW =>
      obtain ⟨vs, hrow, hcol, hvl, hvi⟩ := hW9
      go_wp2_with fail
      refine (hSq own' wr b m' hX.st).mono ?_
      rintro e w3 ⟨v, rfl, own3, m3, hS3, hE3, hInt⟩
      have hW9 : Way9 own3 w3 wv acc w.heap.size := Way9.ext ⟨vs, hrow, hcol, hvl, hvi⟩ hE3
      replace hX := hX.next hS3 hE3
      clear hS3 hE3 hrow hcol hvl hvi vs
      obtain ⟨vs, hrow, hcol, hvl, hvi⟩ := hW9
      have x6 := hX.blk.cell 6
      have xf := hX.blk.frozen 6
      simp at x6
      have hXl := hX.blk.lt
      have hone := hInt.one
      obtain ⟨av, nv, cv, rfl⟩ := hInt.form
      go_wp2_with (at_builtin; refine wpList_append_lies _ rfl (.tmp 23) (.tmp 25) 40 rfl 0 48 j0 _ 1 24 Tryz.underlying40 hj0 hy0 hy1 hy2 rfl (by decide) wv acc.length vs (by rfl) (hrow.alloc _) ⟨w3.heap.size, 0, none⟩ 1 1 [.slice av nv cv] (by rfl) rfl (World.news_of_block (alloc_at _ _ _ (by first | rfl | simp))) (one_of hone) (by decide) (by unfold maxLen; omega) (by omega) (Nat.zero_le _) (w3.heap.size + 1) (by first | rfl | simp) ?_; intro g cap w4 hown hgrow hat hlt; have kx := (hX.blk.alloc _).far hX.col hgrow (fun k hk => (hcol k hk).1) (by decide); have y6 := kx.cell 6; have yf := kx.frozen 6; simp at y6)
      obtain ⟨hX4, hW4⟩ := way_step hX hrow hcol hvl hvi hInt hgrow hat hown
      clear hX hrow hcol hvl hvi hInt hgrow hat hown x6 xf y6 yf kx hone hXl
      have hX := hX4
      clear hX4
      generalize w4.setCell ⟨X, 6, none⟩ (.slice (some ⟨g, 0, none⟩) (acc.length + 1) cap) = W4 at *
      generalize put own3 g 9 = own4 at *
      have HM : Hid (σ2.may bBar = σ2.adv) := by show _ = _; simp [PSt.may, hyes, PSt.adv]
      have hg1 : Good σ2.toks := by rw [hts]; exact hG
      refine (may_any hX.st hg1.inv bBar).mono ?_
      rintro e w5 ⟨rfl, hS5, hE5⟩
      rw [hyes]
      rw [HM.out] at hS5
      replace hX := hX.next hS5 hE5
      replace hW4 := hW4.ext hE5
      clear hS5 hE5
      go_wp2_with fail
      go_roundg gn
      case measure => omega
      case rel => exact ⟨acc ++ [l], σ2.adv, own4, m3, _, hBW, hg1, hX, hW4⟩
end Go.Proofs.YtddbjcfdmdbmkaaGreatDoor

/-
  joined: the walks.
-/
namespace Go.Proofs.YtddbjcfdmdbmkaaGreatDoor
open Go.RowKit

theorem undef_yield : yielded.match_1 (fun _ => Option Bool) (some undef) (fun b => some b) (fun _ => none) = none := rfl

/-- The loop of joined: so many rounds more. -/
inductive LW (which : Nat) (r : Int) (σ' : PSt) : Nat → Int → PSt → Prop
  | stop {a : Int} {σ : PSt} : (σ.now.isOp which && decide (σ.wrong < 0)) = false → r = a → σ' = σ → LW which r σ' 0 a σ
  | more {n : Nat} {a b : Int} {σ σ1 : PSt} : σ.wrong < 0 → σ.now.isOp which = true → JC (which + 1) σ.adv b σ1 → σ1.toks = σ.toks → σ1.nodes.length ≤ 100000 →
      LW which r σ' n σ1.nodes.length (σ1.push ⟨σ.now.s, a, b, 0, mt, mt, 0⟩) → LW which r σ' (n + 1) a σ

def JL (which : Nat) (r : Int) (σ' : PSt) (own : Nat → Nat) (w : World) (b : Nat) (k : Nat) (a : Value) (wr : World) : Prop :=
  ∃ ac σc own' m', LW which r σ' k ac σc ∧ Good σc.toks ∧ a = .int .i64 ac ∧ St own' wr b m' σc ∧ Ext own w own' wr

end Go.Proofs.YtddbjcfdmdbmkaaGreatDoor
