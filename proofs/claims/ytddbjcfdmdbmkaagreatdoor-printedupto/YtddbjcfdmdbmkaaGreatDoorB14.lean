import Derived.Test.YtddbjcfdmdbmkaaGreatDoorB13
set_option linter.unusedVariables false
set_option linter.unusedSimpArgs false
namespace Go.Proofs.YtddbjcfdmdbmkaaGreatDoor
open Go.RowKit

def partCells (x : PPart × (Value × Value)) : List Value := [.string x.1.name, .int .i64 x.1.place, .int .i64 x.1.times, .int .i64 x.1.kind, x.2.1, x.2.2]
def partVal (p : PPart) (cv hv : Value) : Value := .agg #[.string p.name, .int .i64 p.place, .int .i64 p.times, .int .i64 p.kind, cv, hv]
def ChBy (own : Nat → Nat) (w : World) (S : Value → List PPart → Prop) (v : Value) (c : List (List PPart)) : Prop :=
  (c = [] ∧ v = .slice none 0 0) ∨ (c ≠ [] ∧ ∃ vs : List Value, vs.length = c.length ∧ w.ownsRow 0 99 1 v c.length vs ∧ (∀ g, v.ownBlock = some g → own g = 7) ∧ ∀ q ∈ c.zip vs, S q.2 q.1)
def SeqLie (own : Nat → Nat) (w : World) : Nat → Value → List PPart → Prop
  | 0, _, _ => False
  | n + 1, v, l => ∃ xs : List (Value × Value), xs.length = l.length ∧ w.ownsRow 0 189 6 v l.length (flat partCells (l.zip xs)) ∧ (∀ g, v.ownBlock = some g → own g = 7) ∧
      ∀ p ∈ l.zip xs, OpsLie own w p.2.1 p.1.cond ∧ ChBy own w (SeqLie own w n) p.2.2 p.1.choices
def PartLie (own : Nat → Nat) (w : World) (n : Nat) (p : PPart) (cv hv : Value) : Prop := OpsLie own w cv p.cond ∧ ChBy own w (SeqLie own w n) hv p.choices
theorem ChBy.ext {own own' : Nat → Nat} {w w' : World} {S S' : Value → List PPart → Prop} (hS : ∀ v l, S v l → S' v l) {v : Value} {c : List (List PPart)} (h : ChBy own w S v c) (hE : Ext own w own' w') : ChBy own' w' S' v c := by
  rcases h with h | ⟨h0, vs, h1, h2, h3, h4⟩
  · exact .inl h
  · obtain ⟨r, o⟩ := row_ext7 h2 h3 hE
    exact .inr ⟨h0, vs, h1, r, o, fun q hq => hS _ _ (h4 q hq)⟩
theorem SeqLie.ext {own own' : Nat → Nat} {w w' : World} (hE : Ext own w own' w') : ∀ n v l, SeqLie own w n v l → SeqLie own' w' n v l := by
  intro n
  induction n with
  | zero => intro v l h; exact h
  | succ n ih =>
    rintro v l ⟨xs, h1, h2, h3, h4⟩
    obtain ⟨r, o⟩ := row_ext7 h2 h3 hE
    exact ⟨xs, h1, r, o, fun p hp => ⟨(h4 p hp).1.ext hE, (h4 p hp).2.ext ih hE⟩⟩
theorem PartLie.ext {own own' : Nat → Nat} {w w' : World} {n : Nat} {p : PPart} {cv hv : Value} (h : PartLie own w n p cv hv) (hE : Ext own w own' w') : PartLie own' w' n p cv hv :=
  ⟨h.1.ext hE, h.2.ext (SeqLie.ext hE n) hE⟩

def PartPost (own : Nat → Nat) (w : World) (b n : Nat) (r : Rd × PPart) (v : Value) (w' : World) : Prop := ∃ own' m' cv hv, RSt own' w' b m' r.1 ∧ Ext own w own' w' ∧ v = partVal r.2 cv hv ∧ PartLie own' w' n r.2 cv hv

theorem row_form {w : World} {base : Nat} {e : TypeId} {size : Nat} {v : Value} {n : Nat} {xs : List Value} (h : w.ownsRow base e size v n xs) : ∃ p l c, v = .slice p l c := by
  rcases h.2 with ⟨rfl, _⟩ | ⟨g, cap, cur, rfl, _⟩
  · exact ⟨_, _, _, rfl⟩
  · exact ⟨_, _, _, rfl⟩

def zeroPart : Array Value := #[.string ⟨#[]⟩, .int .i64 0, .int .i64 0, .int .i64 0, .slice none 0 0, .slice none 0 0]
def plainPart (name : ByteArray) (place times kind : Nat) (cv : Value) : Array Value := #[.string name, .int .i64 place, .int .i64 times, .int .i64 kind, cv, .slice none 0 0]
structure Two (own : Nat → Nat) (w : World) (N M : Nat) (cs : Array Value) : Prop where
  z : Blk w N zeroPart 189
  p : Blk w M cs 189
  oz : own N = 8
  op : own M = 8
theorem Two.ext {own own' : Nat → Nat} {w w' : World} {N M : Nat} {cs : Array Value} (h : Two own w N M cs) (e : Ext own w own' w') : Two own' w' N M cs :=
  ⟨e.blk8 h.oz h.z, e.blk8 h.op h.p, (e.same _ h.z.lt).trans h.oz, (e.same _ h.p.lt).trans h.op⟩
theorem Two.set {own : Nat → Nat} {w : World} {N M : Nat} {cs : Array Value} (h : Two own w N M cs) (hne : N ≠ M) (k : Nat) (v : Value) : Two own (w.setCell ⟨M, k, none⟩ v) N M (cs.setIfInBounds k v) :=
  ⟨h.z.other _ v (fun e => hne e.symm), h.p.set k v, h.oz, h.op⟩
theorem Blk.six {w : World} {N : Nat} (h : Blk w N zeroPart 189) (v0 v1 v2 v3 v4 v5 : Value) :
    Blk ((((((w.setCell ⟨N, 0, none⟩ v0).setCell ⟨N, 1, none⟩ v1).setCell ⟨N, 2, none⟩ v2).setCell ⟨N, 3, none⟩ v3).setCell ⟨N, 4, none⟩ v4).setCell ⟨N, 5, none⟩ v5) N #[v0, v1, v2, v3, v4, v5] 189 := by
  have := (((((h.set 0 v0).set 1 v1).set 2 v2).set 3 v3).set 4 v4).set 5 v5
  simpa [zeroPart] using this
theorem RSt.six {own : Nat → Nat} {w : World} {b : Nat} {m : RM} {σ : Rd} (h : RSt own w b m σ) {N : Nat} (hN : own N = 8) (v0 v1 v2 v3 v4 v5 : Value) :
    RSt own ((((((w.setCell ⟨N, 0, none⟩ v0).setCell ⟨N, 1, none⟩ v1).setCell ⟨N, 2, none⟩ v2).setCell ⟨N, 3, none⟩ v3).setCell ⟨N, 4, none⟩ v4).setCell ⟨N, 5, none⟩ v5) b m σ :=
  (((((h.write8 (p := ⟨N, 0, none⟩) hN v0).write8 (p := ⟨N, 1, none⟩) hN v1).write8 (p := ⟨N, 2, none⟩) hN v2).write8 (p := ⟨N, 3, none⟩) hN v3).write8 (p := ⟨N, 4, none⟩) hN v4).write8 (p := ⟨N, 5, none⟩) hN v5
theorem Ext.six {own own' : Nat → Nat} {w w' : World} (h : Ext own w own' w') {N : Nat} (hN : w.heap.size ≤ N) (v0 v1 v2 v3 v4 v5 : Value) :
    Ext own w own' ((((((w'.setCell ⟨N, 0, none⟩ v0).setCell ⟨N, 1, none⟩ v1).setCell ⟨N, 2, none⟩ v2).setCell ⟨N, 3, none⟩ v3).setCell ⟨N, 4, none⟩ v4).setCell ⟨N, 5, none⟩ v5) :=
  (((((h.setNew (p := ⟨N, 0, none⟩) hN v0).setNew (p := ⟨N, 1, none⟩) hN v1).setNew (p := ⟨N, 2, none⟩) hN v2).setNew (p := ⟨N, 3, none⟩) hN v3).setNew (p := ⟨N, 4, none⟩) hN v4).setNew (p := ⟨N, 5, none⟩) hN v5
theorem Ext.write8 {own : Nat → Nat} {w : World} {p : Addr} (v : Value) (hp : own p.block = 8) : Ext (fun k => if own k = 8 then 1 else own k) w (fun k => if own k = 8 then 1 else own k) (w.setCell p v) :=
  (Ext.refl _ w).setCell (p := p) (by simp [hp]) v
theorem OpsLie.write8 {own : Nat → Nat} {w : World} {v : Value} {l : List POp} (h : OpsLie own w v l) {p : Addr} (hp : own p.block = 8) (u : Value) : OpsLie own (w.setCell p u) v l := by
  have h' : OpsLie (fun k => if own k = 8 then 1 else own k) w v l := ⟨h.1, fun g hg => by simp [h.2 g hg]⟩
  exact ⟨(h'.ext (Ext.write8 u hp)).1, h.2⟩
theorem OpsLie.six {own : Nat → Nat} {w : World} {v : Value} {l : List POp} (h : OpsLie own w v l) {N : Nat} (hN : own N = 8) (v0 v1 v2 v3 v4 v5 : Value) :
    OpsLie own ((((((w.setCell ⟨N, 0, none⟩ v0).setCell ⟨N, 1, none⟩ v1).setCell ⟨N, 2, none⟩ v2).setCell ⟨N, 3, none⟩ v3).setCell ⟨N, 4, none⟩ v4).setCell ⟨N, 5, none⟩ v5) v l :=
  (((((h.write8 (p := ⟨N, 0, none⟩) hN v0).write8 (p := ⟨N, 1, none⟩) hN v1).write8 (p := ⟨N, 2, none⟩) hN v2).write8 (p := ⟨N, 3, none⟩) hN v3).write8 (p := ⟨N, 4, none⟩) hN v4).write8 (p := ⟨N, 5, none⟩) hN v5
def ownBox4 (own : Nat → Nat) (N : Nat) : Nat → Nat := put (put (put own N 8) (N + 2) 8) (N + 1 + 1 + 1) 8
theorem setCell_size (w : World) (p : Addr) (v : Value) : (w.setCell p v).heap.size = w.heap.size := by simp [World.setCell]
theorem RSt.box4 {own : Nat → Nat} {w : World} {b : Nat} {m : RM} {σ : Rd} (h : RSt own w b m σ) (o1 o2 : Obj) (cs : Array Value) :
    RSt (ownBox4 own w.heap.size) ((((w.alloc (.cells zeroPart 189)).alloc o1).alloc o2).alloc (.cells cs 189)) b m σ ∧ Ext own w (ownBox4 own w.heap.size) ((((w.alloc (.cells zeroPart 189)).alloc o1).alloc o2).alloc (.cells cs 189)) ∧
    Two (ownBox4 own w.heap.size) ((((w.alloc (.cells zeroPart 189)).alloc o1).alloc o2).alloc (.cells cs 189)) w.heap.size (w.heap.size + 1 + 1 + 1) cs :=
  have e : ∀ k, k < w.heap.size → ownBox4 own w.heap.size k = own k := fun k hk => by unfold ownBox4; rw [put_other _ _ _ _ (by omega), put_other _ _ _ _ (by omega), put_other _ _ _ _ (by omega)]
  ⟨((((h.owner e).alloc _).alloc o1).alloc o2).alloc _, ⟨e, (((((Ext.refl own w).alloc _).alloc o1).alloc o2).alloc _).kept⟩,
   ⟨(((Blk.new w zeroPart 189).alloc o1).alloc o2).alloc _, alloc_at _ _ _ (by simp), by unfold ownBox4; rw [put_other _ _ _ _ (by omega), put_other _ _ _ _ (by omega), put_same], put_same _ _ _⟩⟩

set_option maxRecDepth 100000 in
set_option maxHeartbeats 800000 in
theorem step_no {b n k : Nat} {own : Nat → Nat} {w : World} {m : RM} {σ : Rd} (h : RSt own w b m σ) (hpre : Pre2 (n + 1) σ) (hk : σ.now.kind = 3) (ht : ((σ.skip.expect [tColon]).num 0 99).has [tTimes] = false) :
    Calls Tryz.prog 200 #[.pointer (some ⟨b, 0, none⟩)] w fun e w' => ∃ v, e = .returned v ∧ PartPost own w b k (stepP n σ) v w' := by
  have hbw := h.blk.lt
  have h2 := hpre.good.more (by show 2 ≤ σ.now.kind; omega)
  have a1 := skip_ok hpre.good h2
  have a2 := expect_ok a1.good (ts := [tColon]) (by simp [KW])
  have a3 := num_ok a2.good 0 99
  have p3 : Pre2 n ((σ.skip.expect [tColon]).num 0 99) := by
    have l1 := skip_len σ; have l2 := a2.le; have l3 := a3.le; have l4 := hpre.le; have l5 := hpre.deep
    have d := a3.deep.trans (a2.deep.trans a1.deep)
    exact ⟨a3.good, by omega, by omega⟩
  have HV : Hid (stepP n σ = ((condP n ((σ.skip.expect [tColon]).num 0 99)).dead, .mk σ.now.text σ.now.place 1 (σ.skip.expect [tColon]).numV (condP n ((σ.skip.expect [tColon]).num 0 99)).opsL [])) := by
    show _ = _; unfold stepP; simp only [ht, Bool.false_eq_true, if_false]
  have HW : Hid (((σ.skip.expect [tColon]).num 0 99).which [tTimes] = (σ.skip.expect [tColon]).num 0 99) := by show _ = _; unfold Rd.which; rw [if_neg (by simp [ht])]
  rw [HV.out]
  have hnum := fun own2 w2 m2 (hs2 : RSt own2 w2 b m2 (σ.skip.expect [tColon])) => number_p hs2 a2.good 0 99 (by omega) (by omega)
  generalize (σ.skip.expect [tColon]).numV = kv at *
  clear HV hk
  go_enter Tryz.func200, Tryz.ntmps200
  go_wp2_with (first
    | (go_at_call 83; refine (now_p (h.alloc _) hpre.good.pos).mono ?_; rintro e w' ⟨rfl, o, rfl⟩)
    | (go_at_call 164; obtain ⟨hs0, he0, hT0⟩ := h.box4 o (.cells (tokCells σ.now) 141) (plainPart σ.now.text σ.now.place 1 0 (.slice none 0 0)); refine (skip_p hs0 h2).mono ?_; rintro e w1 ⟨rfl, hs1, he1⟩; have hT1 := hT0.ext he1)
    | (go_at_call 130; refine (expect_new hs1 a1.good [tColon] (by simp [KW]) (by simp) 1 rfl).mono ?_; rintro e w2 ⟨rfl, own2, m2, hs2, he2⟩; have hT2 := hT1.ext he2)
    | (go_at_call 131; refine (hnum own2 w2 m2 hs2).mono ?_; rintro e w3 ⟨rfl, own3, m3, hs3, he3⟩; have hT3 := hT2.ext he3; have q3 := hT3.p.cell 3; have f3 := hT3.p.frozen 3; simp [plainPart] at q3)
    | (go_at_call 168; have hs3' := hs3.write8 (p := ⟨w.heap.size + 1 + 1 + 1, 3, none⟩) hT3.op (.int .i64 kv); have hT3' := hT3.set (by omega) 3 (.int .i64 kv); have htk := take_new hs3' a3.good [tTimes] (by simp [KW]) (by simp) 1 rfl; rw [setCell_size, HW.out, ht] at htk; refine htk.mono ?_; rintro e w4 ⟨rfl, own4, m4, hs4, he4⟩; have hT4 := hT3'.ext he4)
    | (go_at_call 224; refine (condition_p hs4 p3).mono ?_; rintro e w5 ⟨cv, rfl, own5, m5, hs5, he5, hops⟩; obtain ⟨cp, cn, cc, rfl⟩ := row_form hops.1; have hT5 := hT4.ext he5; have q4 := hT5.p.cell 4; have f4 := hT5.p.frozen 4; simp [plainPart] at q4; have hT5' := hT5.set (by omega) 4 (.slice cp cn cc); have c0 := hT5'.p.cell 0; have c1 := hT5'.p.cell 1; have c2 := hT5'.p.cell 2; have c3 := hT5'.p.cell 3; have c4 := hT5'.p.cell 4; have c5 := hT5'.p.cell 5; have z0 := hT5'.z.cell 0; have z1 := hT5'.z.cell 1; have z2 := hT5'.z.cell 2; have z3 := hT5'.z.cell 3; have z4 := hT5'.z.cell 4; have z5 := hT5'.z.cell 5; have g0 := hT5'.z.frozen 0; have g1 := hT5'.z.frozen 1; have g2 := hT5'.z.frozen 2; have g3 := hT5'.z.frozen 3; have g4 := hT5'.z.frozen 4; have g5 := hT5'.z.frozen 5; simp [plainPart, zeroPart] at c0 c1 c2 c3 c4 c5 z0 z1 z2 z3 z4 z5))
  have hE := ((((he0.trans he1).trans he2).trans he3).setNew (p := ⟨w.heap.size + 1 + 1 + 1, 3, none⟩) (by show w.heap.size ≤ w.heap.size + 1 + 1 + 1; omega) (.int .i64 kv)).trans (he4.trans he5)
  have hE' := (hE.setNew (p := ⟨w.heap.size + 1 + 1 + 1, 4, none⟩) (by show w.heap.size ≤ w.heap.size + 1 + 1 + 1; omega) (.slice cp cn cc)).six (N := w.heap.size) (Nat.le_refl _) (.string σ.now.text) (.int .i64 σ.now.place) (.int .i64 1) (.int .i64 kv) (.slice cp cn cc) (.slice none 0 0)
  have hS' := (hs5.write8 (p := ⟨w.heap.size + 1 + 1 + 1, 4, none⟩) hT5.op (.slice cp cn cc)).six (N := w.heap.size) hT5.oz (.string σ.now.text) (.int .i64 σ.now.place) (.int .i64 1) (.int .i64 kv) (.slice cp cn cc) (.slice none 0 0)
  have hO' := (hops.write8 (p := ⟨w.heap.size + 1 + 1 + 1, 4, none⟩) hT5.op (.slice cp cn cc)).six (N := w.heap.size) hT5.oz (.string σ.now.text) (.int .i64 σ.now.place) (.int .i64 1) (.int .i64 kv) (.slice cp cn cc) (.slice none 0 0)
  have hB := hT5'.z.six (.string σ.now.text) (.int .i64 σ.now.place) (.int .i64 1) (.int .i64 kv) (.slice cp cn cc) (.slice none 0 0)
  have k0 := hB.cell 0; have k1 := hB.cell 1; have k2 := hB.cell 2; have k3 := hB.cell 3; have k4 := hB.cell 4; have k5 := hB.cell 5
  simp at k0 k1 k2 k3 k4 k5
  exact bodyPost_ret (v := partVal (.mk σ.now.text σ.now.place 1 kv (condP n ((σ.skip.expect [tColon]).num 0 99)).opsL []) (.slice cp cn cc) (.slice none 0 0)) (by simp [results, Tryz.results200, go_sem, k0, k1, k2, k3, k4, k5, partVal, PPart.name, PPart.place, PPart.times, PPart.kind]) rfl
    ⟨_, rfl, own5, m5, _, _, hS', hE', rfl, hO', .inl ⟨rfl, rfl⟩⟩
end Go.Proofs.YtddbjcfdmdbmkaaGreatDoor

namespace Go.Proofs.YtddbjcfdmdbmkaaGreatDoor
open Go.RowKit

set_option maxRecDepth 100000 in
set_option maxHeartbeats 800000 in
theorem step_yes {b n k : Nat} {own : Nat → Nat} {w : World} {m : RM} {σ : Rd} (h : RSt own w b m σ) (hpre : Pre2 (n + 1) σ) (hk : σ.now.kind = 3) (ht : ((σ.skip.expect [tColon]).num 0 99).has [tTimes] = true) :
    Calls Tryz.prog 200 #[.pointer (some ⟨b, 0, none⟩)] w fun e w' => ∃ v, e = .returned v ∧ PartPost own w b k (stepP n σ) v w' := by
  have hbw := h.blk.lt
  have h2 := hpre.good.more (by show 2 ≤ σ.now.kind; omega)
  have a1 := skip_ok hpre.good h2
  have a2 := expect_ok a1.good (ts := [tColon]) (by simp [KW])
  have a3 := num_ok a2.good 0 99
  have p3 : Pre2 n ((σ.skip.expect [tColon]).num 0 99) := by
    have l1 := skip_len σ; have l2 := a2.le; have l3 := a3.le; have l4 := hpre.le; have l5 := hpre.deep
    have d := a3.deep.trans (a2.deep.trans a1.deep)
    exact ⟨a3.good, by omega, by omega⟩
  have h4 := a3.good.has (ts := [tTimes]) (by simp [KW]) ht
  have a4 := skip_ok a3.good h4
  have a5 := num_ok a4.good 1 4
  have p5 : Pre2 n (((σ.skip.expect [tColon]).num 0 99).skip.num 1 4) := p3.ok (a4.trans a5).ok2
  have HV : Hid (stepP n σ = ((condP n (((σ.skip.expect [tColon]).num 0 99).skip.num 1 4)).dead, .mk σ.now.text σ.now.place ((σ.skip.expect [tColon]).num 0 99).skip.numV (σ.skip.expect [tColon]).numV (condP n (((σ.skip.expect [tColon]).num 0 99).skip.num 1 4)).opsL [])) := by
    show _ = _; unfold stepP; simp only [ht, if_true]
  have HW : Hid (((σ.skip.expect [tColon]).num 0 99).which [tTimes] = ((σ.skip.expect [tColon]).num 0 99).skip) := by show _ = _; unfold Rd.which; rw [if_pos ht]
  rw [HV.out]
  have hnum := fun own2 w2 m2 (hs2 : RSt own2 w2 b m2 (σ.skip.expect [tColon])) => number_p hs2 a2.good 0 99 (by omega) (by omega)
  have hnum2 := fun own4 w4 m4 (hs4 : RSt own4 w4 b m4 ((σ.skip.expect [tColon]).num 0 99).skip) => number_p hs4 a4.good 1 4 (by omega) (by omega)
  generalize (σ.skip.expect [tColon]).numV = kv at *
  generalize ((σ.skip.expect [tColon]).num 0 99).skip.numV = tv at *
  clear HV hk
  go_enter Tryz.func200, Tryz.ntmps200
  go_wp2_with (first
    | (go_at_call 83; refine (now_p (h.alloc _) hpre.good.pos).mono ?_; rintro e w' ⟨rfl, o, rfl⟩)
    | (go_at_call 164; obtain ⟨hs0, he0, hT0⟩ := h.box4 o (.cells (tokCells σ.now) 141) (plainPart σ.now.text σ.now.place 1 0 (.slice none 0 0)); refine (skip_p hs0 h2).mono ?_; rintro e w1 ⟨rfl, hs1, he1⟩; have hT1 := hT0.ext he1)
    | (go_at_call 130; refine (expect_new hs1 a1.good [tColon] (by simp [KW]) (by simp) 1 rfl).mono ?_; rintro e w2 ⟨rfl, own2, m2, hs2, he2⟩; have hT2 := hT1.ext he2)
    | (go_at_call 131; refine (hnum2 own4 w4 m4 hs4).mono ?_; rintro e w4' ⟨rfl, own4', m4', hs4', he4'⟩; have hT4a := hT4.ext he4'; have q2 := hT4a.p.cell 2; have f2 := hT4a.p.frozen 2; simp [plainPart] at q2; have hs4b := hs4'.write8 (p := ⟨w.heap.size + 1 + 1 + 1, 2, none⟩) hT4a.op (.int .i64 tv); have hT4b := hT4a.set (by omega) 2 (.int .i64 tv))
    | (go_at_call 131; refine (hnum own2 w2 m2 hs2).mono ?_; rintro e w3 ⟨rfl, own3, m3, hs3, he3⟩; have hT3 := hT2.ext he3; have q3 := hT3.p.cell 3; have f3 := hT3.p.frozen 3; simp [plainPart] at q3)
    | (go_at_call 168; have hs3' := hs3.write8 (p := ⟨w.heap.size + 1 + 1 + 1, 3, none⟩) hT3.op (.int .i64 kv); have hT3' := hT3.set (by omega) 3 (.int .i64 kv); have htk := take_new hs3' a3.good [tTimes] (by simp [KW]) (by simp) 1 rfl; rw [setCell_size, HW.out, ht] at htk; refine htk.mono ?_; rintro e w4 ⟨rfl, own4, m4, hs4, he4⟩; have hT4 := hT3'.ext he4)
    | (go_at_call 224; refine (condition_p hs4b p5).mono ?_; rintro e w5 ⟨cv, rfl, own5, m5, hs5, he5, hops⟩; obtain ⟨cp, cn, cc, rfl⟩ := row_form hops.1; have hT5 := hT4b.ext he5; have q4 := hT5.p.cell 4; have f4 := hT5.p.frozen 4; simp [plainPart] at q4; have hT5' := hT5.set (by omega) 4 (.slice cp cn cc); have c0 := hT5'.p.cell 0; have c1 := hT5'.p.cell 1; have c2 := hT5'.p.cell 2; have c3 := hT5'.p.cell 3; have c4 := hT5'.p.cell 4; have c5 := hT5'.p.cell 5; have z0 := hT5'.z.cell 0; have z1 := hT5'.z.cell 1; have z2 := hT5'.z.cell 2; have z3 := hT5'.z.cell 3; have z4 := hT5'.z.cell 4; have z5 := hT5'.z.cell 5; have g0 := hT5'.z.frozen 0; have g1 := hT5'.z.frozen 1; have g2 := hT5'.z.frozen 2; have g3 := hT5'.z.frozen 3; have g4 := hT5'.z.frozen 4; have g5 := hT5'.z.frozen 5; simp [plainPart, zeroPart] at c0 c1 c2 c3 c4 c5 z0 z1 z2 z3 z4 z5))
  have hE := ((((he0.trans he1).trans he2).trans he3).setNew (p := ⟨w.heap.size + 1 + 1 + 1, 3, none⟩) (by show w.heap.size ≤ w.heap.size + 1 + 1 + 1; omega) (.int .i64 kv)).trans he4
  have hE := ((hE.trans he4').setNew (p := ⟨w.heap.size + 1 + 1 + 1, 2, none⟩) (by show w.heap.size ≤ w.heap.size + 1 + 1 + 1; omega) (.int .i64 tv)).trans he5
  have hE' := (hE.setNew (p := ⟨w.heap.size + 1 + 1 + 1, 4, none⟩) (by show w.heap.size ≤ w.heap.size + 1 + 1 + 1; omega) (.slice cp cn cc)).six (N := w.heap.size) (Nat.le_refl _) (.string σ.now.text) (.int .i64 σ.now.place) (.int .i64 tv) (.int .i64 kv) (.slice cp cn cc) (.slice none 0 0)
  have hS' := (hs5.write8 (p := ⟨w.heap.size + 1 + 1 + 1, 4, none⟩) hT5.op (.slice cp cn cc)).six (N := w.heap.size) hT5.oz (.string σ.now.text) (.int .i64 σ.now.place) (.int .i64 tv) (.int .i64 kv) (.slice cp cn cc) (.slice none 0 0)
  have hO' := (hops.write8 (p := ⟨w.heap.size + 1 + 1 + 1, 4, none⟩) hT5.op (.slice cp cn cc)).six (N := w.heap.size) hT5.oz (.string σ.now.text) (.int .i64 σ.now.place) (.int .i64 tv) (.int .i64 kv) (.slice cp cn cc) (.slice none 0 0)
  have hB := hT5'.z.six (.string σ.now.text) (.int .i64 σ.now.place) (.int .i64 tv) (.int .i64 kv) (.slice cp cn cc) (.slice none 0 0)
  have k0 := hB.cell 0; have k1 := hB.cell 1; have k2 := hB.cell 2; have k3 := hB.cell 3; have k4 := hB.cell 4; have k5 := hB.cell 5
  simp at k0 k1 k2 k3 k4 k5
  exact bodyPost_ret (v := partVal (.mk σ.now.text σ.now.place tv kv (condP n (((σ.skip.expect [tColon]).num 0 99).skip.num 1 4)).opsL []) (.slice cp cn cc) (.slice none 0 0)) (by simp [results, Tryz.results200, go_sem, k0, k1, k2, k3, k4, k5, partVal, PPart.name, PPart.place, PPart.times, PPart.kind]) rfl
    ⟨_, rfl, own5, m5, _, _, hS', hE', rfl, hO', .inl ⟨rfl, rfl⟩⟩
theorem RSt.box3p {own : Nat → Nat} {w : World} {b : Nat} {m : RM} {σ : Rd} (h : RSt own w b m σ) (o1 : Obj) (cs : Array Value) :
    RSt (ownBox own w.heap.size) (((w.alloc (.cells zeroPart 189)).alloc o1).alloc (.cells cs 189)) b m σ ∧ Ext own w (ownBox own w.heap.size) (((w.alloc (.cells zeroPart 189)).alloc o1).alloc (.cells cs 189)) ∧
    Two (ownBox own w.heap.size) (((w.alloc (.cells zeroPart 189)).alloc o1).alloc (.cells cs 189)) w.heap.size (w.heap.size + 1 + 1) cs :=
  have h3 := h.box3 (.cells zeroPart 189) o1 (.cells cs 189)
  ⟨h3.1, h3.2, ⟨((Blk.new w zeroPart 189).alloc o1).alloc _, alloc_at _ _ _ (by simp), ownBox_0 _ _, ownBox_2 _ _⟩⟩

set_option maxRecDepth 100000 in
set_option maxHeartbeats 800000 in
theorem guard_p {b n k : Nat} {own : Nat → Nat} {w : World} {m : RM} {σ : Rd} (h : RSt own w b m σ) (hpre : Pre2 (n + 1) σ) (hk : σ.now.is tNot = true) :
    Calls Tryz.prog 201 #[.pointer (some ⟨b, 0, none⟩)] w fun e w' => ∃ v, e = .returned v ∧ PartPost own w b k (guardP n σ) v w' := by
  have hbw := h.blk.lt
  have h2 := hpre.good.is (by simp [KW]) hk
  have a1 := skip_ok hpre.good h2
  have a3 := num_ok a1.good 0 99
  have p3 : Pre2 n (σ.skip.num 0 99) := by
    have l1 := skip_len σ; have l3 := a3.le; have l4 := hpre.le; have l5 := hpre.deep
    have d := a3.deep.trans a1.deep
    exact ⟨a3.good, by omega, by omega⟩
  have hfld := stok_field1
  have HV : Hid (guardP n σ = ((condP n (σ.skip.num 0 99)).dead, .mk ⟨#[]⟩ σ.now.place 0 σ.skip.numV (condP n (σ.skip.num 0 99)).opsL [])) := by
    show _ = _; unfold guardP; rfl
  rw [HV.out]
  have hnum := fun own2 w2 m2 (hs2 : RSt own2 w2 b m2 σ.skip) => number_p hs2 a1.good 0 99 (by omega) (by omega)
  generalize σ.skip.numV = kv at *
  clear HV hk
  go_enter Tryz.func201, Tryz.ntmps201
  go_wp2_with (first
    | (go_at_call 83; refine (now_p (h.alloc _) hpre.good.pos).mono ?_; rintro e w' ⟨rfl, o, rfl⟩)
    | (go_at_call 164; obtain ⟨hs0, he0, hT0⟩ := h.box3p o (plainPart ⟨#[]⟩ σ.now.place 0 0 (.slice none 0 0)); refine (skip_p hs0 h2).mono ?_; rintro e w1 ⟨rfl, hs1, he1⟩; have hT1 := hT0.ext he1)
    | (go_at_call 131; refine (hnum _ w1 _ hs1).mono ?_; rintro e w3 ⟨rfl, own3, m3, hs3, he3⟩; have hT3 := hT1.ext he3; have q3 := hT3.p.cell 3; have f3 := hT3.p.frozen 3; simp [plainPart] at q3; have hs3' := hs3.write8 (p := ⟨w.heap.size + 1 + 1, 3, none⟩) hT3.op (.int .i64 kv); have hT4 := hT3.set (by omega) 3 (.int .i64 kv))
    | (go_at_call 224; refine (condition_p hs3' p3).mono ?_; rintro e w5 ⟨cv, rfl, own5, m5, hs5, he5, hops⟩; obtain ⟨cp, cn, cc, rfl⟩ := row_form hops.1; have hT5 := hT4.ext he5; have q4 := hT5.p.cell 4; have f4 := hT5.p.frozen 4; simp [plainPart] at q4; have hT5' := hT5.set (by omega) 4 (.slice cp cn cc); have c0 := hT5'.p.cell 0; have c1 := hT5'.p.cell 1; have c2 := hT5'.p.cell 2; have c3 := hT5'.p.cell 3; have c4 := hT5'.p.cell 4; have c5 := hT5'.p.cell 5; have z0 := hT5'.z.cell 0; have z1 := hT5'.z.cell 1; have z2 := hT5'.z.cell 2; have z3 := hT5'.z.cell 3; have z4 := hT5'.z.cell 4; have z5 := hT5'.z.cell 5; have g0 := hT5'.z.frozen 0; have g1 := hT5'.z.frozen 1; have g2 := hT5'.z.frozen 2; have g3 := hT5'.z.frozen 3; have g4 := hT5'.z.frozen 4; have g5 := hT5'.z.frozen 5; simp [plainPart, zeroPart] at c0 c1 c2 c3 c4 c5 z0 z1 z2 z3 z4 z5))
  have hE := (((he0.trans he1).trans he3).setNew (p := ⟨w.heap.size + 1 + 1, 3, none⟩) (by show w.heap.size ≤ w.heap.size + 1 + 1; omega) (.int .i64 kv)).trans he5
  have hE' := (hE.setNew (p := ⟨w.heap.size + 1 + 1, 4, none⟩) (by show w.heap.size ≤ w.heap.size + 1 + 1; omega) (.slice cp cn cc)).six (N := w.heap.size) (Nat.le_refl _) (.string ⟨#[]⟩) (.int .i64 σ.now.place) (.int .i64 0) (.int .i64 kv) (.slice cp cn cc) (.slice none 0 0)
  have hS' := (hs5.write8 (p := ⟨w.heap.size + 1 + 1, 4, none⟩) hT5.op (.slice cp cn cc)).six (N := w.heap.size) hT5.oz (.string ⟨#[]⟩) (.int .i64 σ.now.place) (.int .i64 0) (.int .i64 kv) (.slice cp cn cc) (.slice none 0 0)
  have hO' := (hops.write8 (p := ⟨w.heap.size + 1 + 1, 4, none⟩) hT5.op (.slice cp cn cc)).six (N := w.heap.size) hT5.oz (.string ⟨#[]⟩) (.int .i64 σ.now.place) (.int .i64 0) (.int .i64 kv) (.slice cp cn cc) (.slice none 0 0)
  have hB := hT5'.z.six (.string ⟨#[]⟩) (.int .i64 σ.now.place) (.int .i64 0) (.int .i64 kv) (.slice cp cn cc) (.slice none 0 0)
  have k0 := hB.cell 0; have k1 := hB.cell 1; have k2 := hB.cell 2; have k3 := hB.cell 3; have k4 := hB.cell 4; have k5 := hB.cell 5
  simp at k0 k1 k2 k3 k4 k5
  exact bodyPost_ret (v := partVal (.mk ⟨#[]⟩ σ.now.place 0 kv (condP n (σ.skip.num 0 99)).opsL []) (.slice cp cn cc) (.slice none 0 0)) (by simp [results, Tryz.results201, go_sem, k0, k1, k2, k3, k4, k5, partVal, PPart.name, PPart.place, PPart.times, PPart.kind]) rfl
    ⟨_, rfl, own5, m5, _, _, hS', hE', rfl, hO', .inl ⟨rfl, rfl⟩⟩
end Go.Proofs.YtddbjcfdmdbmkaaGreatDoor

namespace Go.Proofs.YtddbjcfdmdbmkaaGreatDoor
open Go.RowKit

theorem row_ext8 {own own' : Nat → Nat} {w w' : World} {base : Nat} {e : TypeId} {size : Nat} {v : Value} {n : Nat} {xs : List Value} (h : w.ownsRow base e size v n xs) (ho : ∀ g, v.ownBlock = some g → 7 ≤ own g) (hE : Ext own w own' w') : w'.ownsRow base e size v n xs := by
  refine ⟨h.1, ?_⟩
  rcases h.2 with hn | ⟨g, cap, cur, rfl, h1, h2, rest⟩
  · exact .inl hn
  · refine .inr ⟨g, cap, cur, rfl, h1, ?_, rest⟩
    have hlt : g < w.heap.size := (Array.getElem?_eq_some_iff.1 h2).1
    rw [hE.kept.block g ⟨hlt, ho g rfl⟩]; exact h2
theorem OpsLie.col {own own' : Nat → Nat} {w : World} (he : ∀ k, k < w.heap.size → own k = 7 → own' k = 7) {v : Value} {l : List POp} (h : OpsLie own w v l) : OpsLie own' w v l := ⟨h.1, fun g hg => he g (h.1.lt g hg).2 (h.2 g hg)⟩
theorem ChBy.col {own own' : Nat → Nat} {w : World} {S S' : Value → List PPart → Prop} (hS : ∀ v l, S v l → S' v l) (he : ∀ k, k < w.heap.size → own k = 7 → own' k = 7) {v : Value} {c : List (List PPart)} (h : ChBy own w S v c) : ChBy own' w S' v c := by
  rcases h with h | ⟨h0, vs, h1, h2, h3, h4⟩
  · exact .inl h
  · exact .inr ⟨h0, vs, h1, h2, fun g hg => he g (h2.lt g hg).2 (h3 g hg), fun q hq => hS _ _ (h4 q hq)⟩
theorem SeqLie.col {own own' : Nat → Nat} {w : World} (he : ∀ k, k < w.heap.size → own k = 7 → own' k = 7) : ∀ n v l, SeqLie own w n v l → SeqLie own' w n v l := by
  intro n
  induction n with
  | zero => intro v l h; exact h
  | succ n ih =>
    rintro v l ⟨xs, h1, h2, h3, h4⟩
    exact ⟨xs, h1, h2, fun g hg => he g (h2.lt g hg).2 (h3 g hg), fun p hp => ⟨(h4 p hp).1.col he, (h4 p hp).2.col ih he⟩⟩
theorem PartLie.col {own own' : Nat → Nat} {w : World} (he : ∀ k, k < w.heap.size → own k = 7 → own' k = 7) {n : Nat} {p : PPart} {cv hv : Value} (h : PartLie own w n p cv hv) : PartLie own' w n p cv hv := ⟨h.1.col he, h.2.col (SeqLie.col he n) he⟩

def no8 (own : Nat → Nat) : Nat → Nat := fun k => if own k = 8 then 1 else own k
theorem no8_ext {own own' : Nat → Nat} {w w' : World} {row : Option Nat} (hg : w.grownBy w' row) (hr : ∀ k, row = some k → own k = 8) (he : ∀ k, k < w.heap.size → own k ≠ 8 → own' k = own k) : Ext (no8 own) w (fun k => if k < w.heap.size then no8 own k else own' k) w' :=
  ⟨fun k hk => by simp only [hk, if_true], ⟨hg.os, hg.tape, hg.output, hg.size, fun k hk => hg.block k hk.1 (fun e => by have := hr k e.symm; have h2 := hk.2; simp only [no8, this, if_true] at h2; omega)⟩⟩
theorem move7 {own own' : Nat → Nat} {w w' : World} {row : Option Nat} (hg : w.grownBy w' row) (hr : ∀ k, row = some k → own k = 8) (he : ∀ k, k < w.heap.size → own k ≠ 8 → own' k = own k) {n : Nat} {p : PPart} {cv hv : Value} (h : PartLie own w n p cv hv) : PartLie own' w' n p cv hv := by
  have h1 : PartLie (no8 own) w n p cv hv := h.col (fun k _ e => by simp [no8, e])
  have h2 := h1.ext (no8_ext hg hr he)
  refine h2.col (fun k _ e => ?_)
  by_cases hlt : k < w.heap.size
  · simp only [hlt, if_true] at e
    unfold no8 at e
    split at e
    · omega
    · rename_i hne; rw [he k hlt hne]; exact e
  · simp only [hlt, if_false] at e; exact e

theorem RSt.appC {own : Nat → Nat} {w w1 : World} {b : Nat} {m : RM} {σ : Rd} {row : Option Nat} {g : Nat} (h : RSt own w b m σ) (hg : w.grownBy w1 row) (hr : ∀ k, row = some k → own k = 8) (hat : row = some g ∨ g = w.heap.size) : RSt (put own g 8) w1 b m σ := by
  have htg : row ≠ some m.tg := fun e => by have := hr _ e; rw [h.ot] at this; cases this
  refine ⟨h.far hg hr (by decide), (put_old 8 hr hat b h.blk.lt).trans h.ob, h.toks.of_eq (hg.block _ h.toks.lt (fun e => htg e.symm)) hg.size, (put_old 8 hr hat _ h.toks.lt).trans h.ot, h.cap, fun l hl => ?_⟩
  exact row_moved (g := g) 2 8 (h.live l hl).1 (h.live l hl).2 hg hr (by decide) hat
theorem Ext.appC {own0 own : Nat → Nat} {w0 w w1 : World} {row : Option Nat} {g : Nat} (h : Ext own0 w0 own w) (hg : w.grownBy w1 row) (hr : ∀ k, row = some k → w0.heap.size ≤ k) (hat : row = some g ∨ g = w.heap.size) : Ext own0 w0 (put own g 8) w1 := by
  have hgw : w0.heap.size ≤ g := by
    rcases hat with e | e
    · exact hr g e
    · have := h.size; omega
  exact ⟨fun k hk => by rw [put_other _ _ _ _ (by omega)]; exact h.same k hk,
    h.kept.trans ⟨hg.os, hg.tape, hg.output, hg.size, fun k hk => hg.block k (Nat.lt_of_lt_of_le hk.1 h.size) (fun e => by have := hr k e.symm; have := hk.1; omega)⟩⟩
theorem RSt.recolor {own : Nat → Nat} {w : World} {b : Nat} {m : RM} {σ : Rd} {g : Nat} (c : Nat) (h : RSt own w b m σ) (hg : own g = 8) : RSt (put own g c) w b m σ :=
  ⟨h.blk, by rw [put_other _ _ _ _ (fun e => by have := h.ob; rw [e, hg] at this; cases this)]; exact h.ob, h.toks, by rw [put_other _ _ _ _ (fun e => by have := h.ot; rw [e, hg] at this; cases this)]; exact h.ot, h.cap,
   fun l hl => ⟨(h.live l hl).1, fun k hk => by rw [put_other _ _ _ _ (fun e => by have := (h.live l hl).2 k hk; rw [e, hg] at this; cases this)]; exact (h.live l hl).2 k hk⟩⟩

def PartC (b n k : Nat) (part : Rd → Rd × PPart) : Prop := ∀ (own : Nat → Nat) (w : World) (m : RM) (σ : Rd), RSt own w b m σ → Pre2 n σ →
  Calls Tryz.prog 167 #[.pointer (some ⟨b, 0, none⟩)] w fun e w' => ∃ v, e = .returned v ∧ PartPost own w b k (part σ) v w'
def SeqPost2 (own : Nat → Nat) (w : World) (b n : Nat) (r : Rd × List PPart) (v : Value) (w' : World) : Prop := ∃ own' m', RSt own' w' b m' r.1 ∧ Ext own w own' w' ∧ SeqLie own' w' n v r.2
def SeqC (b n k : Nat) (seq : Rd → Rd × List PPart) : Prop := ∀ (own : Nat → Nat) (w : World) (m : RM) (σ : Rd), RSt own w b m σ → Pre2 n σ →
  Calls Tryz.prog 132 #[.pointer (some ⟨b, 0, none⟩)] w fun e w' => ∃ v, e = .returned v ∧ SeqPost2 own w b k (seq σ) v w'

structure QL (part : Rd → Rd × PPart) (n dk : Nat) (out : Rd × List PPart) (own : Nat → Nat) (w : World) (b k : Nat) (v : Value) (own' : Nat → Nat) (m' : RM) (σ' : Rd) (l : List PPart) (xs : List (Value × Value)) (wr : World) : Prop where
  st : RSt own' wr b m' σ'
  ext : Ext own w own' wr
  eq : Hid (seqL part k σ' l = out)
  fuel : σ'.ahead.length ≤ k
  pre : Pre2 n σ'
  len : xs.length = l.length
  bound : l.length + σ'.ahead.length ≤ 3000
  row : wr.ownsRow 0 189 6 v l.length (flat partCells (l.zip xs))
  col : ∀ g, v.ownBlock = some g → own' g = 8 ∧ w.heap.size ≤ g
  lie : ∀ p ∈ l.zip xs, PartLie own' wr dk p.1 p.2.1 p.2.2
def QLx (part : Rd → Rd × PPart) (n dk : Nat) (out : Rd × List PPart) (own : Nat → Nat) (w : World) (b k : Nat) (v : Value) (wr : World) : Prop := ∃ own' m' σ' l xs, QL part n dk out own w b k v own' m' σ' l xs wr
theorem seqL_stop {part : Rd → Rd × PPart} {k : Nat} {σ : Rd} {l : List PPart} (h : σ.has [tThen] = false) : seqL part k σ l = (σ, l) := by
  cases k with
  | zero => rfl
  | succ k => rw [seqL, if_neg (by simp [h])]
theorem seqL_more {part : Rd → Rd × PPart} {k : Nat} {σ : Rd} {l : List PPart} (h : σ.has [tThen] = true) : seqL part (k + 1) σ l = seqL part k (part σ.skip).1 (l ++ [(part σ.skip).2]) := by
  rw [seqL, if_pos h]
theorem Tryz.infoPart : (Tryz.prog.info? 189).map (fun i => (i.zero, i.size, i.bytes)) = some (some (.agg #[.string ⟨#[]⟩, .int .i64 0, .int .i64 0, .int .i64 0, .slice none 0 0, .slice none 0 0]), 6, 88) := by kernel_rfl
theorem ChBy.form {own : Nat → Nat} {w : World} {S : Value → List PPart → Prop} {v : Value} {c : List (List PPart)} (h : ChBy own w S v c) : ∃ p l k, v = .slice p l k := by
  rcases h with ⟨_, rfl⟩ | ⟨_, _, _, h, _⟩
  · exact ⟨_, _, _, rfl⟩
  · exact row_form h
theorem seq_start {part : Rd → Rd × PPart} {n dk : Nat} (kp : KeepsP n part) {own : Nat → Nat} {w : World} {b : Nat} {σ : Rd} (hpre : Pre2 n σ) {w1 : World} {own1 : Nat → Nat} {m1 : RM} {cv hv : Value} (hs1 : RSt own1 w1 b m1 (part σ).1) (he1 : Ext own w own1 w1) (hl : PartLie own1 w1 dk (part σ).2 cv hv)
    {out : Rd × List PPart} (HO : Hid (seqP part σ = out)) :
    QLx part n dk out own w b (part σ).1.ahead.length (.slice (some ⟨w1.heap.size, 0, none⟩) 1 1) (w1.alloc (.cells #[.string (part σ).2.name, .int .i64 (part σ).2.place, .int .i64 (part σ).2.times, .int .i64 (part σ).2.kind, cv, hv] 189)) := by
  have p1 := hpre.ok (kp σ hpre.good hpre.le)
  have hg : ∀ k, k < w1.heap.size → put own1 w1.heap.size 8 k = own1 k := fun k hk => put_other _ _ _ _ (by omega)
  refine ⟨put own1 w1.heap.size 8, m1, (part σ).1, [(part σ).2], [(cv, hv)], (hs1.owner hg).alloc _, he1.allocAs _ 8, HO, Nat.le_refl _, p1, rfl, by have := p1.deep; show 1 + _ ≤ _; omega, ?_, ?_, ?_⟩
  · refine ⟨rfl, .inr ⟨w1.heap.size, 1, _, rfl, Nat.zero_le _, heap_alloc_new w1 _, Nat.le_refl _, by unfold maxLen; decide, rfl, rfl⟩⟩
  · intro g e; cases e; exact ⟨put_same _ _ _, he1.size⟩
  · intro p hp
    simp only [List.zip_cons_cons, List.zip_nil_right, List.mem_singleton] at hp
    subst hp
    exact move7 (World.grownBy_alloc w1 _ none) (fun k e => by cases e) (fun k hk _ => hg k hk) hl
end Go.Proofs.YtddbjcfdmdbmkaaGreatDoor

namespace Go.Proofs.YtddbjcfdmdbmkaaGreatDoor
open Go.RowKit

theorem zip_snoc2 {α β : Type} (l : List α) (l' : List β) (x : α) (y : β) (h : l'.length = l.length) : (l ++ [x]).zip (l' ++ [y]) = l.zip l' ++ [(x, y)] := by
  rw [List.zip_append h.symm]; rfl

theorem seq_end {n : Nat} {own own2 : Nat → Nat} {w w2 : World} {b : Nat} {m2 : RM} {σ' : Rd} {l : List PPart} {xs : List (Value × Value)} {v : Value} (hs2 : RSt own2 w2 b m2 σ') (hE : Ext own w own2 w2) (hlen : xs.length = l.length)
    (hrow : w2.ownsRow 0 189 6 v l.length (flat partCells (l.zip xs))) (hcol : ∀ g, v.ownBlock = some g → own2 g = 8 ∧ w.heap.size ≤ g) (hlie : ∀ p ∈ l.zip xs, PartLie own2 w2 n p.1 p.2.1 p.2.2) : SeqPost2 own w b (n + 1) (σ', l) v w2 := by
  cases hv : v.ownBlock with
  | none => exact ⟨own2, m2, hs2, hE, xs, hlen, hrow, fun g hg => (by rw [hv] at hg; cases hg), hlie⟩
  | some g =>
    obtain ⟨hg8, hgw⟩ := hcol g hv
    refine ⟨put own2 g 7, m2, hs2.recolor 7 hg8, ⟨fun k hk => by rw [put_other _ _ _ _ (by omega)]; exact hE.same k hk, hE.kept⟩, xs, hlen, hrow, fun k hk => by rw [hv] at hk; cases hk; exact put_same _ _ _, fun p hp => ?_⟩
    refine (hlie p hp).col (fun k _ e => ?_)
    rw [put_other _ _ _ _ (fun h => by rw [h, hg8] at e; cases e)]; exact e

set_option maxRecDepth 100000 in
set_option maxHeartbeats 800000 in
theorem seq_p {b n dk : Nat} {part : Rd → Rd × PPart} (kp : KeepsP n part) (hp : PartC b n dk part) : SeqC b n (dk + 1) (seqP part) := by
  intro own w m σ h hpre
  obtain ⟨out, HO⟩ : ∃ out, Hid (seqP part σ = out) := ⟨_, rfl⟩
  rw [HO.out]
  have hstart := fun w1 own1 m1 cv hv hs1 he1 hl => seq_start (part := part) (n := n) (dk := dk) kp (own := own) (w := w) (b := b) hpre (w1 := w1) (own1 := own1) (m1 := m1) (cv := cv) (hv := hv) hs1 he1 hl HO
  have hfirst := hp own w m σ h hpre
  obtain ⟨fuel, HF⟩ : ∃ fuel, Hid ((part σ).1.ahead.length = fuel) := ⟨_, rfl⟩
  rw [HF.out] at hstart
  obtain ⟨i0, hi0, hz0, hz1, hz2⟩ := info_parts Tryz.infoPart
  clear HO HF h hpre
  go_enter Tryz.func132, Tryz.ntmps132
  go_wp2_with (go_at_call 167; refine hfirst.mono ?_; rintro e w1 ⟨v, rfl, own1, m1, cv, hv, hs1, he1, rfl, hl1⟩; obtain ⟨cp, cn, cc, rfl⟩ := row_form hl1.1.1; obtain ⟨hp1, hn1, hc1, rfl⟩ := hl1.2.form; have hS0 := hstart w1 own1 m1 _ _ hs1 he1 hl1; simp only [partVal])
  clear hstart hfirst hs1 he1 hl1
  go_loopg [3] fuel (fun k v wr => QLx part n dk out own w b k v wr)
  case atStart => exact hS0
  case round =>
    obtain ⟨own', m', σ', l, xs, hst, hext, HE, hfu, hpr, hlen, hbd, hrow, hcol, hlie⟩ := hrel
    clear hS0
    cases hh : σ'.has [tThen] with
    | false =>
      have HV : Hid (σ'.which [tThen] = σ' ∧ (σ', l) = out) := ⟨by unfold Rd.which; rw [if_neg (by simp [hh])], (seqL_stop hh).symm.trans HE.out⟩
      have htk := take_new hst hpr.good [tThen] (by simp [KW]) (by simp) 1 rfl
      rw [HV.out.1, hh] at htk
      obtain ⟨vp, vn, vc, rfl⟩ := row_form hrow
      go_wp2_with (go_at_call 168; refine htk.mono ?_; rintro e w2 ⟨rfl, own2, m2, hs2, he2⟩)
      go_ret
      rw [← HV.out.2]
      have hrow2 := row_ext8 hrow (fun g hg => by rw [(hcol g hg).1]; decide) he2
      exact ⟨_, rfl, seq_end hs2 (hext.trans he2) hlen hrow2 (fun g hg => ⟨(he2.same g (hrow.lt g hg).2).trans (hcol g hg).1, (hcol g hg).2⟩) (fun p hp => (hlie p hp).ext he2)⟩
    | true =>
      have h2 := hpr.good.has (ts := [tThen]) (by simp [KW]) hh
      obtain ⟨k, rfl⟩ : ∃ k, gk = k + 1 := ⟨gk - 1, by omega⟩
      have ps := hpr.ok (skip_ok hpr.good h2).ok2
      have p1 := ps.ok (kp _ ps.good ps.le)
      have HV : Hid (σ'.which [tThen] = σ'.skip ∧ seqL part k (part σ'.skip).1 (l ++ [(part σ'.skip).2]) = out) := ⟨by unfold Rd.which; rw [if_pos hh], (seqL_more hh).symm.trans HE.out⟩
      have Hlen : Hid ((part σ'.skip).1.ahead.length + 1 ≤ σ'.ahead.length) := by
        have a := (kp _ ps.good ps.le).le; rw [skip_len] at a; show _ ≤ _; omega
      have htk := take_new hst hpr.good [tThen] (by simp [KW]) (by simp) 1 rfl
      rw [HV.out.1, hh] at htk
      obtain ⟨vp, vn, vc, rfl⟩ := row_form hrow
      clear hh HE
      go_wp2_with (first
        | (go_at_call 168; refine htk.mono ?_; rintro e w2 ⟨rfl, own2, m2, hs2, he2⟩; have hrow2 := row_ext8 hrow (fun g hg => by rw [(hcol g hg).1]; decide) he2; have hcol2 : ∀ g, (Value.slice vp vn vc).ownBlock = some g → own2 g = 8 := fun g hg => (he2.same g (hrow.lt g hg).2).trans (hcol g hg).1)
        | (go_at_call 167; refine (hp own2 w2 m2 _ hs2 ps).mono ?_; rintro e w3 ⟨v, rfl, own3, m3, cv, hv, hs3, he3, rfl, hl3⟩; obtain ⟨cp', cn', cc', rfl⟩ := row_form hl3.1.1; obtain ⟨hp', hn', hc', rfl⟩ := hl3.2.form; have hrow3 := row_ext8 hrow2 (fun g hg => by rw [hcol2 g hg]; decide) he3; have hcol3 : ∀ g, (Value.slice vp vn vc).ownBlock = some g → own3 g = 8 := fun g hg => (he3.same g (hrow2.lt g hg).2).trans (hcol2 g hg); simp only [partVal])
        | (at_builtin; refine wpList_append_lies _ rfl (.tmp 10) (.tmp 13) 99 rfl 0 189 i0 _ 6 88 Tryz.underlying99 hi0 hz0 hz1 hz2 rfl (by decide) _ l.length (flat partCells (l.zip xs)) (by rfl) (hrow3.alloc _) ⟨w3.heap.size, 0, none⟩ 1 1 (partCells ((part σ'.skip).2, (.slice cp' cn' cc', .slice hp' hn' hc'))) (by rfl) rfl (World.news_of_block (alloc_at _ _ _ (by simp))) (by simp [partCells, Value.oneCell']) (by decide) (by unfold maxLen; omega) (by omega) (Nat.zero_le _) (w3.heap.size + 1) (by simp) ?_; intro g cap w4 hown hgrow hat hlt))
      have hr8 : ∀ k, (Value.slice vp vn vc).ownBlock = some k → own3 k = 8 := hcol3
      have hS4 := (hs3.alloc _).appC hgrow hr8 (by simpa using hat)
      have hE4 := ((((hext.trans he2).trans he3).alloc _)).appC hgrow (fun k hk => (hcol k hk).2) (by simpa using hat)
      have hgw : w.heap.size ≤ g := by
        rcases hat with e | e
        · exact (hcol g e).2
        · have := ((hext.trans he2).trans he3).size; omega
      have hmv : ∀ q : PPart × (Value × Value), PartLie own3 w3 dk q.1 q.2.1 q.2.2 → PartLie (put own3 g 8) w4 dk q.1 q.2.1 q.2.2 := fun q hq =>
        move7 hgrow hr8 (fun k hk hne => by
          by_cases e : k = g
          · subst e
            rcases hat with e | e
            · exact absurd (hr8 k e) hne
            · have : k < w3.heap.size + 1 := by simpa using hk
              omega
          · exact put_other _ _ _ _ e) (move7 (World.grownBy_alloc w3 _ none) (fun k e => by cases e) (fun _ _ _ => rfl) hq)
      go_roundg k
      case measure => omega
      case rel =>
        refine ⟨put own3 g 8, m3, (part σ'.skip).1, l ++ [(part σ'.skip).2], xs ++ [(.slice cp' cn' cc', .slice hp' hn' hc')], hS4, hE4, HV.out.2, by have := Hlen.out; omega, p1, by simp [hlen], by have := Hlen.out; simp; omega, ?_, fun k e => by cases e; exact ⟨put_same _ _ _, hgw⟩, ?_⟩
        · rw [zip_snoc2 _ _ _ _ hlen, flat_snoc, List.length_append]; exact hown
        · intro q hq
          rw [zip_snoc2 _ _ _ _ hlen] at hq
          rcases List.mem_append.1 hq with hq | hq
          · exact hmv q (((hlie q hq).ext he2).ext he3)
          · simp at hq; subst hq; exact hmv _ hl3
end Go.Proofs.YtddbjcfdmdbmkaaGreatDoor

namespace Go.Proofs.YtddbjcfdmdbmkaaGreatDoor
open Go.RowKit

theorem SeqLie.form {own : Nat → Nat} {w : World} {n : Nat} {v : Value} {l : List PPart} (h : SeqLie own w n v l) : ∃ p c k, v = .slice p c k := by
  cases n with
  | zero => exact h.elim
  | succ n => obtain ⟨xs, _, h2, _⟩ := h; exact row_form h2
theorem move7s {own own' : Nat → Nat} {w w' : World} {row : Option Nat} (hg : w.grownBy w' row) (hr : ∀ k, row = some k → own k = 8) (he : ∀ k, k < w.heap.size → own k ≠ 8 → own' k = own k) {n : Nat} {v : Value} {l : List PPart} (h : SeqLie own w n v l) : SeqLie own' w' n v l := by
  have h1 : SeqLie (no8 own) w n v l := SeqLie.col (fun k _ e => by simp [no8, e]) n v l h
  have h2 := SeqLie.ext (no8_ext hg hr he) n v l h1
  refine SeqLie.col (fun k _ e => ?_) n v l h2
  by_cases hlt : k < w.heap.size
  · simp only [hlt, if_true] at e
    unfold no8 at e
    split at e
    · omega
    · rename_i hne; rw [he k hlt hne]; exact e
  · simp only [hlt, if_false] at e; exact e
theorem alloc_size (w : World) (o : Obj) : (w.alloc o).heap.size = w.heap.size + 1 := by simp
theorem Tryz.infoSeq : (Tryz.prog.info? 99).map (fun i => (i.zero, i.size, i.bytes)) = some (some (.slice none 0 0), 1, 24) := by kernel_rfl

structure BR (dk N : Nat) (own : Nat → Nat) (w : World) (b : Nat) (v : Value) (own' : Nat → Nat) (m' : RM) (σ' : Rd) (c : List (List PPart)) (vs : List Value) (wr : World) : Prop where
  st : RSt own' wr b m' σ'
  ext : Ext own w own' wr
  len : vs.length = c.length
  row : wr.ownsRow 0 99 1 v c.length vs
  col : ∀ g, v.ownBlock = some g → own' g = 8 ∧ w.heap.size ≤ g
  lie : ∀ q ∈ c.zip vs, SeqLie own' wr dk q.2 q.1
  z : Blk wr N zeroPart 189
  oz : own' N = 8
theorem BR.next {dk N : Nat} {own own' own2 : Nat → Nat} {w wr w2 : World} {b : Nat} {v : Value} {m' m2 : RM} {σ' σ2 : Rd} {c : List (List PPart)} {vs : List Value} (h : BR dk N own w b v own' m' σ' c vs wr) (hs : RSt own2 w2 b m2 σ2) (he : Ext own' wr own2 w2) : BR dk N own w b v own2 m2 σ2 c vs w2 :=
  ⟨hs, h.ext.trans he, h.len, row_ext8 h.row (fun g hg => by rw [(h.col g hg).1]; decide) he, fun g hg => ⟨(he.same g (h.row.lt g hg).2).trans (h.col g hg).1, (h.col g hg).2⟩, fun q hq => SeqLie.ext he dk _ _ (h.lie q hq), he.blk8 h.oz h.z, (he.same _ h.z.lt).trans h.oz⟩
theorem BR.app {dk N : Nat} {own own' : Nat → Nat} {w wr w4 : World} {b : Nat} {v : Value} {m' : RM} {σ' : Rd} {c : List (List PPart)} {vs : List Value} {sv : Value} {s : List PPart} {g cap : Nat} {o : Obj} (h : BR dk N own w b v own' m' σ' c vs wr) (hl : SeqLie own' wr dk sv s) (hNv : v.ownBlock ≠ some N)
    (hown : w4.ownsRow 0 99 1 (.slice (some ⟨g, 0, none⟩) (c.length + 1) cap) (c.length + 1) (vs ++ [sv])) (hgrow : (wr.alloc o).grownBy w4 v.ownBlock) (hat : v.ownBlock = some g ∨ g = wr.heap.size + 1) (hN : w.heap.size ≤ N) :
    BR dk N own w b (.slice (some ⟨g, 0, none⟩) (c.length + 1) cap) (put own' g 8) m' σ' (c ++ [s]) (vs ++ [sv]) w4 ∧ (Value.slice (some ⟨g, 0, none⟩) (c.length + 1) cap).ownBlock ≠ some N := by
  have hr8 : ∀ k, v.ownBlock = some k → own' k = 8 := fun k hk => (h.col k hk).1
  have hat' : v.ownBlock = some g ∨ g = (wr.alloc o).heap.size := by simpa using hat
  have hgw : w.heap.size ≤ g := by
    rcases hat with e | e
    · exact (h.col g e).2
    · have := h.ext.size; omega
  have hgN : g ≠ N := by
    rcases hat with e | e
    · exact fun x => hNv (x ▸ e)
    · have := h.z.lt; omega
  have hmv : ∀ v s, SeqLie own' wr dk v s → SeqLie (put own' g 8) w4 dk v s := fun v' s' hq =>
    move7s hgrow hr8 (fun k hk hne => by
      by_cases e : k = g
      · subst e
        rcases hat with e | e
        · exact absurd (hr8 k e) hne
        · have : k < wr.heap.size + 1 := by simpa using hk
          omega
      · exact put_other _ _ _ _ e) (move7s (World.grownBy_alloc wr o none) (fun k e => by cases e) (fun _ _ _ => rfl) hq)
  refine ⟨⟨(h.st.alloc o).appC hgrow hr8 hat', (h.ext.alloc o).appC hgrow (fun k hk => (h.col k hk).2) hat', by simp [h.len], ?_, fun k e => by cases e; exact ⟨put_same _ _ _, hgw⟩, ?_, ?_, ?_⟩, fun e => by cases e; exact hgN rfl⟩
  · rw [List.length_append]; exact hown
  · intro q hq
    rw [zip_snoc2 _ _ _ _ h.len] at hq
    rcases List.mem_append.1 hq with hq | hq
    · exact hmv _ _ (h.lie q hq)
    · simp at hq; subst hq; exact hmv _ _ hl
  · exact (h.z.alloc o).of_eq (hgrow.block N (by simp; have := h.z.lt; omega) (fun e => hNv e.symm))
  · rw [put_other _ _ _ _ (Ne.symm hgN)]; exact h.oz
theorem BR.first {dk N : Nat} {own own2 : Nat → Nat} {w w2 : World} {b : Nat} {m2 : RM} {σ2 : Rd} {sv : Value} {s : List PPart} (hs2 : RSt own2 w2 b m2 σ2) (hE : Ext own w own2 w2) (hl : SeqLie own2 w2 dk sv s) (hz : Blk w2 N zeroPart 189) (oz : own2 N = 8) :
    BR dk N own w b (.slice (some ⟨w2.heap.size, 0, none⟩) 1 1) (put own2 w2.heap.size 8) m2 σ2 [s] [sv] (w2.alloc (.cells #[sv] 99)) := by
  have hg : ∀ k, k < w2.heap.size → put own2 w2.heap.size 8 k = own2 k := fun k hk => put_other _ _ _ _ (by omega)
  refine ⟨(hs2.owner hg).alloc _, hE.allocAs _ 8, rfl, ⟨rfl, .inr ⟨w2.heap.size, 1, _, rfl, Nat.zero_le _, heap_alloc_new w2 _, Nat.le_refl _, by unfold maxLen; decide, rfl, rfl⟩⟩, fun g e => by cases e; exact ⟨put_same _ _ _, hE.size⟩, ?_, hz.alloc _, (hg _ hz.lt).trans oz⟩
  intro q hq
  simp only [List.zip_cons_cons, List.zip_nil_right, List.mem_singleton] at hq
  subst hq
  exact move7s (World.grownBy_alloc w2 _ none) (fun k e => by cases e) (fun k hk _ => hg k hk) hl

structure BLs (seq : Rd → Rd × List PPart) (n dk N : Nat) (out : Rd × List (List PPart)) (own : Nat → Nat) (w : World) (b k : Nat) (v : Value) (own' : Nat → Nat) (m' : RM) (σ' : Rd) (c : List (List PPart)) (vs : List Value) (wr : World) : Prop where
  br : BR dk N own w b v own' m' σ' c vs wr
  ne : v.ownBlock ≠ some N
  eq : Hid (barL seq k σ' c = out)
  fuel : σ'.ahead.length ≤ k
  pre : Pre2 n σ'
  bound : c.length + σ'.ahead.length ≤ 3000
  two : c ≠ []
def BL (seq : Rd → Rd × List PPart) (n dk N : Nat) (out : Rd × List (List PPart)) (own : Nat → Nat) (w : World) (b k : Nat) (v : Value) (wr : World) : Prop := ∃ own' m' σ' c vs, BLs seq n dk N out own w b k v own' m' σ' c vs wr
theorem barL_stop {seq : Rd → Rd × List PPart} {k : Nat} {σ : Rd} {l : List (List PPart)} (h : σ.has [tBar] = false) : barL seq k σ l = (σ, l) := by
  cases k with
  | zero => rfl
  | succ k => rw [barL, if_neg (by simp [h])]
theorem barL_more {seq : Rd → Rd × List PPart} {k : Nat} {σ : Rd} {l : List (List PPart)} (h : σ.has [tBar] = true) : barL seq (k + 1) σ l = barL seq k (seq σ.skip).1 (l ++ [(seq σ.skip).2]) := by
  rw [barL, if_pos h]
end Go.Proofs.YtddbjcfdmdbmkaaGreatDoor

namespace Go.Proofs.YtddbjcfdmdbmkaaGreatDoor
open Go.RowKit

theorem bracketsP_def (seq : Rd → Rd × List PPart) (σ : Rd) : bracketsP seq σ =
    (((barL seq (seq ((seq σ.enter).1.expect [tBar])).1.ahead.length (seq ((seq σ.enter).1.expect [tBar])).1 [(seq σ.enter).2, (seq ((seq σ.enter).1.expect [tBar])).2]).1.expect [tClose]).leave,
      .mk ⟨#[]⟩ 0 0 0 [] (barL seq (seq ((seq σ.enter).1.expect [tBar])).1.ahead.length (seq ((seq σ.enter).1.expect [tBar])).1 [(seq σ.enter).2, (seq ((seq σ.enter).1.expect [tBar])).2]).2) := rfl

theorem grownBy_trans {a b c : World} {r : Option Nat} (h : a.grownBy b r) (k : b.grownBy c r) : a.grownBy c r :=
  ⟨k.os.trans h.os, k.tape.trans h.tape, k.output.trans h.output, Nat.le_trans h.size k.size, fun i hi hr => (k.block i (Nat.lt_of_lt_of_le hi h.size) hr).trans (h.block i hi hr)⟩
theorem grownBy_six (w : World) (N : Nat) (v0 v1 v2 v3 v4 v5 : Value) : w.grownBy ((((((w.setCell ⟨N, 0, none⟩ v0).setCell ⟨N, 1, none⟩ v1).setCell ⟨N, 2, none⟩ v2).setCell ⟨N, 3, none⟩ v3).setCell ⟨N, 4, none⟩ v4).setCell ⟨N, 5, none⟩ v5) (some N) :=
  grownBy_trans (grownBy_trans (grownBy_trans (grownBy_trans (grownBy_trans (grownBy_setCell w ⟨N, 0, none⟩ v0) (grownBy_setCell _ ⟨N, 1, none⟩ v1)) (grownBy_setCell _ ⟨N, 2, none⟩ v2)) (grownBy_setCell _ ⟨N, 3, none⟩ v3)) (grownBy_setCell _ ⟨N, 4, none⟩ v4)) (grownBy_setCell _ ⟨N, 5, none⟩ v5)
theorem br_end {dk N : Nat} {own own8 : Nat → Nat} {w w8 : World} {b : Nat} {v : Value} {m8 : RM} {σ8 : Rd} {c : List (List PPart)} {vs : List Value} (h : BR dk N own w b v own8 m8 σ8 c vs w8) (hNe : v.ownBlock ≠ some N) (hN : w.heap.size ≤ N) (hc : c ≠ []) (v0 v1 v2 v3 v4 v5 : Value) :
    ∃ own', RSt own' ((((((w8.setCell ⟨N, 0, none⟩ v0).setCell ⟨N, 1, none⟩ v1).setCell ⟨N, 2, none⟩ v2).setCell ⟨N, 3, none⟩ v3).setCell ⟨N, 4, none⟩ v4).setCell ⟨N, 5, none⟩ v5) b m8 σ8 ∧
      Ext own w own' ((((((w8.setCell ⟨N, 0, none⟩ v0).setCell ⟨N, 1, none⟩ v1).setCell ⟨N, 2, none⟩ v2).setCell ⟨N, 3, none⟩ v3).setCell ⟨N, 4, none⟩ v4).setCell ⟨N, 5, none⟩ v5) ∧
      PartLie own' ((((((w8.setCell ⟨N, 0, none⟩ v0).setCell ⟨N, 1, none⟩ v1).setCell ⟨N, 2, none⟩ v2).setCell ⟨N, 3, none⟩ v3).setCell ⟨N, 4, none⟩ v4).setCell ⟨N, 5, none⟩ v5) dk (.mk ⟨#[]⟩ 0 0 0 [] c) (.slice none 0 0) v := by
  have hS := h.st.six h.oz v0 v1 v2 v3 v4 v5
  have hE := h.ext.six hN v0 v1 v2 v3 v4 v5
  have hgb := grownBy_six w8 N v0 v1 v2 v3 v4 v5
  have hR := h.row.kept hgb (.inr (fun e => hNe e))
  have hL : ∀ q ∈ c.zip vs, SeqLie own8 _ dk q.2 q.1 := fun q hq => move7s (own' := own8) hgb (fun k e => by cases e; exact h.oz) (fun _ _ _ => rfl) (h.lie q hq)
  generalize ((((((w8.setCell ⟨N, 0, none⟩ v0).setCell ⟨N, 1, none⟩ v1).setCell ⟨N, 2, none⟩ v2).setCell ⟨N, 3, none⟩ v3).setCell ⟨N, 4, none⟩ v4).setCell ⟨N, 5, none⟩ v5) = W at *
  have hops : ∀ own, OpsLie own W (.slice none 0 0) [] := fun own => ⟨World.ownsRow_nil _ _ _ _, fun g hg => by simp [Value.ownBlock] at hg⟩
  cases hv : v.ownBlock with
  | none => exact ⟨own8, hS, hE, hops _, .inr ⟨hc, vs, h.len, hR, fun g hg => (by rw [hv] at hg; cases hg), hL⟩⟩
  | some g =>
    obtain ⟨hg8, hgw⟩ := h.col g hv
    refine ⟨put own8 g 7, hS.recolor 7 hg8, ⟨fun k hk => by rw [put_other _ _ _ _ (by omega)]; exact hE.same k hk, hE.kept⟩, hops _, .inr ⟨hc, vs, h.len, hR, fun k hk => by rw [hv] at hk; cases hk; exact put_same _ _ _, fun q hq => ?_⟩⟩
    refine SeqLie.col (fun k _ e => ?_) dk _ _ (hL q hq)
    rw [put_other _ _ _ _ (fun h => by rw [h, hg8] at e; cases e)]; exact e

set_option maxRecDepth 100000 in
set_option maxHeartbeats 1600000 in
theorem brackets_p {b n dk : Nat} {seq : Rd → Rd × List PPart} (kq : KeepsP n seq) (hq : SeqC b n dk seq) {own : Nat → Nat} {w : World} {m : RM} {σ : Rd} (h : RSt own w b m σ) (hpre : Pre2 (n + 1) σ) (hm : σ.now.is tOpen = true) :
    Calls Tryz.prog 202 #[.pointer (some ⟨b, 0, none⟩)] w fun e w' => ∃ v, e = .returned v ∧ PartPost own w b dk (bracketsP seq σ) v w' := by
  have hbw := h.blk.lt
  have h2 := hpre.good.is (by simp [KW]) hm
  have pe : Pre2 n σ.enter := ⟨hpre.good.tail h2, by rw [enter_len]; have := hpre.le; omega, by rw [enter_len]; have := hpre.deep; show σ.deep + 1 + _ ≤ _; omega⟩
  have ka := kq _ pe.good pe.le
  have p1 := pe.ok ka
  have kx := expect_ok p1.good (ts := [tBar]) (by simp [KW])
  have p2 := p1.ok kx.ok2
  have kb := kq _ p2.good p2.le
  have p3 := p2.ok kb
  obtain ⟨out, HO⟩ : ∃ out, Hid (barL seq (seq ((seq σ.enter).1.expect [tBar])).1.ahead.length (seq ((seq σ.enter).1.expect [tBar])).1 [(seq σ.enter).2, (seq ((seq σ.enter).1.expect [tBar])).2] = out) := ⟨_, rfl⟩
  have Hout : Hid (Ok2 (seq ((seq σ.enter).1.expect [tBar])).1 out.1) := by
    have := barL_ok kq (seq ((seq σ.enter).1.expect [tBar])).1.ahead.length (seq ((seq σ.enter).1.expect [tBar])).1 [(seq σ.enter).2, (seq ((seq σ.enter).1.expect [tBar])).2] p3.good p3.le
    rw [HO.out] at this; exact this
  have po := p3.ok Hout.out
  have ko := expect_ok po.good (ts := [tClose]) (by simp [KW])
  have Hd : Hid (1 ≤ (out.1.expect [tClose]).deep ∧ (out.1.expect [tClose]).deep ≤ 1000000 ∧ σ.deep ≤ 1000000) := by
    have d1 := ko.deep; have d2 := Hout.out.deep; have d3 := kb.deep; have d4 := kx.deep; have d5 := ka.deep
    have d6 : σ.enter.deep = σ.deep + 1 := rfl
    have := hpre.deep
    exact ⟨by omega, by omega, by omega⟩
  rw [bracketsP_def, HO.out]
  obtain ⟨fuel, HF⟩ : ∃ fuel, Hid ((seq ((seq σ.enter).1.expect [tBar])).1.ahead.length = fuel) := ⟨_, rfl⟩
  have HO2 : Hid (barL seq fuel (seq ((seq σ.enter).1.expect [tBar])).1 [(seq σ.enter).2, (seq ((seq σ.enter).1.expect [tBar])).2] = out) := by have := HO.out; rw [HF.out] at this; exact this
  obtain ⟨i0, hi0, hz0, hz1, hz2⟩ := info_parts Tryz.infoSeq
  clear hm HO ka kx kb
  go_enter Tryz.func202, Tryz.ntmps202
  go_wp2_with (first
    | (go_at_call 225; obtain ⟨hs0, he0⟩ := h.texts (.cells zeroPart 189); have hb0 := Blk.new w zeroPart 189; have ho0 := put_same own w.heap.size 8; refine (enter_p hs0 h2 Hd.out.2.2).mono ?_; rintro e w1 ⟨rfl, own1, m1, hs1, he1⟩; have hb1 := he1.blk8 ho0 hb0; have ho1 := (he1.same _ hb0.lt).trans ho0)
    | (go_at_call 132; refine (hq own3 w3 m3 _ hbr3.st p2).mono ?_; rintro e w4 ⟨v2, rfl, own4, m4, hs4, he4, hl4⟩; obtain ⟨vp2, vn2, vc2, rfl⟩ := hl4.form; have hbr4 := hbr3.next hs4 he4)
    | (go_at_call 132; refine (hq own1 w1 m1 _ hs1 pe).mono ?_; rintro e w2 ⟨v1, rfl, own2, m2, hs2, he2, hl2⟩; obtain ⟨vp, vn, vc, rfl⟩ := hl2.form; have hbr2 := BR.first hs2 ((he0.trans he1).trans he2) hl2 (he2.blk8 ho1 hb1) ((he2.same _ hb1.lt).trans ho1))
    | (go_at_call 130; have hex := expect_new hbr2.st p1.good [tBar] (by simp [KW]) (by simp) 1 rfl; rw [alloc_size] at hex; refine hex.mono ?_; rintro e w3 ⟨rfl, own3, m3, hs3, he3⟩; have hbr3 := hbr2.next hs3 he3)
    | (at_builtin; refine wpList_append_lies _ rfl (.tmp 12) (.tmp 15) 187 rfl 0 99 i0 _ 1 24 Tryz.underlying187 hi0 hz0 hz1 hz2 rfl (by decide) _ 1 [.slice vp vn vc] (by rfl) (hbr4.row.alloc _) ⟨w4.heap.size, 0, none⟩ 1 1 [.slice vp2 vn2 vc2] (by rfl) rfl (World.news_of_block (alloc_at _ _ _ (by simp))) (by simp [Value.oneCell']) (by decide) (by unfold maxLen; omega) (by omega) (Nat.zero_le _) (w4.heap.size + 1) (by simp) ?_; intro g cap w5 hown hgrow hat hlt))
  have hsz : w.heap.size + 1 ≤ w2.heap.size := by
    have a := he1.size; have c := he2.size; rw [alloc_size] at a; omega
  have hNv : (Value.slice (some ⟨w2.heap.size, 0, none⟩) 1 1).ownBlock ≠ some w.heap.size := fun e => by
    simp only [Value.ownBlock, Option.some.injEq] at e; omega
  obtain ⟨hbr5, hne5⟩ := hbr4.app hl4 hNv hown hgrow (by simpa using hat) (Nat.le_refl _)
  have hS0 : BL seq n dk w.heap.size out own w b fuel (.slice (some ⟨g, 0, none⟩) (1 + 1) cap) w5 := ⟨_, _, _, _, _, hbr5, hne5, HO2, Nat.le_of_eq HF.out, p3, by have := p3.deep; show 2 + _ ≤ _; omega, by simp⟩
  clear hbr5 hne5 hNv hsz hown hgrow hat hlt hbr4 hl4 hs4 he4 hbr3 hs3 he3 hbr2 hl2 hs2 he2 hs1 he1 hb1 ho1 he0 hs0 hb0 ho0 HO2 HF
  go_loopg [3] fuel (fun k v wr => BL seq n dk w.heap.size out own w b k v wr)
  case atStart => exact hS0
  case round =>
    obtain ⟨own', m', σ', c, vs, hbr, hNe, HE, hfu, hpr, hbd, hc0⟩ := hrel
    clear hS0
    obtain ⟨up, un, uc, rfl⟩ := row_form hbr.row
    cases hh : σ'.has [tBar] with
    | false =>
      have HV : Hid (σ'.which [tBar] = σ' ∧ (σ', c) = out) := ⟨by unfold Rd.which; rw [if_neg (by simp [hh])], (barL_stop hh).symm.trans HE.out⟩
      have htk := take_new hbr.st hpr.good [tBar] (by simp [KW]) (by simp) 1 rfl
      rw [HV.out.1, hh] at htk
      have E1 : Hid (out.1 = σ' ∧ out.2 = c) := ⟨by rw [← HV.out.2], by rw [← HV.out.2]⟩
      rw [E1.out.1] at Hd po
      clear hh HE Hout HV ko
      go_wp2_with (first
        | (go_at_call 168; refine htk.mono ?_; rintro e w6 ⟨rfl, own6, m6, hs6, he6⟩; have hbr6 := hbr.next hs6 he6)
        | (go_at_call 130; refine (expect_new hbr6.st po.good [tClose] (by simp [KW]) (by simp) 1 rfl).mono ?_; rintro e w7 ⟨rfl, own7, m7, hs7, he7⟩; have hbr7 := hbr6.next hs7 he7)
        | (go_at_call 226; refine (leave_p hbr7.st Hd.out.1 Hd.out.2.1).mono ?_; rintro e w8 ⟨rfl, own8, m8, hs8, he8⟩; have hbr8 := hbr7.next hs8 he8; have z0 := hbr8.z.cell 0; have z1 := hbr8.z.cell 1; have z2 := hbr8.z.cell 2; have z3 := hbr8.z.cell 3; have z4 := hbr8.z.cell 4; have z5 := hbr8.z.cell 5; have g0 := hbr8.z.frozen 0; have g1 := hbr8.z.frozen 1; have g2 := hbr8.z.frozen 2; have g3 := hbr8.z.frozen 3; have g4 := hbr8.z.frozen 4; have g5 := hbr8.z.frozen 5; simp [zeroPart] at z0 z1 z2 z3 z4 z5))
      obtain ⟨own9, hS9, hE9, hL9⟩ := br_end hbr8 hNe (Nat.le_refl _) hc0 (.string ⟨#[]⟩) (.int .i64 0) (.int .i64 0) (.int .i64 0) (.slice none 0 0) (.slice up un uc)
      have hB := hbr8.z.six (.string ⟨#[]⟩) (.int .i64 0) (.int .i64 0) (.int .i64 0) (.slice none 0 0) (.slice up un uc)
      have k0 := hB.cell 0; have k1 := hB.cell 1; have k2 := hB.cell 2; have k3 := hB.cell 3; have k4 := hB.cell 4; have k5 := hB.cell 5
      simp at k0 k1 k2 k3 k4 k5
      rw [E1.out.1, E1.out.2]
      exact bodyPost_ret (v := partVal (.mk ⟨#[]⟩ 0 0 0 [] c) (.slice none 0 0) (.slice up un uc)) (by simp [results, Tryz.results202, go_sem, k0, k1, k2, k3, k4, k5, partVal, PPart.name, PPart.place, PPart.times, PPart.kind]) rfl
        ⟨_, rfl, own9, m8, _, _, hS9, hE9, rfl, hL9⟩
    | true =>
      have h2' := hpr.good.has (ts := [tBar]) (by simp [KW]) hh
      obtain ⟨k, rfl⟩ : ∃ k, gk = k + 1 := ⟨gk - 1, by omega⟩
      have ps := hpr.ok (skip_ok hpr.good h2').ok2
      have pn := ps.ok (kq _ ps.good ps.le)
      have HV : Hid (σ'.which [tBar] = σ'.skip ∧ barL seq k (seq σ'.skip).1 (c ++ [(seq σ'.skip).2]) = out) := ⟨by unfold Rd.which; rw [if_pos hh], (barL_more hh).symm.trans HE.out⟩
      have Hlen : Hid ((seq σ'.skip).1.ahead.length + 1 ≤ σ'.ahead.length) := by
        have a := (kq _ ps.good ps.le).le; rw [skip_len] at a; show _ ≤ _; omega
      have htk := take_new hbr.st hpr.good [tBar] (by simp [KW]) (by simp) 1 rfl
      rw [HV.out.1, hh] at htk
      clear hh HE
      go_wp2_with (first
        | (go_at_call 168; refine htk.mono ?_; rintro e w6 ⟨rfl, own6, m6, hs6, he6⟩; have hbr6 := hbr.next hs6 he6)
        | (go_at_call 132; refine (hq own6 w6 m6 _ hs6 ps).mono ?_; rintro e w7 ⟨v3, rfl, own7, m7, hs7, he7, hl7⟩; obtain ⟨xp, xn, xc, rfl⟩ := hl7.form; have hbr7 := hbr6.next hs7 he7)
        | (at_builtin; refine wpList_append_lies _ rfl (.tmp 20) (.tmp 23) 187 rfl 0 99 i0 _ 1 24 Tryz.underlying187 hi0 hz0 hz1 hz2 rfl (by decide) _ c.length vs (by rfl) (hbr7.row.alloc _) ⟨w7.heap.size, 0, none⟩ 1 1 [.slice xp xn xc] (by rfl) rfl (World.news_of_block (alloc_at _ _ _ (by simp))) (by simp [Value.oneCell']) (by decide) (by unfold maxLen; omega) (by omega) (Nat.zero_le _) (w7.heap.size + 1) (by simp) ?_; intro g' cap' w8 hown hgrow hat hlt))
      obtain ⟨hbr8, hne8⟩ := hbr7.app hl7 hNe hown hgrow (by simpa using hat) (Nat.le_refl _)
      go_roundg k
      case measure => omega
      case rel => exact ⟨_, _, _, _, _, hbr8, hne8, HV.out.2, by have := Hlen.out; omega, pn, by have := Hlen.out; simp; omega, by simp⟩
end Go.Proofs.YtddbjcfdmdbmkaaGreatDoor

namespace Go.Proofs.YtddbjcfdmdbmkaaGreatDoor
open Go.RowKit

theorem part_end {k N : Nat} {own own1 : Nat → Nat} {w w1 : World} {b : Nat} {m1 : RM} {r : Rd × PPart} {cv hv : Value} (hs1 : RSt own1 w1 b m1 r.1) (hE : Ext own w own1 w1) (hl : PartLie own1 w1 k r.2 cv hv) (oz : own1 N = 8) (hN : w.heap.size ≤ N) (v0 v1 v2 v3 v4 v5 : Value) :
    PartPost own w b k r (partVal r.2 cv hv) ((((((w1.setCell ⟨N, 0, none⟩ v0).setCell ⟨N, 1, none⟩ v1).setCell ⟨N, 2, none⟩ v2).setCell ⟨N, 3, none⟩ v3).setCell ⟨N, 4, none⟩ v4).setCell ⟨N, 5, none⟩ v5) :=
  ⟨own1, m1, cv, hv, hs1.six oz v0 v1 v2 v3 v4 v5, hE.six hN v0 v1 v2 v3 v4 v5, rfl, move7 (own' := own1) (grownBy_six w1 N v0 v1 v2 v3 v4 v5) (fun k e => by cases e; exact oz) (fun _ _ _ => rfl) hl⟩

set_option maxRecDepth 100000 in
set_option maxHeartbeats 800000 in
theorem part_step {b n k : Nat} {own : Nat → Nat} {w : World} {m : RM} {σ : Rd} (h : RSt own w b m σ) (hpre : Pre2 (n + 1) σ) (hk : σ.now.kind = 3)
    (hc : ∀ (own : Nat → Nat) (w : World) (m : RM), RSt own w b m σ → Calls Tryz.prog 200 #[.pointer (some ⟨b, 0, none⟩)] w fun e w' => ∃ v, e = .returned v ∧ PartPost own w b k (stepP n σ) v w') :
    Calls Tryz.prog 167 #[.pointer (some ⟨b, 0, none⟩)] w fun e w' => ∃ v, e = .returned v ∧ PartPost own w b k (stepP n σ) v w' := by
  have hbw := h.blk.lt
  have hk' : ((σ.now.kind : Int) == 3) = true := by simp [hk]
  clear hk
  generalize stepP n σ = r at *
  go_enter Tryz.func167, Tryz.ntmps167
  go_wp2_with (first
    | (go_at_call 83; refine (now_p (h.alloc _) hpre.good.pos).mono ?_; rintro e w' ⟨rfl, o, rfl⟩)
    | (go_at_call 200; obtain ⟨hs0, he0⟩ := h.box3 (.cells zeroPart 189) o (.cells (tokCells σ.now) 141); have hb0 := box3_0 w zeroPart 189 o (.cells (tokCells σ.now) 141); have ho0 := ownBox_0 own w.heap.size; refine (hc _ _ _ hs0).mono ?_; rintro e w1 ⟨v, rfl, own1, m1, cv, hv, hs1, he1, rfl, hl1⟩; obtain ⟨cp, cn, cc, rfl⟩ := row_form hl1.1.1; obtain ⟨hp1, hn1, hc1, rfl⟩ := hl1.2.form; have hb1 := he1.blk8 ho0 hb0; have ho1 := (he1.same _ hb0.lt).trans ho0; have z0 := hb1.cell 0; have z1 := hb1.cell 1; have z2 := hb1.cell 2; have z3 := hb1.cell 3; have z4 := hb1.cell 4; have z5 := hb1.cell 5; have g0 := hb1.frozen 0; have g1 := hb1.frozen 1; have g2 := hb1.frozen 2; have g3 := hb1.frozen 3; have g4 := hb1.frozen 4; have g5 := hb1.frozen 5; simp [zeroPart] at z0 z1 z2 z3 z4 z5; simp only [partVal]))
  have hB := hb1.six (.string r.2.name) (.int .i64 r.2.place) (.int .i64 r.2.times) (.int .i64 r.2.kind) (.slice cp cn cc) (.slice hp1 hn1 hc1)
  have k0 := hB.cell 0; have k1 := hB.cell 1; have k2 := hB.cell 2; have k3 := hB.cell 3; have k4 := hB.cell 4; have k5 := hB.cell 5
  simp at k0 k1 k2 k3 k4 k5
  exact bodyPost_ret (v := partVal r.2 (.slice cp cn cc) (.slice hp1 hn1 hc1)) (by simp [results, Tryz.results167, go_sem, k0, k1, k2, k3, k4, k5, partVal]) rfl
    ⟨_, rfl, part_end hs1 (he0.trans he1) hl1 ho1 (Nat.le_refl _) _ _ _ _ _ _⟩

set_option maxRecDepth 100000 in
set_option maxHeartbeats 800000 in
theorem part_guard {b n k : Nat} {own : Nat → Nat} {w : World} {m : RM} {σ : Rd} (h : RSt own w b m σ) (hpre : Pre2 (n + 1) σ) (hk : ¬ σ.now.kind = 3) (hn : σ.now.is tNot = true)
    (hc : ∀ (own : Nat → Nat) (w : World) (m : RM), RSt own w b m σ → Calls Tryz.prog 201 #[.pointer (some ⟨b, 0, none⟩)] w fun e w' => ∃ v, e = .returned v ∧ PartPost own w b k (guardP n σ) v w') :
    Calls Tryz.prog 167 #[.pointer (some ⟨b, 0, none⟩)] w fun e w' => ∃ v, e = .returned v ∧ PartPost own w b k (guardP n σ) v w' := by
  have hbw := h.blk.lt
  have hk' : ((σ.now.kind : Int) == 3) = false := by rw [beq_eq_false_iff_ne]; omega
  have hn' : (σ.now.text.toList == [110, 111, 116]) = true := (is_eq _ _).symm.trans hn
  clear hk hn
  generalize guardP n σ = r at *
  go_enter Tryz.func167, Tryz.ntmps167
  go_wp2_with (first
    | (go_at_call 83; refine (now_p (h.alloc _) hpre.good.pos).mono ?_; rintro e w' ⟨rfl, o, rfl⟩)
    | (go_at_call 201; obtain ⟨hs0, he0⟩ := h.box3 (.cells zeroPart 189) o (.cells (tokCells σ.now) 141); have hb0 := box3_0 w zeroPart 189 o (.cells (tokCells σ.now) 141); have ho0 := ownBox_0 own w.heap.size; refine (hc _ _ _ hs0).mono ?_; rintro e w1 ⟨v, rfl, own1, m1, cv, hv, hs1, he1, rfl, hl1⟩; obtain ⟨cp, cn, cc, rfl⟩ := row_form hl1.1.1; obtain ⟨hp1, hn1, hc1, rfl⟩ := hl1.2.form; have hb1 := he1.blk8 ho0 hb0; have ho1 := (he1.same _ hb0.lt).trans ho0; have z0 := hb1.cell 0; have z1 := hb1.cell 1; have z2 := hb1.cell 2; have z3 := hb1.cell 3; have z4 := hb1.cell 4; have z5 := hb1.cell 5; have g0 := hb1.frozen 0; have g1 := hb1.frozen 1; have g2 := hb1.frozen 2; have g3 := hb1.frozen 3; have g4 := hb1.frozen 4; have g5 := hb1.frozen 5; simp [zeroPart] at z0 z1 z2 z3 z4 z5; simp only [partVal]))
  have hB := hb1.six (.string r.2.name) (.int .i64 r.2.place) (.int .i64 r.2.times) (.int .i64 r.2.kind) (.slice cp cn cc) (.slice hp1 hn1 hc1)
  have k0 := hB.cell 0; have k1 := hB.cell 1; have k2 := hB.cell 2; have k3 := hB.cell 3; have k4 := hB.cell 4; have k5 := hB.cell 5
  simp at k0 k1 k2 k3 k4 k5
  exact bodyPost_ret (v := partVal r.2 (.slice cp cn cc) (.slice hp1 hn1 hc1)) (by simp [results, Tryz.results167, go_sem, k0, k1, k2, k3, k4, k5, partVal]) rfl
    ⟨_, rfl, part_end hs1 (he0.trans he1) hl1 ho1 (Nat.le_refl _) _ _ _ _ _ _⟩

set_option maxRecDepth 100000 in
set_option maxHeartbeats 800000 in
theorem part_brk {b n k : Nat} {own : Nat → Nat} {w : World} {m : RM} {σ : Rd} (h : RSt own w b m σ) (hpre : Pre2 (n + 1) σ) (hk : ¬ σ.now.kind = 3) (hn : σ.now.is tNot = false) (hm : σ.now.is tOpen = true) {seq : Rd → Rd × List PPart}
    (hc : ∀ (own : Nat → Nat) (w : World) (m : RM), RSt own w b m σ → Calls Tryz.prog 202 #[.pointer (some ⟨b, 0, none⟩)] w fun e w' => ∃ v, e = .returned v ∧ PartPost own w b k (bracketsP seq σ) v w') :
    Calls Tryz.prog 167 #[.pointer (some ⟨b, 0, none⟩)] w fun e w' => ∃ v, e = .returned v ∧ PartPost own w b k (bracketsP seq σ) v w' := by
  have hbw := h.blk.lt
  have hk' : ((σ.now.kind : Int) == 3) = false := by rw [beq_eq_false_iff_ne]; omega
  have hn' : (σ.now.text.toList == [110, 111, 116]) = false := (is_eq _ _).symm.trans hn
  have hm' : (σ.now.text.toList == [40]) = true := (is_eq _ _).symm.trans hm
  clear hk hn hm
  generalize bracketsP seq σ = r at *
  go_enter Tryz.func167, Tryz.ntmps167
  go_wp2_with (first
    | (go_at_call 83; refine (now_p (h.alloc _) hpre.good.pos).mono ?_; rintro e w' ⟨rfl, o, rfl⟩)
    | (go_at_call 202; obtain ⟨hs0, he0⟩ := h.box3 (.cells zeroPart 189) o (.cells (tokCells σ.now) 141); have hb0 := box3_0 w zeroPart 189 o (.cells (tokCells σ.now) 141); have ho0 := ownBox_0 own w.heap.size; refine (hc _ _ _ hs0).mono ?_; rintro e w1 ⟨v, rfl, own1, m1, cv, hv, hs1, he1, rfl, hl1⟩; obtain ⟨cp, cn, cc, rfl⟩ := row_form hl1.1.1; obtain ⟨hp1, hn1, hc1, rfl⟩ := hl1.2.form; have hb1 := he1.blk8 ho0 hb0; have ho1 := (he1.same _ hb0.lt).trans ho0; have z0 := hb1.cell 0; have z1 := hb1.cell 1; have z2 := hb1.cell 2; have z3 := hb1.cell 3; have z4 := hb1.cell 4; have z5 := hb1.cell 5; have g0 := hb1.frozen 0; have g1 := hb1.frozen 1; have g2 := hb1.frozen 2; have g3 := hb1.frozen 3; have g4 := hb1.frozen 4; have g5 := hb1.frozen 5; simp [zeroPart] at z0 z1 z2 z3 z4 z5; simp only [partVal]))
  have hB := hb1.six (.string r.2.name) (.int .i64 r.2.place) (.int .i64 r.2.times) (.int .i64 r.2.kind) (.slice cp cn cc) (.slice hp1 hn1 hc1)
  have k0 := hB.cell 0; have k1 := hB.cell 1; have k2 := hB.cell 2; have k3 := hB.cell 3; have k4 := hB.cell 4; have k5 := hB.cell 5
  simp at k0 k1 k2 k3 k4 k5
  exact bodyPost_ret (v := partVal r.2 (.slice cp cn cc) (.slice hp1 hn1 hc1)) (by simp [results, Tryz.results167, go_sem, k0, k1, k2, k3, k4, k5, partVal]) rfl
    ⟨_, rfl, part_end hs1 (he0.trans he1) hl1 ho1 (Nat.le_refl _) _ _ _ _ _ _⟩

set_option maxRecDepth 100000 in
set_option maxHeartbeats 800000 in
theorem part_bad {b n k : Nat} {own : Nat → Nat} {w : World} {m : RM} {σ : Rd} (h : RSt own w b m σ) (hpre : Pre2 (n + 1) σ) (hk : ¬ σ.now.kind = 3) (hn : σ.now.is tNot = false) (hm : σ.now.is tOpen = false) :
    Calls Tryz.prog 167 #[.pointer (some ⟨b, 0, none⟩)] w fun e w' => ∃ v, e = .returned v ∧ PartPost own w b k (σ.fail, default) v w' := by
  have hbw := h.blk.lt
  have hk' : ((σ.now.kind : Int) == 3) = false := by rw [beq_eq_false_iff_ne]; omega
  have hn' : (σ.now.text.toList == [110, 111, 116]) = false := (is_eq _ _).symm.trans hn
  have hm' : (σ.now.text.toList == [40]) = false := (is_eq _ _).symm.trans hm
  have HD : Hid ((default : PPart) = .mk ⟨#[]⟩ 0 0 0 [] []) := rfl
  clear hk hn hm
  go_enter Tryz.func167, Tryz.ntmps167
  go_wp2_with (first
    | (go_at_call 83; refine (now_p (h.alloc _) hpre.good.pos).mono ?_; rintro e w' ⟨rfl, o, rfl⟩)
    | (go_at_call 163; obtain ⟨hs0, he0⟩ := h.box3 (.cells zeroPart 189) o (.cells (tokCells σ.now) 141); have hb0 := box3_0 w zeroPart 189 o (.cells (tokCells σ.now) 141); have ho0 := ownBox_0 own w.heap.size; refine (fail_p hs0 hpre.good.pos).mono ?_; rintro e w1 ⟨rfl, own1, m1, hs1, he1⟩; have hb1 := he1.blk8 ho0 hb0; have ho1 := (he1.same _ hb0.lt).trans ho0; have z0 := hb1.cell 0; have z1 := hb1.cell 1; have z2 := hb1.cell 2; have z3 := hb1.cell 3; have z4 := hb1.cell 4; have z5 := hb1.cell 5; have g0 := hb1.frozen 0; have g1 := hb1.frozen 1; have g2 := hb1.frozen 2; have g3 := hb1.frozen 3; have g4 := hb1.frozen 4; have g5 := hb1.frozen 5; simp [zeroPart] at z0 z1 z2 z3 z4 z5))
  have hB := hb1.six (.string ⟨#[]⟩) (.int .i64 0) (.int .i64 0) (.int .i64 0) (.slice none 0 0) (.slice none 0 0)
  have k0 := hB.cell 0; have k1 := hB.cell 1; have k2 := hB.cell 2; have k3 := hB.cell 3; have k4 := hB.cell 4; have k5 := hB.cell 5
  simp at k0 k1 k2 k3 k4 k5
  rw [HD.out]
  have hl : PartLie own1 w1 k (.mk ⟨#[]⟩ 0 0 0 [] []) (.slice none 0 0) (.slice none 0 0) := ⟨⟨World.ownsRow_nil _ _ _ _, fun g hg => by simp [Value.ownBlock] at hg⟩, .inl ⟨rfl, rfl⟩⟩
  exact bodyPost_ret (v := partVal (.mk ⟨#[]⟩ 0 0 0 [] []) (.slice none 0 0) (.slice none 0 0)) (by simp [results, Tryz.results167, go_sem, k0, k1, k2, k3, k4, k5, partVal, PPart.name, PPart.place, PPart.times, PPart.kind]) rfl
    ⟨_, rfl, part_end (r := (σ.fail, .mk ⟨#[]⟩ 0 0 0 [] [])) hs1 (he0.trans he1) hl ho1 (Nat.le_refl _) _ _ _ _ _ _⟩

theorem part_p (b : Nat) : ∀ n, PartC b n n (partP n) := by
  intro n
  induction n with
  | zero => intro own w m σ h hpre; have := hpre.good.pos; have := hpre.le; omega
  | succ n ih =>
    intro own w m σ h hpre
    by_cases hk : σ.now.kind = 3
    · have e : partP (n + 1) σ = stepP n σ := by rw [partP, if_pos hk]
      rw [e]
      refine part_step h hpre hk (fun own w m h => ?_)
      cases ht : ((σ.skip.expect [tColon]).num 0 99).has [tTimes] with
      | true => exact step_yes h hpre hk ht
      | false => exact step_no h hpre hk ht
    cases hn : σ.now.is tNot with
    | true =>
      have e : partP (n + 1) σ = guardP n σ := by rw [partP, if_neg hk, if_pos hn]
      rw [e]; exact part_guard h hpre hk hn (fun own w m h => guard_p h hpre hn)
    | false =>
    cases hm : σ.now.is tOpen with
    | true =>
      have e : partP (n + 1) σ = bracketsP (seqP (partP n)) σ := by rw [partP, if_neg hk, if_neg (by simp [hn]), if_pos hm]
      rw [e]; exact part_brk h hpre hk hn hm (fun own w m h => brackets_p (seqP_ok (partP_ok n)) (seq_p (partP_ok n) ih) h hpre hm)
    | false =>
      have e : partP (n + 1) σ = (σ.fail, default) := by rw [partP, if_neg hk, if_neg (by simp [hn]), if_neg (by simp [hm])]
      rw [e]; exact part_bad h hpre hk hn hm
end Go.Proofs.YtddbjcfdmdbmkaaGreatDoor
