import Derived.Test.YtddbjcfdmdbmkaaGreatDoorB22
import Derived.Test.YtddbjcfdmdbmkaaGreatDoorB21
import Derived.Deep.RegionLaw
set_option linter.unusedVariables false
set_option linter.unusedSimpArgs false
namespace Go.Proofs.YtddbjcfdmdbmkaaGreatDoor
open Go.RowKit

def WatchC (win rate : Int) (pv : Value) : Array Value := #[.int .i64 win, .int .i64 rate, pv, .int .i64 0, .slice none 0 0, .slice none 0 0]
theorem Tryz.infoWsteps : (Tryz.prog.info? 112).map (fun i => (i.zero, i.size, i.bytes)) = some (some (.slice none 0 0), 1, 24) := by kernel_rfl
theorem blk_apart {w : World} {X : Nat} {cs : Array Value} {t : TypeId} {b e s : Nat} {v : Value} {n : Nat} {xs : List Value} (hB : Blk w X cs t) (h : w.ownsRow b e s v n xs) (he : t ≠ e) : v.ownBlock ≠ some X := by
  intro hv
  rcases h.2 with ⟨rfl, _⟩ | ⟨g, c, cur, rfl, _, q, _⟩
  · cases hv
  · simp only [Value.ownBlock, Option.some.injEq] at hv
    subst hv
    have hB' : w.heap[g]? = some (.cells cs t (0, 0)) := hB
    rw [hB'] at q
    simp only [Option.some.injEq, Obj.cells.injEq] at q
    exact he q.2.1
theorem stepsOf_path {own : Nat → Nat} {w : World} {v : Value} {l : List PPart} (h : PathN own w v l) (hl : l.length ≤ 100000) (hol : ∀ p ∈ l, p.cond.length ≤ 1000000) (hne : l ≠ []) :
    Calls Tryz.prog 56 #[v] w fun e w' => ∃ a n c, e = .returned (.slice a n c) ∧ Below w.heap.size w w' := by
  rcases h.1 with ⟨e, _⟩ | ⟨g, off, cap, rfl, hc, hP⟩
  · exact absurd e hne
  · exact stepsOf_weak hP hc hl hol

set_option maxRecDepth 100000 in
set_option maxHeartbeats 3200000 in
theorem new_weak {own : Nat → Nat} {w : World} {pv : Value} {ps : List (List PPart)} (hP : PathsLie own w pv ps) (win rate bd : Int) (h16 : ps.length ≤ 1000) (hps : ∀ l ∈ ps, l.length ≤ 100000 ∧ l ≠ [] ∧ ∀ p ∈ l, p.cond.length ≤ 1000000) :
    Calls Tryz.prog 36 #[.agg #[.int .i64 win, .int .i64 rate, .int .i64 bd, pv]] w fun e w' => ∃ X, e = .returned (.pointer (some ⟨X, 0, none⟩)) ∧ Below w.heap.size w w' ∧ w.heap.size ≤ X ∧ ∃ a n c, Blk w' X (WatchC win rate (.slice a n c)) 110 := by
  obtain ⟨i0, hi0, hz0, hz1, hz2⟩ := info_parts Tryz.infoWsteps
  obtain ⟨pa, pn, pc, epv⟩ : ∃ a n c, pv = .slice a n c := by obtain ⟨vs, _, h, _⟩ := hP; exact row_form h
  subst epv
  have epn : pn = ps.length := by
    obtain ⟨vs, _, h, _⟩ := hP
    rcases h.2 with ⟨e, h0⟩ | ⟨g, c, cur, e, _⟩ <;> cases e
    · exact h0.symm
    · rfl
  subst epn
  have hB0 := Blk.new w #[.int .i64 win, .int .i64 rate, .int .i64 bd, .slice pa ps.length pc] 67
  have p0 := hB0.cell 0; have p1 := hB0.cell 1; have p3 := hB0.cell 3
  simp at p0 p1 p3
  have hX0 := Blk.new (w.alloc (.cells #[.int .i64 win, .int .i64 rate, .int .i64 bd, .slice pa ps.length pc] 67)) (WatchC win rate (.slice none 0 0)) 110
  have hbel0 : Below w.heap.size w ((w.alloc (.cells #[.int .i64 win, .int .i64 rate, .int .i64 bd, .slice pa ps.length pc] 67)).alloc (.cells (WatchC win rate (.slice none 0 0)) 110)) := ((Below.refl _ w).alloc (Nat.le_refl _) _).alloc (by simp) _
  rw [alloc_size] at hX0
  unfold WatchC at hX0 hbel0
  go_enter Tryz.func36, Tryz.ntmps36
  go_wp2_with fail
  go_loopw [15] (fun i wr => ∃ k : Nat, k ≤ ps.length ∧ i = .int .i64 k ∧ Below w.heap.size w wr ∧ ∃ a b c n xs, n ≤ k ∧ Blk wr (w.heap.size + 1) #[.int .i64 win, .int .i64 rate, .slice a b c, .int .i64 0, .slice none 0 0, .slice none 0 0] 110 ∧ wr.ownsRow w.heap.size 112 1 (.slice a b c) n xs) (fun i _ => ps.length - (intOf i).toNat)
  case atStart => exact ⟨0, Nat.zero_le _, rfl, hbel0, none, 0, 0, 0, [], Nat.le_refl _, hX0, World.ownsRow_nil _ _ _ _⟩
  case round =>
    obtain ⟨k, hk, rfl, hbel, ra, rb, rc, n, xs, hn, hX, hrow⟩ := hrel
    clear hX0 hbel0 hB0 p0 p1 p3
    have hws := hbel.size
    have hXl := hX.lt
    have x2 := hX.cell 2
    have xf := hX.frozen 2
    simp at x2
    by_cases hlt : k < ps.length
    · obtain ⟨g, cap, epv, hg, hcol, hcell⟩ := hP.open (by omega)
      simp only [Value.slice.injEq] at epv
      obtain ⟨rfl, _, rfl⟩ := epv
      obtain ⟨v, hcv, hpn⟩ := hcell k hlt
      have hcv' := (hbel.cell (p := ⟨g, k, none⟩) hg).trans hcv
      obtain ⟨hl1, hl2, hl3⟩ := hps ps[k] (List.getElem_mem _)
      have hcall : ∀ W, Below wr.heap.size wr W → Calls Tryz.prog 56 #[v] W fun e w' => ∃ a n c, e = .returned (.slice a n c) ∧ Below wr.heap.size wr w' := fun W hW => by
        refine (stepsOf_path ⟨hpn.1.ext (Ext.of_below (own := own) (hbel.trans (hW.mono hbel.size))), hpn.2⟩ hl1 hl3 hl2).mono ?_
        rintro e w' ⟨a, n, c, h1, h2⟩
        exact ⟨a, n, c, h1, hW.trans (h2.mono hW.size)⟩
      obtain ⟨va, vb, vc, ev⟩ : ∃ a b c, v = .slice a b c := by rcases hpn.1 with ⟨_, p, c, e⟩ | ⟨g, off, cap, e, _⟩ <;> exact ⟨_, _, _, e⟩
      subst ev
      have hki : (k : Int) < (ps.length : Int) := by omega
      have hk0 : (0 : Int) ≤ (k : Int) := by omega
      clear hcell hcv hpn
      go_upto_region 5 with fail
      go_region_law (first
        | (refine step_append_lies _ (by rfl) _ _ 106 (by rfl) w.heap.size 112 i0 _ 1 24 Tryz.underlying106 hi0 hz0 hz1 hz2 rfl (by decide) _ n xs (by rfl) (hrow5.alloc _) ⟨w5.heap.size, 0, none⟩ 1 1 [.slice sa sn sc] (by rfl) rfl (World.news_of_block (alloc_at _ _ _ (by simp))) (by simp [Value.oneCell']) (by decide) (by unfold maxLen; omega) (by omega) (by simp; omega) (w5.heap.size + 1) (by simp) ?_; intro g7 cap7 w7 hown7 hgrow7 hat7 hlt7; have hX7 := (hX5.alloc (.cells #[.slice sa sn sc] 112)).of_eq (hgrow7.block (w.heap.size + 1) (by simp; omega) (fun e => blk_apart hX5 hrow5 (by decide) e.symm)); have u2 := hX7.cell 2; have uf := hX7.frozen 2; have hXl7 := hX7.lt; simp at u2)
        | (go_simp; refine (hcall _ (by first | exact Below.refl _ _ | exact ⟨rfl, rfl, rfl, Nat.le_refl _, fun _ _ => rfl⟩)).mono ?_; rintro e w5 ⟨sa, sn, sc, rfl, hb5⟩; have hX5 := hX.of_eq (hb5.block (w.heap.size + 1) hXl); have y2 := hX5.cell 2; have yf := hX5.frozen 2; have hXl5 := hX5.lt; simp at y2; have hrow5 := row_of_blk hrow (w' := w5) (fun z hz => hb5.block z (hrow.lt z hz).2); have hbel5 : Below w.heap.size w w5 := hbel.trans (hb5.mono hbel.size); have hws5 := hbel5.size; show _; dsimp only))
      all_goals
        have hX8 : Blk (w7.setCell ⟨w.heap.size + 1, 2, none⟩ (.slice (some ⟨g7, 0, none⟩) (n + 1) cap7)) (w.heap.size + 1) #[.int .i64 win, .int .i64 rate, .slice (some ⟨g7, 0, none⟩) (n + 1) cap7, .int .i64 0, .slice none 0 0, .slice none 0 0] 110 := by simpa using hX7.set 2 (.slice (some ⟨g7, 0, none⟩) (n + 1) cap7)
        have hbel8 : Below w.heap.size w (w7.setCell ⟨w.heap.size + 1, 2, none⟩ (.slice (some ⟨g7, 0, none⟩) (n + 1) cap7)) := below_grown (below_grown (hbel5.alloc hbel5.size _) hgrow7 (fun z e => (hrow5.lt z e).1)) (grownBy_setCell _ _ _) (fun z e => by cases e; exact Nat.le_succ _)
        have hrow8 := row_of_blk hown7 (w' := w7.setCell ⟨w.heap.size + 1, 2, none⟩ (.slice (some ⟨g7, 0, none⟩) (n + 1) cap7)) (fun z hz => (grownBy_setCell w7 ⟨w.heap.size + 1, 2, none⟩ _).block z (hown7.lt z hz).2 (fun e => by simp at e; subst e; exact blk_apart hX7 hown7 (by decide) hz))
        clear hown7 hgrow7 hat7
        go_wp2_with fail
        first
        | (go_roundw
           case rel => exact ⟨k + 1, by omega, by go_num, hbel8, _, _, _, n + 1, _, by omega, hX8, hrow8⟩
           case measure => simp [intOf]; omega)
        | (refine ⟨⟨k + 1, by omega, by go_num, hbel8, _, _, _, n + 1, _, by omega, hX8, hrow8⟩, by simp [intOf]; omega⟩)
    · go_wp2
      go_ret
      exact ⟨_, rfl, hbel, by omega, ra, rb, rc, hX⟩
end Go.Proofs.YtddbjcfdmdbmkaaGreatDoor

namespace Go.Proofs.YtddbjcfdmdbmkaaGreatDoor
open Go.RowKit

structure WWant where
  kind : Nat
  cond : List (ByteArray × Nat)
instance : Inhabited WWant := ⟨⟨0, []⟩⟩
structure WStep where
  want : WWant
  guards : List WWant
instance : Inhabited WStep := ⟨⟨default, []⟩⟩
structure WAcc where
  steps : List WStep
  names : List ByteArray
  guards : List WWant
def askP (names : List ByteArray) (p : PPart) : WWant := ⟨p.kind, p.cond.map (bindOp (names ++ [p.name]))⟩
def accP (a : WAcc) (p : PPart) : WAcc :=
  if isStepB p then ⟨a.steps ++ [⟨askP a.names p, a.guards⟩], a.names ++ [p.name], []⟩ else ⟨a.steps, a.names, a.guards ++ [askP a.names p]⟩
def stepsAcc (l : List PPart) (k : Nat) : WAcc := (l.take k).foldl accP ⟨[], [], []⟩
def stepsP (l : List PPart) : List WStep := (stepsAcc l l.length).steps
theorem stepsAcc_succ (l : List PPart) (k : Nat) (h : k < l.length) : stepsAcc l (k + 1) = accP (stepsAcc l k) l[k] := by
  unfold stepsAcc; rw [List.take_succ_eq_append_getElem h, List.foldl_append]; rfl
theorem accP_le (a : WAcc) (p : PPart) (k : Nat) (h1 : a.steps.length ≤ k) (h2 : a.names.length ≤ k) (h3 : a.guards.length ≤ k) : (accP a p).steps.length ≤ k + 1 ∧ (accP a p).names.length ≤ k + 1 ∧ (accP a p).guards.length ≤ k + 1 := by
  unfold accP
  split <;> simp <;> omega
theorem stepsAcc_le (l : List PPart) : ∀ k, k ≤ l.length → (stepsAcc l k).steps.length ≤ k ∧ (stepsAcc l k).names.length ≤ k ∧ (stepsAcc l k).guards.length ≤ k := by
  intro k
  induction k with
  | zero => intro _; simp [stepsAcc]
  | succ k ih =>
    intro h
    rw [stepsAcc_succ l k (by omega)]
    obtain ⟨a, b, c⟩ := ih (by omega)
    exact accP_le _ _ k a b c

def CondS (S : Nat → Prop) (w : World) (v : Value) (ops : List (ByteArray × Nat)) : Prop := w.ownsRow 0 245 2 v ops.length (flat bcells ops) ∧ ∀ g, v.ownBlock = some g → S g
def wcells (x : WWant × Value) : List Value := [.int .i64 x.1.kind, x.2]
def WantsR (S : Nat → Prop) (w : World) (v : Value) (gs : List WWant) : Prop := ∃ cvs : List Value, cvs.length = gs.length ∧ w.ownsRow 0 194 2 v gs.length (flat wcells (gs.zip cvs)) ∧ ∀ i, (h : i < gs.length) → (h' : i < cvs.length) → CondS S w cvs[i] gs[i].cond
def WantsS (S : Nat → Prop) (w : World) (v : Value) (gs : List WWant) : Prop := WantsR S w v gs ∧ ∀ g, v.ownBlock = some g → S g
def scells (x : WStep × Value × Value) : List Value := [.int .i64 x.1.want.kind, x.2.1, x.2.2]
def StepsR (S : Nat → Prop) (w : World) (v : Value) (ss : List WStep) : Prop := ∃ cgs : List (Value × Value), cgs.length = ss.length ∧ w.ownsRow 0 196 3 v ss.length (flat scells (ss.zip cgs)) ∧ ∀ i, (h : i < ss.length) → (h' : i < cgs.length) → CondS S w cgs[i].1 ss[i].want.cond ∧ WantsS S w cgs[i].2 ss[i].guards
def StepsS (S : Nat → Prop) (w : World) (v : Value) (ss : List WStep) : Prop := StepsR S w v ss ∧ ∀ g, v.ownBlock = some g → S g
def KeepS (S : Nat → Prop) (w : World) (S' : Nat → Prop) (w' : World) : Prop := ∀ b, S b → b < w.heap.size → S' b ∧ w'.heap[b]? = w.heap[b]?
theorem KeepS.refl (S : Nat → Prop) (w : World) : KeepS S w S w := fun _ h _ => ⟨h, rfl⟩
theorem KeepS.trans {S S' S'' : Nat → Prop} {w w' w'' : World} (h : KeepS S w S' w') (k : KeepS S' w' S'' w'') (hs : w.heap.size ≤ w'.heap.size) : KeepS S w S'' w'' := fun b hb hl => by
  obtain ⟨a, e⟩ := h b hb hl
  obtain ⟨a', e'⟩ := k b a (by omega)
  exact ⟨a', e'.trans e⟩
theorem CondS.to {S S' : Nat → Prop} {w w' : World} {v : Value} {ops : List (ByteArray × Nat)} (h : CondS S w v ops) (hk : KeepS S w S' w') : CondS S' w' v ops :=
  ⟨row_of_blk h.1 fun g hg => (hk g (h.2 g hg) (h.1.lt g hg).2).2, fun g hg => (hk g (h.2 g hg) (h.1.lt g hg).2).1⟩
theorem WantsS.to {S S' : Nat → Prop} {w w' : World} {v : Value} {gs : List WWant} (h : WantsS S w v gs) (hk : KeepS S w S' w') : WantsS S' w' v gs := by
  obtain ⟨⟨cvs, h1, h2, h3⟩, h4⟩ := h
  exact ⟨⟨cvs, h1, row_of_blk h2 fun g hg => (hk g (h4 g hg) (h2.lt g hg).2).2, fun i a b => (h3 i a b).to hk⟩, fun g hg => (hk g (h4 g hg) (h2.lt g hg).2).1⟩
theorem StepsS.to {S S' : Nat → Prop} {w w' : World} {v : Value} {ss : List WStep} (h : StepsS S w v ss) (hk : KeepS S w S' w') : StepsS S' w' v ss := by
  obtain ⟨⟨cgs, h1, h2, h3⟩, h4⟩ := h
  exact ⟨⟨cgs, h1, row_of_blk h2 fun g hg => (hk g (h4 g hg) (h2.lt g hg).2).2, fun i a b => ⟨(h3 i a b).1.to hk, (h3 i a b).2.to hk⟩⟩, fun g hg => (hk g (h4 g hg) (h2.lt g hg).2).1⟩
theorem WantsR.to {S S' : Nat → Prop} {w w' : World} {v : Value} {gs : List WWant} (h : WantsR S w v gs) (hk : KeepS S w S' w') (hv : ∀ g, v.ownBlock = some g → w'.heap[g]? = w.heap[g]?) : WantsR S' w' v gs := by
  obtain ⟨cvs, h1, h2, h3⟩ := h
  exact ⟨cvs, h1, row_of_blk h2 hv, fun i a b => (h3 i a b).to hk⟩
theorem StepsR.to {S S' : Nat → Prop} {w w' : World} {v : Value} {ss : List WStep} (h : StepsR S w v ss) (hk : KeepS S w S' w') (hv : ∀ g, v.ownBlock = some g → w'.heap[g]? = w.heap[g]?) : StepsR S' w' v ss := by
  obtain ⟨cgs, h1, h2, h3⟩ := h
  exact ⟨cgs, h1, row_of_blk h2 hv, fun i a b => ⟨(h3 i a b).1.to hk, (h3 i a b).2.to hk⟩⟩
theorem WantsR.nil (S : Nat → Prop) (w : World) : WantsR S w (.slice none 0 0) [] := ⟨[], rfl, World.ownsRow_nil _ _ _ _, fun i h => by simp at h⟩
theorem StepsR.nil (S : Nat → Prop) (w : World) : StepsR S w (.slice none 0 0) [] := ⟨[], rfl, World.ownsRow_nil _ _ _ _, fun i h => by simp at h⟩
theorem CondS.nil (S : Nat → Prop) (w : World) : CondS S w (.slice none 0 0) [] := ⟨World.ownsRow_nil _ _ _ _, fun g h => by simp [Value.ownBlock] at h⟩
theorem WantsR.app {S S' : Nat → Prop} {w w' : World} {gs : List WWant} {cvs : List Value} {g : WWant} {cv v' : Value} (hl : cvs.length = gs.length) (hc : ∀ i, (h : i < gs.length) → (h' : i < cvs.length) → CondS S w cvs[i] gs[i].cond) (hk : KeepS S w S' w')
    (hrow : w'.ownsRow 0 194 2 v' (gs.length + 1) (flat wcells (gs.zip cvs) ++ [.int .i64 g.kind, cv])) (hn : CondS S' w' cv g.cond) : WantsR S' w' v' (gs ++ [g]) := by
  refine ⟨cvs ++ [cv], by simp [hl], ?_, fun i h h' => ?_⟩
  · rw [zip_snoc _ _ _ _ hl, flat_snoc, List.length_append]; exact hrow
  · by_cases hi : i < gs.length
    · rw [List.getElem_append_left (by omega), List.getElem_append_left hi]; exact (hc i hi (by omega)).to hk
    · have hg : i = gs.length := by simp at h; omega
      subst hg
      rw [List.getElem_append_right (by omega), List.getElem_append_right (by omega)]
      simp only [hl, Nat.sub_self, List.getElem_cons_zero]
      exact hn
theorem StepsR.app {S S' : Nat → Prop} {w w' : World} {ss : List WStep} {cgs : List (Value × Value)} {s : WStep} {cv gv v' : Value} (hl : cgs.length = ss.length) (hc : ∀ i, (h : i < ss.length) → (h' : i < cgs.length) → CondS S w cgs[i].1 ss[i].want.cond ∧ WantsS S w cgs[i].2 ss[i].guards) (hk : KeepS S w S' w')
    (hrow : w'.ownsRow 0 196 3 v' (ss.length + 1) (flat scells (ss.zip cgs) ++ [.int .i64 s.want.kind, cv, gv])) (hn : CondS S' w' cv s.want.cond) (hg : WantsS S' w' gv s.guards) : StepsR S' w' v' (ss ++ [s]) := by
  refine ⟨cgs ++ [(cv, gv)], by simp [hl], ?_, fun i h h' => ?_⟩
  · rw [zip_snoc _ _ _ _ hl, flat_snoc, List.length_append]; exact hrow
  · by_cases hi : i < ss.length
    · rw [List.getElem_append_left (by omega), List.getElem_append_left hi]; exact ⟨(hc i hi (by omega)).1.to hk, (hc i hi (by omega)).2.to hk⟩
    · have hg' : i = ss.length := by simp at h; omega
      subst hg'
      rw [List.getElem_append_right (by omega), List.getElem_append_right (by omega)]
      simp only [hl, Nat.sub_self, List.getElem_cons_zero]
      exact ⟨hn, hg⟩
theorem row_base0 {w : World} {b : Nat} {e : TypeId} {s : Nat} {v : Value} {n : Nat} {xs : List Value} (h : w.ownsRow b e s v n xs) : w.ownsRow 0 e s v n xs := by
  refine ⟨h.1, ?_⟩
  rcases h.2 with h | ⟨g, cap, cur, h1, _, h2⟩
  · exact .inl h
  · exact .inr ⟨g, cap, cur, h1, Nat.zero_le _, h2⟩

set_option maxRecDepth 100000 in
set_option maxHeartbeats 800000 in
theorem bind_nil2 {w : World} {a : Option Addr} {C : Nat} {kv : Value} :
    Calls Tryz.prog 90 #[.slice a 0 C, kv] w fun e w' => e = .returned (.slice none 0 0) ∧ w' = w := by
  go_enter Tryz.func90, Tryz.ntmps90
  go_wp2
  go_loopw [5, 11] (fun v i wr => v = .slice none 0 0 ∧ i = .int .i64 0 ∧ wr = w) (fun _ _ _ => 0)
  case atStart => exact ⟨rfl, rfl, rfl⟩
  case round =>
    obtain ⟨rfl, rfl, rfl⟩ := hrel
    go_wp2
    go_ret
    exact ⟨rfl, rfl⟩
theorem bind_s {own : Nat → Nat} {w : World} {cv : Value} {ops : List POp} (hO : OpsLie own w cv ops) (hol : ops.length ≤ 1000000) {g cap : Nat} {names : List ByteArray} (hg : g < w.heap.size) (hN : ∀ k, (hk : k < names.length) → w.cell? ⟨g, k, none⟩ = some (.string names[k])) (h1 : 1 ≤ names.length) (hnl : names.length ≤ 1000000) :
    Calls Tryz.prog 90 #[cv, .slice (some ⟨g, 0, none⟩) names.length cap] w fun e w' => ∃ p n c, e = .returned (.slice p n c) ∧ Below w.heap.size w w' ∧ CondS (fun b => w.heap.size ≤ b) w' (.slice p n c) (ops.map (bindOp names)) := by
  rcases hO.open with ⟨rfl, p, c, rfl⟩ | ⟨G, C, rfl, hG, hc⟩
  · refine bind_nil2.mono ?_
    rintro e w' ⟨rfl, rfl⟩
    exact ⟨_, _, _, rfl, Below.refl _ _, CondS.nil _ _⟩
  · refine (bind_w hG hc hol hg hN h1 hnl).mono ?_
    rintro e w' ⟨v, rfl, hr, hb⟩
    obtain ⟨a, b, c, rfl⟩ := row_form hr
    exact ⟨a, b, c, rfl, hb, by rw [List.length_map]; exact row_base0 hr, fun k hk => (hr.lt k hk).1⟩
end Go.Proofs.YtddbjcfdmdbmkaaGreatDoor
