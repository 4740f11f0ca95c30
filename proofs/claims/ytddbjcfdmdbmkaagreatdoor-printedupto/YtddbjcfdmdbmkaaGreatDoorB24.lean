import Derived.Test.YtddbjcfdmdbmkaaGreatDoorB22
import Derived.Test.YtddbjcfdmdbmkaaGreatDoorB23
set_option linter.unusedVariables false
set_option linter.unusedSimpArgs false
namespace Go.Proofs.YtddbjcfdmdbmkaaGreatDoor
open Go.RowKit

def InS (H : Nat) (sv nv gv : Value) : Nat → Prop := fun b => H ≤ b ∧ sv.ownBlock ≠ some b ∧ nv.ownBlock ≠ some b ∧ gv.ownBlock ≠ some b
structure SWs (H : Nat) (wr : World) (sv nv gv : Value) (a : WAcc) : Prop where
  s : ∃ cgs : List (Value × Value), cgs.length = a.steps.length ∧ wr.ownsRow H 196 3 sv a.steps.length (flat scells (a.steps.zip cgs)) ∧ ∀ i, (h : i < a.steps.length) → (h' : i < cgs.length) → CondS (InS H sv nv gv) wr cgs[i].1 a.steps[i].want.cond ∧ WantsS (InS H sv nv gv) wr cgs[i].2 a.steps[i].guards
  n : wr.ownsRow H 9 1 nv a.names.length (a.names.map Value.string)
  g : ∃ cvs : List Value, cvs.length = a.guards.length ∧ wr.ownsRow H 194 2 gv a.guards.length (flat wcells (a.guards.zip cvs)) ∧ ∀ i, (h : i < a.guards.length) → (h' : i < cvs.length) → CondS (InS H sv nv gv) wr cvs[i] a.guards[i].cond
theorem SWs.start (H : Nat) (w : World) : SWs H w (.slice none 0 0) (.slice none 0 0) (.slice none 0 0) ⟨[], [], []⟩ :=
  ⟨⟨[], rfl, World.ownsRow_nil _ _ _ _, fun i h => by simp at h⟩, World.ownsRow_nil _ _ _ _, ⟨[], rfl, World.ownsRow_nil _ _ _ _, fun i h => by simp at h⟩⟩
theorem CondS.mono {S S' : Nat → Prop} {w : World} {v : Value} {ops : List (ByteArray × Nat)} (h : CondS S w v ops) (hS : ∀ b, S b → S' b) : CondS S' w v ops := ⟨h.1, fun g hg => hS g (h.2 g hg)⟩
theorem CondS.alloc {S : Nat → Prop} {w : World} {v : Value} {ops : List (ByteArray × Nat)} (h : CondS S w v ops) (o : Obj) : CondS S (w.alloc o) v ops := h.to fun b hb hl => ⟨hb, Below.heap_alloc w o b hl⟩
theorem CondS.set {S : Nat → Prop} {w : World} {v : Value} {ops : List (ByteArray × Nat)} (h : CondS S w v ops) {p : Addr} (hp : ¬ S p.block) (u : Value) : CondS S (w.setCell p u) v ops := h.to fun b hb hl => ⟨hb, Below.heap_setCell _ _ _ _ (fun e => hp (by rw [← e]; exact hb))⟩
theorem SWs.guard {H : Nat} {wr w4 wc w7 : World} {sv nv gv : Value} {a : WAcc} {cgs : List (Value × Value)} {cvs : List Value} {kd : Nat} {cv : Value} {ops : List (ByteArray × Nat)} {g7 cap7 : Nat} {o1 o2 : Obj}
    (hcl : cgs.length = a.steps.length) (hsc : ∀ i, (h : i < a.steps.length) → (h' : i < cgs.length) → CondS (InS H sv nv gv) wr cgs[i].1 a.steps[i].want.cond ∧ WantsS (InS H sv nv gv) wr cgs[i].2 a.steps[i].guards)
    (hvl : cvs.length = a.guards.length) (hgc : ∀ i, (h : i < a.guards.length) → (h' : i < cvs.length) → CondS (InS H sv nv gv) wr cvs[i] a.guards[i].cond)
    (hH : H ≤ w4.heap.size) (hle : wr.heap.size ≤ w4.heap.size) (h4c : w4.heap.size ≤ wc.heap.size) (hK : ∀ b, b < wr.heap.size → nv.ownBlock ≠ some b → wc.heap[b]? = wr.heap[b]?)
    (hs4 : wc.ownsRow H 196 3 sv a.steps.length (flat scells (a.steps.zip cgs))) (hs4b : ∀ b, sv.ownBlock = some b → b < w4.heap.size) (hn4 : wc.ownsRow H 9 1 nv a.names.length (a.names.map Value.string)) (hn4b : ∀ b, nv.ownBlock = some b → b < w4.heap.size) (hg4 : wc.ownsRow H 194 2 gv a.guards.length (flat wcells (a.guards.zip cvs))) (hg4b : ∀ b, gv.ownBlock = some b → b < w4.heap.size)
    (hC : CondS (fun b => w4.heap.size ≤ b) wc cv ops) (hgrow : ((wc.alloc o1).alloc o2).grownBy w7 gv.ownBlock) (hat : gv.ownBlock = some g7 ∨ g7 = wc.heap.size + 1 + 1)
    (hown : w7.ownsRow H 194 2 (.slice (some ⟨g7, 0, none⟩) (a.guards.length + 1) cap7) (a.guards.length + 1) (flat wcells (a.guards.zip cvs) ++ [.int .i64 kd, cv])) :
    SWs H w7 sv nv (.slice (some ⟨g7, 0, none⟩) (a.guards.length + 1) cap7) ⟨a.steps, a.names, a.guards ++ [⟨kd, ops⟩]⟩ := by
  have hal : ∀ b, b < wc.heap.size → ((wc.alloc o1).alloc o2).heap[b]? = wc.heap[b]? := fun b hb => (Below.heap_alloc _ _ _ (by simp; omega)).trans (Below.heap_alloc _ _ _ hb)
  have hb7 : ∀ b, b < wc.heap.size → gv.ownBlock ≠ some b → w7.heap[b]? = wc.heap[b]? := fun b hb hne => (hgrow.block b (by simp; omega) (fun e => hne e.symm)).trans (hal b hb)
  have hk : KeepS (InS H sv nv gv) wr (InS H sv nv (.slice (some ⟨g7, 0, none⟩) (a.guards.length + 1) cap7)) w7 := by
    rintro b ⟨h1, h2, h3, h4⟩ hl
    refine ⟨⟨h1, h2, h3, fun e => ?_⟩, (hb7 b (by omega) h4).trans (hK b hl h3)⟩
    simp only [Value.ownBlock, Option.some.injEq] at e
    rcases hat with h | h
    · rw [e] at h; exact h4 h
    · omega
  have hc : KeepS (fun b => w4.heap.size ≤ b) wc (InS H sv nv (.slice (some ⟨g7, 0, none⟩) (a.guards.length + 1) cap7)) w7 := by
    intro b h1 hl
    refine ⟨⟨by omega, fun e => by have := hs4b b e; omega, fun e => by have := hn4b b e; omega, fun e => ?_⟩, hb7 b hl (fun e => by have := hg4b b e; omega)⟩
    simp only [Value.ownBlock, Option.some.injEq] at e
    rcases hat with h | h
    · have := hg4b g7 h; omega
    · omega
  refine ⟨⟨cgs, hcl, row_other ((hs4.alloc _).alloc _) ((hg4.alloc _).alloc _) (by decide) hgrow, fun i h h' => ⟨(hsc i h h').1.to hk, (hsc i h h').2.to hk⟩⟩, row_other ((hn4.alloc _).alloc _) ((hg4.alloc _).alloc _) (by decide) hgrow, ?_⟩
  refine ⟨cvs ++ [cv], by simp [hvl], ?_, fun i h h' => ?_⟩
  · rw [zip_snoc _ _ _ _ hvl, flat_snoc, List.length_append]; exact hown
  · by_cases hi : i < a.guards.length
    · rw [List.getElem_append_left (by omega), List.getElem_append_left hi]; exact (hgc i hi (by omega)).to hk
    · have hg' : i = a.guards.length := by simp at h; omega
      subst hg'
      rw [List.getElem_append_right (by omega), List.getElem_append_right (by omega)]
      simp only [hvl, Nat.sub_self, List.getElem_cons_zero]
      exact hC.to hc
theorem SWs.step {H : Nat} {wr w4 wc w7 : World} {sv nv gv kv : Value} {a : WAcc} {cgs : List (Value × Value)} {cvs : List Value} {kd : Nat} {nm : ByteArray} {cv : Value} {ops : List (ByteArray × Nat)} {g4 g7 cap7 : Nat} {o1 o2 : Obj}
    (hcl : cgs.length = a.steps.length) (hsc : ∀ i, (h : i < a.steps.length) → (h' : i < cgs.length) → CondS (InS H sv nv gv) wr cgs[i].1 a.steps[i].want.cond ∧ WantsS (InS H sv nv gv) wr cgs[i].2 a.steps[i].guards)
    (hvl : cvs.length = a.guards.length) (hgc : ∀ i, (h : i < a.guards.length) → (h' : i < cvs.length) → CondS (InS H sv nv gv) wr cvs[i] a.guards[i].cond)
    (hH : H ≤ w4.heap.size) (hle : wr.heap.size ≤ w4.heap.size) (h4c : w4.heap.size ≤ wc.heap.size) (hK : ∀ b, b < wr.heap.size → nv.ownBlock ≠ some b → wc.heap[b]? = wr.heap[b]?)
    (hs4 : wc.ownsRow H 196 3 sv a.steps.length (flat scells (a.steps.zip cgs))) (hs4b : ∀ b, sv.ownBlock = some b → b < w4.heap.size) (hk4 : wc.ownsRow H 9 1 kv (a.names.length + 1) ((a.names ++ [nm]).map Value.string)) (hkb : kv.ownBlock = some g4) (hg4l : g4 < w4.heap.size) (hg4n : nv.ownBlock = some g4 ∨ wr.heap.size ≤ g4) (hg4 : wc.ownsRow H 194 2 gv a.guards.length (flat wcells (a.guards.zip cvs)))
    (hC : CondS (fun b => w4.heap.size ≤ b) wc cv ops) (hgrow : ((wc.alloc o1).alloc o2).grownBy w7 sv.ownBlock) (hat : sv.ownBlock = some g7 ∨ g7 = wc.heap.size + 1 + 1)
    (hown : w7.ownsRow H 196 3 (.slice (some ⟨g7, 0, none⟩) (a.steps.length + 1) cap7) (a.steps.length + 1) (flat scells (a.steps.zip cgs) ++ [.int .i64 kd, cv, gv])) :
    SWs H w7 (.slice (some ⟨g7, 0, none⟩) (a.steps.length + 1) cap7) kv (.slice none 0 0) ⟨a.steps ++ [⟨⟨kd, ops⟩, a.guards⟩], a.names ++ [nm], []⟩ := by
  have hal : ∀ b, b < wc.heap.size → ((wc.alloc o1).alloc o2).heap[b]? = wc.heap[b]? := fun b hb => (Below.heap_alloc _ _ _ (by simp; omega)).trans (Below.heap_alloc _ _ _ hb)
  have hb7 : ∀ b, b < wc.heap.size → sv.ownBlock ≠ some b → w7.heap[b]? = wc.heap[b]? := fun b hb hne => (hgrow.block b (by simp; omega) (fun e => hne e.symm)).trans (hal b hb)
  have hnil : ∀ b : Nat, (Value.slice none 0 0).ownBlock ≠ some b := fun b e => by simp [Value.ownBlock] at e
  have hk : KeepS (InS H sv nv gv) wr (InS H (.slice (some ⟨g7, 0, none⟩) (a.steps.length + 1) cap7) kv (.slice none 0 0)) w7 := by
    rintro b ⟨h1, h2, h3, h4⟩ hl
    refine ⟨⟨h1, fun e => ?_, fun e => ?_, hnil b⟩, (hb7 b (by omega) h2).trans (hK b hl h3)⟩
    · simp only [Value.ownBlock, Option.some.injEq] at e
      rcases hat with h | h
      · rw [e] at h; exact h2 h
      · omega
    · rw [hkb] at e
      simp only [Option.some.injEq] at e
      rcases hg4n with h | h
      · rw [e] at h; exact h3 h
      · omega
  have hc : KeepS (fun b => w4.heap.size ≤ b) wc (InS H (.slice (some ⟨g7, 0, none⟩) (a.steps.length + 1) cap7) kv (.slice none 0 0)) w7 := by
    intro b h1 hl
    refine ⟨⟨by omega, fun e => ?_, fun e => ?_, hnil b⟩, hb7 b hl (fun e => by have := hs4b b e; omega)⟩
    · simp only [Value.ownBlock, Option.some.injEq] at e
      rcases hat with h | h
      · have := hs4b g7 h; omega
      · omega
    · rw [hkb] at e
      simp only [Option.some.injEq] at e
      omega
  have hgr : w7.ownsRow H 194 2 gv a.guards.length (flat wcells (a.guards.zip cvs)) := row_other ((hg4.alloc _).alloc _) ((hs4.alloc _).alloc _) (by decide) hgrow
  have hgS : WantsS (InS H (.slice (some ⟨g7, 0, none⟩) (a.steps.length + 1) cap7) kv (.slice none 0 0)) w7 gv a.guards := by
    refine ⟨⟨cvs, hvl, row_base0 hgr, fun i h h' => (hgc i h h').to hk⟩, fun b hb => ⟨(hg4.lt b hb).1, fun e => ?_, fun e => ?_, hnil b⟩⟩
    · exact rows_apart hgr hown (by decide) b hb e
    · exact rows_apart hg4 hk4 (by decide) b hb e
  refine ⟨⟨cgs ++ [(cv, gv)], by simp [hcl], ?_, fun i h h' => ?_⟩, ?_, ⟨[], rfl, World.ownsRow_nil _ _ _ _, fun i h => by simp at h⟩⟩
  · rw [zip_snoc _ _ _ _ hcl, flat_snoc, List.length_append]; exact hown
  · by_cases hi : i < a.steps.length
    · rw [List.getElem_append_left (by omega), List.getElem_append_left hi]; exact ⟨(hsc i hi (by omega)).1.to hk, (hsc i hi (by omega)).2.to hk⟩
    · have hg' : i = a.steps.length := by simp at h; omega
      subst hg'
      rw [List.getElem_append_right (by omega), List.getElem_append_right (by omega)]
      simp only [hcl, Nat.sub_self, List.getElem_cons_zero]
      exact ⟨hC.to hc, hgS⟩
  · rw [List.length_append]; exact row_other ((hk4.alloc _).alloc _) ((hs4.alloc _).alloc _) (by decide) hgrow
set_option maxRecDepth 100000 in
set_option maxHeartbeats 3200000 in
theorem stepsOf_s {own : Nat → Nat} {w : World} {g off cap : Nat} {l : List PPart} (hP : PathAt own w g off l) (hcap : l.length ≤ cap) (hl : l.length ≤ 100000) (hol : ∀ p ∈ l, p.cond.length ≤ 1000000) :
    Calls Tryz.prog 56 #[.slice (some ⟨g, off * 6, none⟩) l.length cap] w fun e w' => ∃ a n c, e = .returned (.slice a n c) ∧ Below w.heap.size w w' ∧ StepsS (fun b => w.heap.size ≤ b) w' (.slice a n c) (stepsP l) := by
  obtain ⟨i1, hi1, hs0, hs1, hs2⟩ := info_parts Tryz.infoStr2
  obtain ⟨i2, hi2, hw0, hw1, hw2⟩ := info_parts Tryz.infoWant
  obtain ⟨i3, hi3, ht0, ht1, ht2⟩ := info_parts Tryz.infoWstep
  go_enter Tryz.func56, Tryz.ntmps56
  go_wp2_with fail
  go_loopw [3, 4, 5, 12] (fun sv nv gv i wr => ∃ k : Nat, k ≤ l.length ∧ i = .int .i64 k ∧ SWs w.heap.size wr sv nv gv (stepsAcc l k) ∧ Below w.heap.size w wr) (fun _ _ _ i _ => l.length - (intOf i).toNat)
  case atStart => exact ⟨0, Nat.zero_le _, rfl, SWs.start _ _, Below.refl _ _⟩
  case round =>
    obtain ⟨k, hk, rfl, hSW, hbel⟩ := hrel
    have hws := hbel.size
    by_cases hlt : k < l.length
    · obtain ⟨cv, hv, ho, hf, c0, c1, c2, c3, c4, c5⟩ := hP.part k hlt
      have hoc := hol l[k] (List.getElem_mem _)
      have hOl := ho.ext (Ext.of_below (own := own) hbel)
      have tr : ∀ j u, w.cell? ⟨g, (off + k) * 6 + j, none⟩ = some u → wr.cell? ⟨g, off * 6 + k * 6 + j, none⟩ = some u := fun j u e => by
        have e6 : (off + k) * 6 + j = off * 6 + k * 6 + j := by omega
        rw [← e6]; exact (hbel.cell (p := ⟨g, (off + k) * 6 + j, none⟩) hP.lt).trans e
      have d0 := tr 0 _ c0; have d1 := tr 1 _ c1; have d2 := tr 2 _ c2; have d3 := tr 3 _ c3; have d4 := tr 4 _ c4; have d5 := tr 5 _ c5
      rw [Nat.add_zero] at d0
      obtain ⟨ca, cb, cc, ecv⟩ : ∃ a b c, cv = .slice a b c := by rcases ho.open with ⟨_, p, c, e⟩ | ⟨G, C, e, _⟩ <;> exact ⟨_, _, _, e⟩
      obtain ⟨ha, hb, hc, rfl⟩ := hf
      subst ecv
      have HT : Hid (stepsAcc l (k + 1) = accP (stepsAcc l k) l[k]) := stepsAcc_succ l k hlt
      obtain ⟨nle, nml, gle⟩ := stepsAcc_le l k (by omega)
      generalize hpk : l[k] = p at *
      generalize stepsAcc l k = acc at *
      obtain ⟨cgs, hcl, hsrow, hsc⟩ := hSW.s
      have hnrow := hSW.n
      obtain ⟨cvs, hvl, hgrow0, hgc⟩ := hSW.g
      obtain ⟨sa, sb, sc, esv⟩ := row_form hsrow
      obtain ⟨na, nb, nc, env⟩ := row_form hnrow
      obtain ⟨ga, gb, gc, egv⟩ := row_form hgrow0
      subst esv; subst env; subst egv
      have hki : (k : Int) < (l.length : Int) := by omega
      have hk0 : (0 : Int) ≤ (k : Int) := by omega
      have hB0 := Blk.new wr #[.string p.name, .int .i64 p.place, .int .i64 p.times, .int .i64 p.kind, .slice ca cb cc, .slice ha hb hc] 189
      clear tr c0 c1 c2 c3 c4 c5
      go_upto_region 8 with (first
        | (at_builtin; refine wpList_append_keeps _ rfl _ _ 91 rfl w.heap.size 9 i1 _ 1 16 Tryz.underlying91 hi1 hs0 hs1 hs2 rfl (by decide) _ acc.names.length (acc.names.map Value.string) (by rfl) ((hnrow.alloc _).alloc _) ⟨wr.heap.size + 1, 0, none⟩ 1 1 [.string p.name] (by rfl) rfl (World.news_of_block (alloc_at _ _ _ (by simp))) (by simp [Value.oneCell']) (by decide) (by unfold maxLen; omega) (by omega) (by simp; omega) (wr.heap.size + 1 + 1) (by simp) ?_; intro g4 cap4 w4 hown hgrow hat hlt4 hold))
      have hbel4 : Below w.heap.size w w4 := below_grown ((hbel.alloc hbel.size _).alloc (by simp; omega) _) hgrow (fun z e => (hnrow.lt z e).1)
      have hs4 := row_other ((hsrow.alloc _).alloc _) ((hnrow.alloc _).alloc _) (by decide) hgrow
      have hg4r := row_other ((hgrow0.alloc _).alloc _) ((hnrow.alloc _).alloc _) (by decide) hgrow
      have hBP : Blk w4 wr.heap.size #[.string p.name, .int .i64 p.place, .int .i64 p.times, .int .i64 p.kind, .slice ca cb cc, .slice ha hb hc] 189 := (hB0.alloc _).of_eq (hgrow.block _ (by simp; omega) (fun e => by have := (hnrow.lt _ e.symm).2; omega))
      have HRows : Hid (w4.ownsRow w.heap.size 196 3 (.slice sa sb sc) acc.steps.length (flat scells (acc.steps.zip cgs)) ∧ w4.ownsRow w.heap.size 194 2 (.slice ga gb gc) acc.guards.length (flat wcells (acc.guards.zip cvs))) := ⟨hs4, hg4r⟩
      have hL4 : wr.heap.size ≤ w4.heap.size := by have := hgrow.size; simp at this; omega
      have hH4 : w.heap.size ≤ w4.heap.size := by omega
      have hK4 : ∀ b, b < wr.heap.size → (Value.slice na nb nc).ownBlock ≠ some b → w4.heap[b]? = wr.heap[b]? := fun b hb hne => (hgrow.block b (by simp; omega) (fun e => hne e.symm)).trans ((Below.heap_alloc _ _ _ (by simp; omega)).trans (Below.heap_alloc _ _ _ hb))
      have hg4n : (Value.slice na nb nc).ownBlock = some g4 ∨ wr.heap.size ≤ g4 := hat.imp id (fun e => by omega)
      have hkn4 : w4.ownsRow w.heap.size 9 1 (.slice (some ⟨g4, 0, none⟩) (acc.names.length + 1) cap4) (acc.names.length + 1) ((acc.names ++ [p.name]).map Value.string) := by rw [List.map_append]; exact hown
      have HGuard : Hid (∀ (wc w7 : World) (x : Value) (g7 cap7 : Nat) (o1 o2 : Obj), Below w4.heap.size w4 wc → CondS (fun b => w4.heap.size ≤ b) wc x (askP acc.names p).cond → ((wc.alloc o1).alloc o2).grownBy w7 (Value.slice ga gb gc).ownBlock → ((Value.slice ga gb gc).ownBlock = some g7 ∨ g7 = wc.heap.size + 1 + 1) → w7.ownsRow w.heap.size 194 2 (.slice (some ⟨g7, 0, none⟩) (acc.guards.length + 1) cap7) (acc.guards.length + 1) ((flat wcells (acc.guards.zip cvs)) ++ [.int .i64 p.kind, x]) → SWs w.heap.size w7 (.slice sa sb sc) (.slice na nb nc) (.slice (some ⟨g7, 0, none⟩) (acc.guards.length + 1) cap7) ⟨acc.steps, acc.names, acc.guards ++ [askP acc.names p]⟩) := fun wc w7 x g7 cap7 o1 o2 hb hC hg hat7 ho =>
        SWs.guard (wr := wr) (w4 := w4) (wc := wc) hcl hsc hvl hgc hH4 hL4 hb.size (fun b hb' hne => (hb.block b (by omega)).trans (hK4 b hb' hne)) (row_of_blk hs4 fun z hz => hb.block z (hs4.lt z hz).2) (fun z hz => (hs4.lt z hz).2) (row_of_blk hold fun z hz => hb.block z (hold.lt z hz).2) (fun z hz => (hold.lt z hz).2) (row_of_blk hg4r fun z hz => hb.block z (hg4r.lt z hz).2) (fun z hz => (hg4r.lt z hz).2) hC hg hat7 ho
      have HStep : Hid (∀ (wc w7 : World) (x : Value) (g7 cap7 : Nat) (o1 o2 : Obj), Below w4.heap.size w4 wc → CondS (fun b => w4.heap.size ≤ b) wc x (askP acc.names p).cond → ((wc.alloc o1).alloc o2).grownBy w7 (Value.slice sa sb sc).ownBlock → ((Value.slice sa sb sc).ownBlock = some g7 ∨ g7 = wc.heap.size + 1 + 1) → w7.ownsRow w.heap.size 196 3 (.slice (some ⟨g7, 0, none⟩) (acc.steps.length + 1) cap7) (acc.steps.length + 1) ((flat scells (acc.steps.zip cgs)) ++ [.int .i64 p.kind, x, .slice ga gb gc]) → SWs w.heap.size w7 (.slice (some ⟨g7, 0, none⟩) (acc.steps.length + 1) cap7) (.slice (some ⟨g4, 0, none⟩) (acc.names.length + 1) cap4) (.slice none 0 0) ⟨acc.steps ++ [⟨askP acc.names p, acc.guards⟩], acc.names ++ [p.name], []⟩) := fun wc w7 x g7 cap7 o1 o2 hb hC hg hat7 ho =>
        SWs.step (wr := wr) (w4 := w4) (wc := wc) (g4 := g4) hcl hsc hvl hgc hH4 hL4 hb.size (fun b hb' hne => (hb.block b (by omega)).trans (hK4 b hb' hne)) (row_of_blk hs4 fun z hz => hb.block z (hs4.lt z hz).2) (fun z hz => (hs4.lt z hz).2) (row_of_blk hkn4 fun z hz => hb.block z (hkn4.lt z hz).2) rfl hlt4 hg4n (row_of_blk hg4r fun z hz => hb.block z (hg4r.lt z hz).2) hC hg hat7 ho
      have hOps4 := ho.ext (Ext.of_below (own := own) hbel4)
      have hKn : ∀ z, (hz : z < (acc.names ++ [p.name]).length) → w4.cell? ⟨g4, z, none⟩ = some (.string (acc.names ++ [p.name])[z]) := fun z hz => by
        have hx := hown.cells (g := g4) rfl z (.string (acc.names ++ [p.name])[z]) (by
          rw [show (acc.names.map Value.string ++ [Value.string p.name]) = (acc.names ++ [p.name]).map Value.string by simp, List.getElem?_map, List.getElem?_eq_getElem hz]; rfl)
        rw [addr_add, Nat.zero_add] at hx; exact hx
      have hcall : ∀ W, Below w4.heap.size w4 W → Calls Tryz.prog 90 #[.slice ca cb cc, .slice (some ⟨g4, 0, none⟩) (acc.names.length + 1) cap4] W fun e w' => ∃ p5 n c, e = .returned (.slice p5 n c) ∧ Below W.heap.size W w' ∧ Below w4.heap.size w4 w' ∧ CondS (fun b => W.heap.size ≤ b) w' (.slice p5 n c) (askP acc.names p).cond := fun W hW => by
        have hx := bind_s (hOps4.ext (Ext.of_below (own := own) hW)) hoc (g := g4) (cap := cap4) (names := acc.names ++ [p.name]) (Nat.lt_of_lt_of_le hlt4 hW.size) (fun z hz => (hW.cell (p := ⟨g4, z, none⟩) hlt4).trans (hKn z hz)) (by simp) (by simp; omega)
        rw [List.length_append] at hx
        refine hx.mono ?_
        rintro e w' ⟨a, b, c, h1, h2, h3⟩
        exact ⟨a, b, c, h1, h2, hW.trans (h2.mono hW.size), h3⟩
      have q3 := hBP.cell 3; have q4 := hBP.cell 4; have hPl := hBP.lt
      simp at q3 q4
      have HBP : Hid (Blk w4 wr.heap.size #[.string p.name, .int .i64 p.place, .int .i64 p.times, .int .i64 p.kind, .slice ca cb cc, .slice ha hb hc] 189) := hBP
      have HOwn : Hid (w4.ownsRow w.heap.size 9 1 (.slice (some ⟨g4, 0, none⟩) (acc.names.length + 1) cap4) (acc.names.length + 1) ((acc.names ++ [p.name]).map Value.string)) := by show World.ownsRow _ _ _ _ _ _ _; rw [List.map_append]; exact hown
      generalize hPB : wr.heap.size = PB at *
      clear hown hgrow hat hold hs4 hg4r hBP hOps4 hKn hB0 hSW hsc hgc hK4 hg4n hkn4 hL4 hsrow hnrow hgrow0 hbel hOl d0 d1 d2 d3 d4 d5
      go_cut [9] from 13 to 42 (fun av wx => ∃ A x y z, av = .pointer (some ⟨A, 0, none⟩) ∧ Blk wx A #[.int .i64 p.kind, .slice x y z] 194 ∧ Below w4.heap.size w4 wx ∧ CondS (fun b => w4.heap.size ≤ b) wx (.slice x y z) (askP acc.names p).cond)
      case first =>
        go_region_with (first
          | (go_at_call 90; refine (hcall _ (by first | exact (Below.refl _ _) | exact ⟨rfl, rfl, rfl, Nat.le_refl _, fun _ _ => rfl⟩ | exact (Below.alloc (Below.refl _ _) (Nat.le_refl _) _) | exact ⟨rfl, rfl, rfl, by simp, fun z hz => Below.heap_alloc _ _ _ hz⟩)).mono ?_; rintro e w5 ⟨p5, n5, c5, rfl, hb5, hb6, hc5⟩; have q3' := (hb6.cell (p := ⟨PB, 3, none⟩) hPl).trans q3; have q4' := (hb6.cell (p := ⟨PB, 4, none⟩) hPl).trans q4; have hPl' : PB < w5.heap.size := Nat.lt_of_lt_of_le hPl hb6.size; first | (have hA := (by first | exact below_new_blk hb5 | exact below_new_blk2 hb5 | exact below_new_blk3 hb5 : Blk w5 w4.heap.size #[.int .i64 0, .slice none 0 0] 194); have y0 := hA.cell 0; have y1 := hA.cell 1; have y2 := hA.frozen 0; have y3 := hA.frozen 1; have y4 := hA.lt; simp at y0 y1 y2 y3 y4) | skip))
        all_goals
          go_wp2_with fail
          go_meet
          first
          | exact ⟨_, _, _, _, rfl, Blk.new _ _ _, hb6.alloc hb6.size _, (hc5.mono (fun b hb => Nat.le_trans (by first | exact Nat.le_refl _ | simp) hb)).alloc _⟩
          | exact ⟨_, _, _, _, rfl, by simpa using (hA.set 0 (.int .i64 p.kind)).set 1 (.slice p5 n5 c5), below_grown (below_grown hb6 (grownBy_setCell _ _ _) (fun g e => by cases e; exact Nat.le_refl _)) (grownBy_setCell _ _ _) (fun g e => by cases e; exact Nat.le_refl _), ((hc5.set (by simp) _).set (by simp) _).mono (fun b hb => by simp at hb; omega)⟩
      case rest =>
        obtain ⟨A, ax, ay, az, rfl, hBA, hbx, hCx⟩ := hcut
        have hBP5 := HBP.out.of_eq (hbx.block PB hPl)
        obtain ⟨hs4, hg4⟩ := HRows.out
        have hsrow := row_of_blk hs4 (w' := wc) fun z hz => hbx.block z (hs4.lt z hz).2
        have hgrow0 := row_of_blk hg4 (w' := wc) fun z hz => hbx.block z (hg4.lt z hz).2
        have HBX : Hid (Below w4.heap.size w4 wc) := hbx
        clear hs4 hg4 HRows
        have hbel5 : Below w.heap.size w wc := hbel4.trans (hbx.mono hbel4.size)
        have hstep := isStep_p p (.slice ca cb cc) (.slice ha hb hc) ⟨_, _, _, rfl⟩ ⟨_, _, _, rfl⟩ wc
        unfold partVal at hstep
        have m0 := hBP5.cell 0; have m1 := hBP5.cell 1; have m2 := hBP5.cell 2; have m3 := hBP5.cell 3; have m4 := hBP5.cell 4; have m5 := hBP5.cell 5
        have a0 := hBA.cell 0; have a1 := hBA.cell 1; have hAl := hBA.lt; have hPl5 := hBP5.lt
        simp at m0 m1 m2 m3 m4 m5 a0 a1
        have hbs := hbel5.size
        clear hcall HBP HOwn hbx q3 q4 hbel4
        have hA1 : A < wc.heap.size + 1 := by omega
        cases hst : isStepB p with
        | false =>
          rw [hst] at hstep
          go_wp2_with (first
            | (go_at_call 91; refine hstep.mono ?_; rintro e w6 ⟨rfl, o, rfl⟩)
            | (at_builtin; refine wpList_append_lies _ rfl _ _ 186 rfl w.heap.size 194 i2 _ 2 32 Tryz.underlying186 hi2 hw0 hw1 hw2 rfl (by decide) _ acc.guards.length (flat wcells (acc.guards.zip cvs)) (by rfl) ((hgrow0.alloc _).alloc _) ⟨wc.heap.size + 1, 0, none⟩ 1 1 [.int .i64 p.kind, .slice ax ay az] (by rfl) rfl (World.news_of_block (alloc_at _ _ _ (by simp))) (by simp [Value.oneCell']) (by decide) (by unfold maxLen; omega) (by omega) (by simp; omega) (wc.heap.size + 1 + 1) (by simp) ?_; intro g7 cap7 w7 hown7 hgrow7 hat7 hlt7))
          have hbw : Below w.heap.size w w7 := below_grown ((hbel5.alloc hbel5.size _).alloc (by simp; omega) _) hgrow7 (fun z e => (hgrow0.lt z e).1)
          have HSW7 : Hid (SWs w.heap.size w7 (.slice sa sb sc) (.slice na nb nc) (.slice (some ⟨g7, 0, none⟩) (acc.guards.length + 1) cap7) (stepsAcc l (k + 1))) := by
            show SWs _ _ _ _ _ _
            rw [HT.out]; unfold accP; rw [hst]
            exact HGuard.out wc w7 _ g7 cap7 _ _ HBX.out hCx hgrow7 hat7 hown7
          clear hown7 hgrow7 hat7
          first
          | (go_roundw
             case rel => exact ⟨k + 1, by omega, by go_num, HSW7.out, hbw⟩
             case measure => simp [intOf]; omega)
          | (refine ⟨⟨k + 1, by omega, by go_num, HSW7.out, hbw⟩, by simp [intOf]; omega⟩)
        | true =>
          rw [hst] at hstep
          go_wp2_with (first
            | (go_at_call 91; refine hstep.mono ?_; rintro e w6 ⟨rfl, o, rfl⟩)
            | (at_builtin; refine wpList_append_lies _ rfl _ _ 112 rfl w.heap.size 196 i3 _ 3 56 Tryz.underlying112 hi3 ht0 ht1 ht2 rfl (by decide) _ acc.steps.length (flat scells (acc.steps.zip cgs)) (by rfl) ((hsrow.alloc _).alloc _) ⟨wc.heap.size + 1, 0, none⟩ 1 1 [.int .i64 p.kind, .slice ax ay az, .slice ga gb gc] (by rfl) rfl (World.news_of_block (alloc_at _ _ _ (by simp))) (by simp [Value.oneCell']) (by decide) (by unfold maxLen; omega) (by omega) (by simp; omega) (wc.heap.size + 1 + 1) (by simp) ?_; intro g7 cap7 w7 hown7 hgrow7 hat7 hlt7))
          have hbw : Below w.heap.size w w7 := below_grown ((hbel5.alloc hbel5.size _).alloc (by simp; omega) _) hgrow7 (fun z e => (hsrow.lt z e).1)
          have HSW7 : Hid (SWs w.heap.size w7 (.slice (some ⟨g7, 0, none⟩) (acc.steps.length + 1) cap7) (.slice (some ⟨g4, 0, none⟩) (acc.names.length + 1) cap4) (.slice none 0 0) (stepsAcc l (k + 1))) := by
            show SWs _ _ _ _ _ _
            rw [HT.out]; unfold accP; rw [hst]
            exact HStep.out wc w7 _ g7 cap7 _ _ HBX.out hCx hgrow7 hat7 hown7
          clear hown7 hgrow7 hat7
          first
          | (go_roundw
             case rel => exact ⟨k + 1, by omega, by go_num, HSW7.out, hbw⟩
             case measure => simp [intOf]; omega)
          | (refine ⟨⟨k + 1, by omega, by go_num, HSW7.out, hbw⟩, by simp [intOf]; omega⟩)
    · have e : k = l.length := by omega
      subst e
      have HE : Hid (stepsP l = (stepsAcc l l.length).steps) := rfl
      generalize stepsAcc l l.length = acc at *
      obtain ⟨cgs, hcl, hsrow, hsc⟩ := hSW.s
      obtain ⟨sa, sb, sc, esv⟩ := row_form hsrow
      subst esv
      have HFin : Hid (StepsS (fun b => w.heap.size ≤ b) wr (.slice sa sb sc) acc.steps) := ⟨⟨cgs, hcl, row_base0 hsrow, fun i h h' => ⟨(hsc i h h').1.mono (fun b hb => hb.1), (hsc i h h').2.to (fun b hb _ => ⟨hb.1, rfl⟩)⟩⟩, fun z hz => (hsrow.lt z hz).1⟩
      clear hSW hsrow hsc
      go_wp2
      go_ret
      rw [HE.out]
      exact ⟨_, _, _, rfl, hbel, HFin.out⟩
end Go.Proofs.YtddbjcfdmdbmkaaGreatDoor
