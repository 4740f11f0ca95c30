import Derived.Test.YtddbjcfdmdbmkaaGreatDoorB16
set_option linter.unusedVariables false
set_option linter.unusedSimpArgs false
namespace Go.Proofs.YtddbjcfdmdbmkaaGreatDoor
open Go.RowKit

theorem zip_snoc2 {α β : Type} (l : List α) (l' : List β) (x : α) (y : β) (h : l'.length = l.length) : (l ++ [x]).zip (l' ++ [y]) = l.zip l' ++ [(x, y)] := by
  rw [List.zip_append h.symm]; rfl

theorem seq_end {n : Nat} {own own2 : Nat → Nat} {w w2 : World} {b : Nat} {m2 : RM} {σ' : Rd} {l : List PPart} {xs : List (Value × Value)} {v : Value} (hs2 : RSt own2 w2 b m2 σ') (hE : Ext own w own2 w2) (hlen : xs.length = l.length)
    (hrow : w2.ownsRow 0 189 6 v l.length (flat partCells (l.zip xs))) (hcol : ∀ g, v.ownBlock = some g → own2 g = 8 ∧ w.heap.size ≤ g) (hlie : ∀ p ∈ l.zip xs, PartLie own2 w2 n p.1 p.2.1 p.2.2) : SeqPost2 own w b (n + 1) (σ', l) v w2 := by
  cases hv : v.ownBlock with
  | none => exact ⟨own2, m2, hs2, hE, xs, hlen, hrow, fun g hg => (by rw [hv] at hg; cases hg), hlie⟩
  | some g =>
    obtain ⟨hg8, hgw⟩ := hcol g hv
    refine ⟨put own2 g 7, m2, hs2.recolor 7 hg8, ⟨fun k hk => by rw [put_other _ _ _ _ (by omega)]; exact hE.same k hk, hE.kept⟩, xs, hlen, hrow, fun k hk => by rw [hv] at hk; cases hk; exact put_same _ _ _, fun p hp => ?_⟩
    refine (hlie p hp).col (fun k _ e => ?_)
    rw [put_other _ _ _ _ (fun h => by rw [h, hg8] at e; cases e)]; exact e

set_option maxRecDepth 100000 in
set_option maxHeartbeats 800000 in
theorem seq_p {b n dk : Nat} {part : Rd → Rd × PPart} (kp : KeepsP n part) (hp : PartC b n dk part) : SeqC b n (dk + 1) (seqP part) := by
  intro own w m σ h hpre
  obtain ⟨out, HO⟩ : ∃ out, Hid (seqP part σ = out) := ⟨_, rfl⟩
  rw [HO.out]
  have hstart := fun w1 own1 m1 cv hv hs1 he1 hl => seq_start (part := part) (n := n) (dk := dk) kp (own := own) (w := w) (b := b) hpre (w1 := w1) (own1 := own1) (m1 := m1) (cv := cv) (hv := hv) hs1 he1 hl HO
  have hfirst := hp own w m σ h hpre
  obtain ⟨fuel, HF⟩ : ∃ fuel, Hid ((part σ).1.ahead.length = fuel) := ⟨_, rfl⟩
  rw [HF.out] at hstart
  obtain ⟨i0, hi0, hz0, hz1, hz2⟩ := info_parts Tryz.infoPart
  clear HO HF h hpre
  go_enter Tryz.func132, Tryz.ntmps132
  go_wp2_with (go_at_call 167; refine hfirst.mono ?_; rintro e w1 ⟨v, rfl, own1, m1, cv, hv, hs1, he1, rfl, hl1⟩; obtain ⟨cp, cn, cc, rfl⟩ := row_form hl1.1.1; obtain ⟨hp1, hn1, hc1, rfl⟩ := hl1.2.form; have hS0 := hstart w1 own1 m1 _ _ hs1 he1 hl1; simp only [partVal])
  clear hstart hfirst hs1 he1 hl1
  go_loopg [3] fuel (fun k v wr => QLx part n dk out own w b k v wr)
  case atStart => exact hS0
  case round =>
    obtain ⟨own', m', σ', l, xs, hst, hext, HE, hfu, hpr, hlen, hbd, hrow, hcol, hlie⟩ := hrel
    clear hS0
    cases hh : σ'.has [tThen] with
    | false =>
      have HV : Hid (σ'.which [tThen] = σ' ∧ (σ', l) = out) := ⟨by unfold Rd.which; rw [if_neg (by simp [hh])], (seqL_stop hh).symm.trans HE.out⟩
      have htk := take_new hst hpr.good [tThen] (by simp [KW]) (by simp) 1 rfl
      rw [HV.out.1, hh] at htk
      obtain ⟨vp, vn, vc, rfl⟩ := row_form hrow
      go_wp2_with (go_at_call 168; refine htk.mono ?_; rintro e w2 ⟨rfl, own2, m2, hs2, he2⟩)
      go_ret
      rw [← HV.out.2]
      have hrow2 := row_ext8 hrow (fun g hg => by rw [(hcol g hg).1]; decide) he2
      exact ⟨_, rfl, seq_end hs2 (hext.trans he2) hlen hrow2 (fun g hg => ⟨(he2.same g (hrow.lt g hg).2).trans (hcol g hg).1, (hcol g hg).2⟩) (fun p hp => (hlie p hp).ext he2)⟩
    | true =>
      have h2 := hpr.good.has (ts := [tThen]) (by simp [KW]) hh
      obtain ⟨k, rfl⟩ : ∃ k, gk = k + 1 := ⟨gk - 1, by omega⟩
      have ps := hpr.ok (skip_ok hpr.good h2).ok2
      have p1 := ps.ok (kp _ ps.good ps.le)
      have HV : Hid (σ'.which [tThen] = σ'.skip ∧ seqL part k (part σ'.skip).1 (l ++ [(part σ'.skip).2]) = out) := ⟨by unfold Rd.which; rw [if_pos hh], (seqL_more hh).symm.trans HE.out⟩
      have Hlen : Hid ((part σ'.skip).1.ahead.length + 1 ≤ σ'.ahead.length) := by
        have a := (kp _ ps.good ps.le).le; rw [skip_len] at a; show _ ≤ _; omega
      have htk := take_new hst hpr.good [tThen] (by simp [KW]) (by simp) 1 rfl
      rw [HV.out.1, hh] at htk
      obtain ⟨vp, vn, vc, rfl⟩ := row_form hrow
      clear hh HE
      go_wp2_with (first
        | (go_at_call 168; refine htk.mono ?_; rintro e w2 ⟨rfl, own2, m2, hs2, he2⟩; have hrow2 := row_ext8 hrow (fun g hg => by rw [(hcol g hg).1]; decide) he2; have hcol2 : ∀ g, (Value.slice vp vn vc).ownBlock = some g → own2 g = 8 := fun g hg => (he2.same g (hrow.lt g hg).2).trans (hcol g hg).1)
        | (go_at_call 167; refine (hp own2 w2 m2 _ hs2 ps).mono ?_; rintro e w3 ⟨v, rfl, own3, m3, cv, hv, hs3, he3, rfl, hl3⟩; obtain ⟨cp', cn', cc', rfl⟩ := row_form hl3.1.1; obtain ⟨hp', hn', hc', rfl⟩ := hl3.2.form; have hrow3 := row_ext8 hrow2 (fun g hg => by rw [hcol2 g hg]; decide) he3; have hcol3 : ∀ g, (Value.slice vp vn vc).ownBlock = some g → own3 g = 8 := fun g hg => (he3.same g (hrow2.lt g hg).2).trans (hcol2 g hg); simp only [partVal])
        | (at_builtin; refine wpList_append_lies _ rfl (.tmp 10) (.tmp 13) 99 rfl 0 189 i0 _ 6 88 Tryz.underlying99 hi0 hz0 hz1 hz2 rfl (by decide) _ l.length (flat partCells (l.zip xs)) (by rfl) (hrow3.alloc _) ⟨w3.heap.size, 0, none⟩ 1 1 (partCells ((part σ'.skip).2, (.slice cp' cn' cc', .slice hp' hn' hc'))) (by rfl) rfl (World.news_of_block (alloc_at _ _ _ (by simp))) (by simp [partCells, Value.oneCell']) (by decide) (by unfold maxLen; omega) (by omega) (Nat.zero_le _) (w3.heap.size + 1) (by simp) ?_; intro g cap w4 hown hgrow hat hlt))
      have hr8 : ∀ k, (Value.slice vp vn vc).ownBlock = some k → own3 k = 8 := hcol3
      have hS4 := (hs3.alloc _).appC hgrow hr8 (by simpa using hat)
      have hE4 := ((((hext.trans he2).trans he3).alloc _)).appC hgrow (fun k hk => (hcol k hk).2) (by simpa using hat)
      have hgw : w.heap.size ≤ g := by
        rcases hat with e | e
        · exact (hcol g e).2
        · have := ((hext.trans he2).trans he3).size; omega
      have hmv : ∀ q : PPart × (Value × Value), PartLie own3 w3 dk q.1 q.2.1 q.2.2 → PartLie (put own3 g 8) w4 dk q.1 q.2.1 q.2.2 := fun q hq =>
        move7 hgrow hr8 (fun k hk hne => by
          by_cases e : k = g
          · subst e
            rcases hat with e | e
            · exact absurd (hr8 k e) hne
            · have : k < w3.heap.size + 1 := by simpa using hk
              omega
          · exact put_other _ _ _ _ e) (move7 (World.grownBy_alloc w3 _ none) (fun k e => by cases e) (fun _ _ _ => rfl) hq)
      go_roundg k
      case measure => omega
      case rel =>
        refine ⟨put own3 g 8, m3, (part σ'.skip).1, l ++ [(part σ'.skip).2], xs ++ [(.slice cp' cn' cc', .slice hp' hn' hc')], hS4, hE4, HV.out.2, by have := Hlen.out; omega, p1, by simp [hlen], by have := Hlen.out; simp; omega, ?_, fun k e => by cases e; exact ⟨put_same _ _ _, hgw⟩, ?_⟩
        · rw [zip_snoc2 _ _ _ _ hlen, flat_snoc, List.length_append]; exact hown
        · intro q hq
          rw [zip_snoc2 _ _ _ _ hlen] at hq
          rcases List.mem_append.1 hq with hq | hq
          · exact hmv q (((hlie q hq).ext he2).ext he3)
          · simp at hq; subst hq; exact hmv _ hl3
end Go.Proofs.YtddbjcfdmdbmkaaGreatDoor

namespace Go.Proofs.YtddbjcfdmdbmkaaGreatDoor
open Go.RowKit

theorem SeqLie.form {own : Nat → Nat} {w : World} {n : Nat} {v : Value} {l : List PPart} (h : SeqLie own w n v l) : ∃ p c k, v = .slice p c k := by
  cases n with
  | zero => exact h.elim
  | succ n => obtain ⟨xs, _, h2, _⟩ := h; exact row_form h2
theorem move7s {own own' : Nat → Nat} {w w' : World} {row : Option Nat} (hg : w.grownBy w' row) (hr : ∀ k, row = some k → own k = 8) (he : ∀ k, k < w.heap.size → own k ≠ 8 → own' k = own k) {n : Nat} {v : Value} {l : List PPart} (h : SeqLie own w n v l) : SeqLie own' w' n v l := by
  have h1 : SeqLie (no8 own) w n v l := SeqLie.col (fun k _ e => by simp [no8, e]) n v l h
  have h2 := SeqLie.ext (no8_ext hg hr he) n v l h1
  refine SeqLie.col (fun k _ e => ?_) n v l h2
  by_cases hlt : k < w.heap.size
  · simp only [hlt, if_true] at e
    unfold no8 at e
    split at e
    · omega
    · rename_i hne; rw [he k hlt hne]; exact e
  · simp only [hlt, if_false] at e; exact e
theorem alloc_size (w : World) (o : Obj) : (w.alloc o).heap.size = w.heap.size + 1 := by simp
theorem Tryz.infoSeq : (Tryz.prog.info? 99).map (fun i => (i.zero, i.size, i.bytes)) = some (some (.slice none 0 0), 1, 24) := by kernel_rfl

structure BR (dk N : Nat) (own : Nat → Nat) (w : World) (b : Nat) (v : Value) (own' : Nat → Nat) (m' : RM) (σ' : Rd) (c : List (List PPart)) (vs : List Value) (wr : World) : Prop where
  st : RSt own' wr b m' σ'
  ext : Ext own w own' wr
  len : vs.length = c.length
  row : wr.ownsRow 0 99 1 v c.length vs
  col : ∀ g, v.ownBlock = some g → own' g = 8 ∧ w.heap.size ≤ g
  lie : ∀ q ∈ c.zip vs, SeqLie own' wr dk q.2 q.1
  z : Blk wr N zeroPart 189
  oz : own' N = 8
theorem BR.next {dk N : Nat} {own own' own2 : Nat → Nat} {w wr w2 : World} {b : Nat} {v : Value} {m' m2 : RM} {σ' σ2 : Rd} {c : List (List PPart)} {vs : List Value} (h : BR dk N own w b v own' m' σ' c vs wr) (hs : RSt own2 w2 b m2 σ2) (he : Ext own' wr own2 w2) : BR dk N own w b v own2 m2 σ2 c vs w2 :=
  ⟨hs, h.ext.trans he, h.len, row_ext8 h.row (fun g hg => by rw [(h.col g hg).1]; decide) he, fun g hg => ⟨(he.same g (h.row.lt g hg).2).trans (h.col g hg).1, (h.col g hg).2⟩, fun q hq => SeqLie.ext he dk _ _ (h.lie q hq), he.blk8 h.oz h.z, (he.same _ h.z.lt).trans h.oz⟩
theorem BR.app {dk N : Nat} {own own' : Nat → Nat} {w wr w4 : World} {b : Nat} {v : Value} {m' : RM} {σ' : Rd} {c : List (List PPart)} {vs : List Value} {sv : Value} {s : List PPart} {g cap : Nat} {o : Obj} (h : BR dk N own w b v own' m' σ' c vs wr) (hl : SeqLie own' wr dk sv s) (hNv : v.ownBlock ≠ some N)
    (hown : w4.ownsRow 0 99 1 (.slice (some ⟨g, 0, none⟩) (c.length + 1) cap) (c.length + 1) (vs ++ [sv])) (hgrow : (wr.alloc o).grownBy w4 v.ownBlock) (hat : v.ownBlock = some g ∨ g = wr.heap.size + 1) (hN : w.heap.size ≤ N) :
    BR dk N own w b (.slice (some ⟨g, 0, none⟩) (c.length + 1) cap) (put own' g 8) m' σ' (c ++ [s]) (vs ++ [sv]) w4 ∧ (Value.slice (some ⟨g, 0, none⟩) (c.length + 1) cap).ownBlock ≠ some N := by
  have hr8 : ∀ k, v.ownBlock = some k → own' k = 8 := fun k hk => (h.col k hk).1
  have hat' : v.ownBlock = some g ∨ g = (wr.alloc o).heap.size := by simpa using hat
  have hgw : w.heap.size ≤ g := by
    rcases hat with e | e
    · exact (h.col g e).2
    · have := h.ext.size; omega
  have hgN : g ≠ N := by
    rcases hat with e | e
    · exact fun x => hNv (x ▸ e)
    · have := h.z.lt; omega
  have hmv : ∀ v s, SeqLie own' wr dk v s → SeqLie (put own' g 8) w4 dk v s := fun v' s' hq =>
    move7s hgrow hr8 (fun k hk hne => by
      by_cases e : k = g
      · subst e
        rcases hat with e | e
        · exact absurd (hr8 k e) hne
        · have : k < wr.heap.size + 1 := by simpa using hk
          omega
      · exact put_other _ _ _ _ e) (move7s (World.grownBy_alloc wr o none) (fun k e => by cases e) (fun _ _ _ => rfl) hq)
  refine ⟨⟨(h.st.alloc o).appC hgrow hr8 hat', (h.ext.alloc o).appC hgrow (fun k hk => (h.col k hk).2) hat', by simp [h.len], ?_, fun k e => by cases e; exact ⟨put_same _ _ _, hgw⟩, ?_, ?_, ?_⟩, fun e => by cases e; exact hgN rfl⟩
  · rw [List.length_append]; exact hown
  · intro q hq
    rw [zip_snoc2 _ _ _ _ h.len] at hq
    rcases List.mem_append.1 hq with hq | hq
    · exact hmv _ _ (h.lie q hq)
    · simp at hq; subst hq; exact hmv _ _ hl
  · exact (h.z.alloc o).of_eq (hgrow.block N (by simp; have := h.z.lt; omega) (fun e => hNv e.symm))
  · rw [put_other _ _ _ _ (Ne.symm hgN)]; exact h.oz
theorem BR.first {dk N : Nat} {own own2 : Nat → Nat} {w w2 : World} {b : Nat} {m2 : RM} {σ2 : Rd} {sv : Value} {s : List PPart} (hs2 : RSt own2 w2 b m2 σ2) (hE : Ext own w own2 w2) (hl : SeqLie own2 w2 dk sv s) (hz : Blk w2 N zeroPart 189) (oz : own2 N = 8) :
    BR dk N own w b (.slice (some ⟨w2.heap.size, 0, none⟩) 1 1) (put own2 w2.heap.size 8) m2 σ2 [s] [sv] (w2.alloc (.cells #[sv] 99)) := by
  have hg : ∀ k, k < w2.heap.size → put own2 w2.heap.size 8 k = own2 k := fun k hk => put_other _ _ _ _ (by omega)
  refine ⟨(hs2.owner hg).alloc _, hE.allocAs _ 8, rfl, ⟨rfl, .inr ⟨w2.heap.size, 1, _, rfl, Nat.zero_le _, heap_alloc_new w2 _, Nat.le_refl _, by unfold maxLen; decide, rfl, rfl⟩⟩, fun g e => by cases e; exact ⟨put_same _ _ _, hE.size⟩, ?_, hz.alloc _, (hg _ hz.lt).trans oz⟩
  intro q hq
  simp only [List.zip_cons_cons, List.zip_nil_right, List.mem_singleton] at hq
  subst hq
  exact move7s (World.grownBy_alloc w2 _ none) (fun k e => by cases e) (fun k hk _ => hg k hk) hl

structure BLs (seq : Rd → Rd × List PPart) (n dk N : Nat) (out : Rd × List (List PPart)) (own : Nat → Nat) (w : World) (b k : Nat) (v : Value) (own' : Nat → Nat) (m' : RM) (σ' : Rd) (c : List (List PPart)) (vs : List Value) (wr : World) : Prop where
  br : BR dk N own w b v own' m' σ' c vs wr
  ne : v.ownBlock ≠ some N
  eq : Hid (barL seq k σ' c = out)
  fuel : σ'.ahead.length ≤ k
  pre : Pre2 n σ'
  bound : c.length + σ'.ahead.length ≤ 3000
  two : c ≠ []
def BL (seq : Rd → Rd × List PPart) (n dk N : Nat) (out : Rd × List (List PPart)) (own : Nat → Nat) (w : World) (b k : Nat) (v : Value) (wr : World) : Prop := ∃ own' m' σ' c vs, BLs seq n dk N out own w b k v own' m' σ' c vs wr
theorem barL_stop {seq : Rd → Rd × List PPart} {k : Nat} {σ : Rd} {l : List (List PPart)} (h : σ.has [tBar] = false) : barL seq k σ l = (σ, l) := by
  cases k with
  | zero => rfl
  | succ k => rw [barL, if_neg (by simp [h])]
theorem barL_more {seq : Rd → Rd × List PPart} {k : Nat} {σ : Rd} {l : List (List PPart)} (h : σ.has [tBar] = true) : barL seq (k + 1) σ l = barL seq k (seq σ.skip).1 (l ++ [(seq σ.skip).2]) := by
  rw [barL, if_pos h]
end Go.Proofs.YtddbjcfdmdbmkaaGreatDoor

namespace Go.Proofs.YtddbjcfdmdbmkaaGreatDoor
open Go.RowKit

theorem bracketsP_def (seq : Rd → Rd × List PPart) (σ : Rd) : bracketsP seq σ =
    (((barL seq (seq ((seq σ.enter).1.expect [tBar])).1.ahead.length (seq ((seq σ.enter).1.expect [tBar])).1 [(seq σ.enter).2, (seq ((seq σ.enter).1.expect [tBar])).2]).1.expect [tClose]).leave,
      .mk ⟨#[]⟩ 0 0 0 [] (barL seq (seq ((seq σ.enter).1.expect [tBar])).1.ahead.length (seq ((seq σ.enter).1.expect [tBar])).1 [(seq σ.enter).2, (seq ((seq σ.enter).1.expect [tBar])).2]).2) := rfl

theorem grownBy_trans {a b c : World} {r : Option Nat} (h : a.grownBy b r) (k : b.grownBy c r) : a.grownBy c r :=
  ⟨k.os.trans h.os, k.tape.trans h.tape, k.output.trans h.output, Nat.le_trans h.size k.size, fun i hi hr => (k.block i (Nat.lt_of_lt_of_le hi h.size) hr).trans (h.block i hi hr)⟩
theorem grownBy_six (w : World) (N : Nat) (v0 v1 v2 v3 v4 v5 : Value) : w.grownBy ((((((w.setCell ⟨N, 0, none⟩ v0).setCell ⟨N, 1, none⟩ v1).setCell ⟨N, 2, none⟩ v2).setCell ⟨N, 3, none⟩ v3).setCell ⟨N, 4, none⟩ v4).setCell ⟨N, 5, none⟩ v5) (some N) :=
  grownBy_trans (grownBy_trans (grownBy_trans (grownBy_trans (grownBy_trans (grownBy_setCell w ⟨N, 0, none⟩ v0) (grownBy_setCell _ ⟨N, 1, none⟩ v1)) (grownBy_setCell _ ⟨N, 2, none⟩ v2)) (grownBy_setCell _ ⟨N, 3, none⟩ v3)) (grownBy_setCell _ ⟨N, 4, none⟩ v4)) (grownBy_setCell _ ⟨N, 5, none⟩ v5)
theorem br_end {dk N : Nat} {own own8 : Nat → Nat} {w w8 : World} {b : Nat} {v : Value} {m8 : RM} {σ8 : Rd} {c : List (List PPart)} {vs : List Value} (h : BR dk N own w b v own8 m8 σ8 c vs w8) (hNe : v.ownBlock ≠ some N) (hN : w.heap.size ≤ N) (hc : c ≠ []) (v0 v1 v2 v3 v4 v5 : Value) :
    ∃ own', RSt own' ((((((w8.setCell ⟨N, 0, none⟩ v0).setCell ⟨N, 1, none⟩ v1).setCell ⟨N, 2, none⟩ v2).setCell ⟨N, 3, none⟩ v3).setCell ⟨N, 4, none⟩ v4).setCell ⟨N, 5, none⟩ v5) b m8 σ8 ∧
      Ext own w own' ((((((w8.setCell ⟨N, 0, none⟩ v0).setCell ⟨N, 1, none⟩ v1).setCell ⟨N, 2, none⟩ v2).setCell ⟨N, 3, none⟩ v3).setCell ⟨N, 4, none⟩ v4).setCell ⟨N, 5, none⟩ v5) ∧
      PartLie own' ((((((w8.setCell ⟨N, 0, none⟩ v0).setCell ⟨N, 1, none⟩ v1).setCell ⟨N, 2, none⟩ v2).setCell ⟨N, 3, none⟩ v3).setCell ⟨N, 4, none⟩ v4).setCell ⟨N, 5, none⟩ v5) dk (.mk ⟨#[]⟩ 0 0 0 [] c) (.slice none 0 0) v := by
  have hS := h.st.six h.oz v0 v1 v2 v3 v4 v5
  have hE := h.ext.six hN v0 v1 v2 v3 v4 v5
  have hgb := grownBy_six w8 N v0 v1 v2 v3 v4 v5
  have hR := h.row.kept hgb (.inr (fun e => hNe e))
  have hL : ∀ q ∈ c.zip vs, SeqLie own8 _ dk q.2 q.1 := fun q hq => move7s (own' := own8) hgb (fun k e => by cases e; exact h.oz) (fun _ _ _ => rfl) (h.lie q hq)
  generalize ((((((w8.setCell ⟨N, 0, none⟩ v0).setCell ⟨N, 1, none⟩ v1).setCell ⟨N, 2, none⟩ v2).setCell ⟨N, 3, none⟩ v3).setCell ⟨N, 4, none⟩ v4).setCell ⟨N, 5, none⟩ v5) = W at *
  have hops : ∀ own, OpsLie own W (.slice none 0 0) [] := fun own => ⟨World.ownsRow_nil _ _ _ _, fun g hg => by simp [Value.ownBlock] at hg⟩
  cases hv : v.ownBlock with
  | none => exact ⟨own8, hS, hE, hops _, .inr ⟨hc, vs, h.len, hR, fun g hg => (by rw [hv] at hg; cases hg), hL⟩⟩
  | some g =>
    obtain ⟨hg8, hgw⟩ := h.col g hv
    refine ⟨put own8 g 7, hS.recolor 7 hg8, ⟨fun k hk => by rw [put_other _ _ _ _ (by omega)]; exact hE.same k hk, hE.kept⟩, hops _, .inr ⟨hc, vs, h.len, hR, fun k hk => by rw [hv] at hk; cases hk; exact put_same _ _ _, fun q hq => ?_⟩⟩
    refine SeqLie.col (fun k _ e => ?_) dk _ _ (hL q hq)
    rw [put_other _ _ _ _ (fun h => by rw [h, hg8] at e; cases e)]; exact e

set_option maxRecDepth 100000 in
set_option maxHeartbeats 1600000 in
theorem brackets_p {b n dk : Nat} {seq : Rd → Rd × List PPart} (kq : KeepsP n seq) (hq : SeqC b n dk seq) {own : Nat → Nat} {w : World} {m : RM} {σ : Rd} (h : RSt own w b m σ) (hpre : Pre2 (n + 1) σ) (hm : σ.now.is tOpen = true) :
    Calls Tryz.prog 202 #[.pointer (some ⟨b, 0, none⟩)] w fun e w' => ∃ v, e = .returned v ∧ PartPost own w b dk (bracketsP seq σ) v w' := by
  have hbw := h.blk.lt
  have h2 := hpre.good.is (by simp [KW]) hm
  have pe : Pre2 n σ.enter := ⟨hpre.good.tail h2, by rw [enter_len]; have := hpre.le; omega, by rw [enter_len]; have := hpre.deep; show σ.deep + 1 + _ ≤ _; omega⟩
  have ka := kq _ pe.good pe.le
  have p1 := pe.ok ka
  have kx := expect_ok p1.good (ts := [tBar]) (by simp [KW])
  have p2 := p1.ok kx.ok2
  have kb := kq _ p2.good p2.le
  have p3 := p2.ok kb
  obtain ⟨out, HO⟩ : ∃ out, Hid (barL seq (seq ((seq σ.enter).1.expect [tBar])).1.ahead.length (seq ((seq σ.enter).1.expect [tBar])).1 [(seq σ.enter).2, (seq ((seq σ.enter).1.expect [tBar])).2] = out) := ⟨_, rfl⟩
  have Hout : Hid (Ok2 (seq ((seq σ.enter).1.expect [tBar])).1 out.1) := by
    have := barL_ok kq (seq ((seq σ.enter).1.expect [tBar])).1.ahead.length (seq ((seq σ.enter).1.expect [tBar])).1 [(seq σ.enter).2, (seq ((seq σ.enter).1.expect [tBar])).2] p3.good p3.le
    rw [HO.out] at this; exact this
  have po := p3.ok Hout.out
  have ko := expect_ok po.good (ts := [tClose]) (by simp [KW])
  have Hd : Hid (1 ≤ (out.1.expect [tClose]).deep ∧ (out.1.expect [tClose]).deep ≤ 1000000 ∧ σ.deep ≤ 1000000) := by
    have d1 := ko.deep; have d2 := Hout.out.deep; have d3 := kb.deep; have d4 := kx.deep; have d5 := ka.deep
    have d6 : σ.enter.deep = σ.deep + 1 := rfl
    have := hpre.deep
    exact ⟨by omega, by omega, by omega⟩
  rw [bracketsP_def, HO.out]
  obtain ⟨fuel, HF⟩ : ∃ fuel, Hid ((seq ((seq σ.enter).1.expect [tBar])).1.ahead.length = fuel) := ⟨_, rfl⟩
  have HO2 : Hid (barL seq fuel (seq ((seq σ.enter).1.expect [tBar])).1 [(seq σ.enter).2, (seq ((seq σ.enter).1.expect [tBar])).2] = out) := by have := HO.out; rw [HF.out] at this; exact this
  obtain ⟨i0, hi0, hz0, hz1, hz2⟩ := info_parts Tryz.infoSeq
  clear hm HO ka kx kb
  go_enter Tryz.func202, Tryz.ntmps202
  go_wp2_with (first
    | (go_at_call 225; obtain ⟨hs0, he0⟩ := h.texts (.cells zeroPart 189); have hb0 := Blk.new w zeroPart 189; have ho0 := put_same own w.heap.size 8; refine (enter_p hs0 h2 Hd.out.2.2).mono ?_; rintro e w1 ⟨rfl, own1, m1, hs1, he1⟩; have hb1 := he1.blk8 ho0 hb0; have ho1 := (he1.same _ hb0.lt).trans ho0)
    | (go_at_call 132; refine (hq own3 w3 m3 _ hbr3.st p2).mono ?_; rintro e w4 ⟨v2, rfl, own4, m4, hs4, he4, hl4⟩; obtain ⟨vp2, vn2, vc2, rfl⟩ := hl4.form; have hbr4 := hbr3.next hs4 he4)
    | (go_at_call 132; refine (hq own1 w1 m1 _ hs1 pe).mono ?_; rintro e w2 ⟨v1, rfl, own2, m2, hs2, he2, hl2⟩; obtain ⟨vp, vn, vc, rfl⟩ := hl2.form; have hbr2 := BR.first hs2 ((he0.trans he1).trans he2) hl2 (he2.blk8 ho1 hb1) ((he2.same _ hb1.lt).trans ho1))
    | (go_at_call 130; have hex := expect_new hbr2.st p1.good [tBar] (by simp [KW]) (by simp) 1 rfl; rw [alloc_size] at hex; refine hex.mono ?_; rintro e w3 ⟨rfl, own3, m3, hs3, he3⟩; have hbr3 := hbr2.next hs3 he3)
    | (at_builtin; refine wpList_append_lies _ rfl (.tmp 12) (.tmp 15) 187 rfl 0 99 i0 _ 1 24 Tryz.underlying187 hi0 hz0 hz1 hz2 rfl (by decide) _ 1 [.slice vp vn vc] (by rfl) (hbr4.row.alloc _) ⟨w4.heap.size, 0, none⟩ 1 1 [.slice vp2 vn2 vc2] (by rfl) rfl (World.news_of_block (alloc_at _ _ _ (by simp))) (by simp [Value.oneCell']) (by decide) (by unfold maxLen; omega) (by omega) (Nat.zero_le _) (w4.heap.size + 1) (by simp) ?_; intro g cap w5 hown hgrow hat hlt))
  have hsz : w.heap.size + 1 ≤ w2.heap.size := by
    have a := he1.size; have c := he2.size; rw [alloc_size] at a; omega
  have hNv : (Value.slice (some ⟨w2.heap.size, 0, none⟩) 1 1).ownBlock ≠ some w.heap.size := fun e => by
    simp only [Value.ownBlock, Option.some.injEq] at e; omega
  obtain ⟨hbr5, hne5⟩ := hbr4.app hl4 hNv hown hgrow (by simpa using hat) (Nat.le_refl _)
  have hS0 : BL seq n dk w.heap.size out own w b fuel (.slice (some ⟨g, 0, none⟩) (1 + 1) cap) w5 := ⟨_, _, _, _, _, hbr5, hne5, HO2, Nat.le_of_eq HF.out, p3, by have := p3.deep; show 2 + _ ≤ _; omega, by simp⟩
  clear hbr5 hne5 hNv hsz hown hgrow hat hlt hbr4 hl4 hs4 he4 hbr3 hs3 he3 hbr2 hl2 hs2 he2 hs1 he1 hb1 ho1 he0 hs0 hb0 ho0 HO2 HF
  go_loopg [3] fuel (fun k v wr => BL seq n dk w.heap.size out own w b k v wr)
  case atStart => exact hS0
  case round =>
    obtain ⟨own', m', σ', c, vs, hbr, hNe, HE, hfu, hpr, hbd, hc0⟩ := hrel
    clear hS0
    obtain ⟨up, un, uc, rfl⟩ := row_form hbr.row
    cases hh : σ'.has [tBar] with
    | false =>
      have HV : Hid (σ'.which [tBar] = σ' ∧ (σ', c) = out) := ⟨by unfold Rd.which; rw [if_neg (by simp [hh])], (barL_stop hh).symm.trans HE.out⟩
      have htk := take_new hbr.st hpr.good [tBar] (by simp [KW]) (by simp) 1 rfl
      rw [HV.out.1, hh] at htk
      have E1 : Hid (out.1 = σ' ∧ out.2 = c) := ⟨by rw [← HV.out.2], by rw [← HV.out.2]⟩
      rw [E1.out.1] at Hd po
      clear hh HE Hout HV ko
      go_wp2_with (first
        | (go_at_call 168; refine htk.mono ?_; rintro e w6 ⟨rfl, own6, m6, hs6, he6⟩; have hbr6 := hbr.next hs6 he6)
        | (go_at_call 130; refine (expect_new hbr6.st po.good [tClose] (by simp [KW]) (by simp) 1 rfl).mono ?_; rintro e w7 ⟨rfl, own7, m7, hs7, he7⟩; have hbr7 := hbr6.next hs7 he7)
        | (go_at_call 226; refine (leave_p hbr7.st Hd.out.1 Hd.out.2.1).mono ?_; rintro e w8 ⟨rfl, own8, m8, hs8, he8⟩; have hbr8 := hbr7.next hs8 he8; have z0 := hbr8.z.cell 0; have z1 := hbr8.z.cell 1; have z2 := hbr8.z.cell 2; have z3 := hbr8.z.cell 3; have z4 := hbr8.z.cell 4; have z5 := hbr8.z.cell 5; have g0 := hbr8.z.frozen 0; have g1 := hbr8.z.frozen 1; have g2 := hbr8.z.frozen 2; have g3 := hbr8.z.frozen 3; have g4 := hbr8.z.frozen 4; have g5 := hbr8.z.frozen 5; simp [zeroPart] at z0 z1 z2 z3 z4 z5))
      obtain ⟨own9, hS9, hE9, hL9⟩ := br_end hbr8 hNe (Nat.le_refl _) hc0 (.string ⟨#[]⟩) (.int .i64 0) (.int .i64 0) (.int .i64 0) (.slice none 0 0) (.slice up un uc)
      have hB := hbr8.z.six (.string ⟨#[]⟩) (.int .i64 0) (.int .i64 0) (.int .i64 0) (.slice none 0 0) (.slice up un uc)
      have k0 := hB.cell 0; have k1 := hB.cell 1; have k2 := hB.cell 2; have k3 := hB.cell 3; have k4 := hB.cell 4; have k5 := hB.cell 5
      simp at k0 k1 k2 k3 k4 k5
      rw [E1.out.1, E1.out.2]
      exact bodyPost_ret (v := partVal (.mk ⟨#[]⟩ 0 0 0 [] c) (.slice none 0 0) (.slice up un uc)) (by simp [results, Tryz.results202, go_sem, k0, k1, k2, k3, k4, k5, partVal, PPart.name, PPart.place, PPart.times, PPart.kind]) rfl
        ⟨_, rfl, own9, m8, _, _, hS9, hE9, rfl, hL9⟩
    | true =>
      have h2' := hpr.good.has (ts := [tBar]) (by simp [KW]) hh
      obtain ⟨k, rfl⟩ : ∃ k, gk = k + 1 := ⟨gk - 1, by omega⟩
      have ps := hpr.ok (skip_ok hpr.good h2').ok2
      have pn := ps.ok (kq _ ps.good ps.le)
      have HV : Hid (σ'.which [tBar] = σ'.skip ∧ barL seq k (seq σ'.skip).1 (c ++ [(seq σ'.skip).2]) = out) := ⟨by unfold Rd.which; rw [if_pos hh], (barL_more hh).symm.trans HE.out⟩
      have Hlen : Hid ((seq σ'.skip).1.ahead.length + 1 ≤ σ'.ahead.length) := by
        have a := (kq _ ps.good ps.le).le; rw [skip_len] at a; show _ ≤ _; omega
      have htk := take_new hbr.st hpr.good [tBar] (by simp [KW]) (by simp) 1 rfl
      rw [HV.out.1, hh] at htk
      clear hh HE
      go_wp2_with (first
        | (go_at_call 168; refine htk.mono ?_; rintro e w6 ⟨rfl, own6, m6, hs6, he6⟩; have hbr6 := hbr.next hs6 he6)
        | (go_at_call 132; refine (hq own6 w6 m6 _ hs6 ps).mono ?_; rintro e w7 ⟨v3, rfl, own7, m7, hs7, he7, hl7⟩; obtain ⟨xp, xn, xc, rfl⟩ := hl7.form; have hbr7 := hbr6.next hs7 he7)
        | (at_builtin; refine wpList_append_lies _ rfl (.tmp 20) (.tmp 23) 187 rfl 0 99 i0 _ 1 24 Tryz.underlying187 hi0 hz0 hz1 hz2 rfl (by decide) _ c.length vs (by rfl) (hbr7.row.alloc _) ⟨w7.heap.size, 0, none⟩ 1 1 [.slice xp xn xc] (by rfl) rfl (World.news_of_block (alloc_at _ _ _ (by simp))) (by simp [Value.oneCell']) (by decide) (by unfold maxLen; omega) (by omega) (Nat.zero_le _) (w7.heap.size + 1) (by simp) ?_; intro g' cap' w8 hown hgrow hat hlt))
      obtain ⟨hbr8, hne8⟩ := hbr7.app hl7 hNe hown hgrow (by simpa using hat) (Nat.le_refl _)
      go_roundg k
      case measure => omega
      case rel => exact ⟨_, _, _, _, _, hbr8, hne8, HV.out.2, by have := Hlen.out; omega, pn, by have := Hlen.out; simp; omega, by simp⟩
end Go.Proofs.YtddbjcfdmdbmkaaGreatDoor

namespace Go.Proofs.YtddbjcfdmdbmkaaGreatDoor
open Go.RowKit

theorem part_end {k N : Nat} {own own1 : Nat → Nat} {w w1 : World} {b : Nat} {m1 : RM} {r : Rd × PPart} {cv hv : Value} (hs1 : RSt own1 w1 b m1 r.1) (hE : Ext own w own1 w1) (hl : PartLie own1 w1 k r.2 cv hv) (oz : own1 N = 8) (hN : w.heap.size ≤ N) (v0 v1 v2 v3 v4 v5 : Value) :
    PartPost own w b k r (partVal r.2 cv hv) ((((((w1.setCell ⟨N, 0, none⟩ v0).setCell ⟨N, 1, none⟩ v1).setCell ⟨N, 2, none⟩ v2).setCell ⟨N, 3, none⟩ v3).setCell ⟨N, 4, none⟩ v4).setCell ⟨N, 5, none⟩ v5) :=
  ⟨own1, m1, cv, hv, hs1.six oz v0 v1 v2 v3 v4 v5, hE.six hN v0 v1 v2 v3 v4 v5, rfl, move7 (own' := own1) (grownBy_six w1 N v0 v1 v2 v3 v4 v5) (fun k e => by cases e; exact oz) (fun _ _ _ => rfl) hl⟩

set_option maxRecDepth 100000 in
set_option maxHeartbeats 800000 in
theorem part_step {b n k : Nat} {own : Nat → Nat} {w : World} {m : RM} {σ : Rd} (h : RSt own w b m σ) (hpre : Pre2 (n + 1) σ) (hk : σ.now.kind = 3)
    (hc : ∀ (own : Nat → Nat) (w : World) (m : RM), RSt own w b m σ → Calls Tryz.prog 200 #[.pointer (some ⟨b, 0, none⟩)] w fun e w' => ∃ v, e = .returned v ∧ PartPost own w b k (stepP n σ) v w') :
    Calls Tryz.prog 167 #[.pointer (some ⟨b, 0, none⟩)] w fun e w' => ∃ v, e = .returned v ∧ PartPost own w b k (stepP n σ) v w' := by
  have hbw := h.blk.lt
  have hk' : ((σ.now.kind : Int) == 3) = true := by simp [hk]
  clear hk
  generalize stepP n σ = r at *
  go_enter Tryz.func167, Tryz.ntmps167
  go_wp2_with (first
    | (go_at_call 83; refine (now_p (h.alloc _) hpre.good.pos).mono ?_; rintro e w' ⟨rfl, o, rfl⟩)
    | (go_at_call 200; obtain ⟨hs0, he0⟩ := h.box3 (.cells zeroPart 189) o (.cells (tokCells σ.now) 141); have hb0 := box3_0 w zeroPart 189 o (.cells (tokCells σ.now) 141); have ho0 := ownBox_0 own w.heap.size; refine (hc _ _ _ hs0).mono ?_; rintro e w1 ⟨v, rfl, own1, m1, cv, hv, hs1, he1, rfl, hl1⟩; obtain ⟨cp, cn, cc, rfl⟩ := row_form hl1.1.1; obtain ⟨hp1, hn1, hc1, rfl⟩ := hl1.2.form; have hb1 := he1.blk8 ho0 hb0; have ho1 := (he1.same _ hb0.lt).trans ho0; have z0 := hb1.cell 0; have z1 := hb1.cell 1; have z2 := hb1.cell 2; have z3 := hb1.cell 3; have z4 := hb1.cell 4; have z5 := hb1.cell 5; have g0 := hb1.frozen 0; have g1 := hb1.frozen 1; have g2 := hb1.frozen 2; have g3 := hb1.frozen 3; have g4 := hb1.frozen 4; have g5 := hb1.frozen 5; simp [zeroPart] at z0 z1 z2 z3 z4 z5; simp only [partVal]))
  have hB := hb1.six (.string r.2.name) (.int .i64 r.2.place) (.int .i64 r.2.times) (.int .i64 r.2.kind) (.slice cp cn cc) (.slice hp1 hn1 hc1)
  have k0 := hB.cell 0; have k1 := hB.cell 1; have k2 := hB.cell 2; have k3 := hB.cell 3; have k4 := hB.cell 4; have k5 := hB.cell 5
  simp at k0 k1 k2 k3 k4 k5
  exact bodyPost_ret (v := partVal r.2 (.slice cp cn cc) (.slice hp1 hn1 hc1)) (by simp [results, Tryz.results167, go_sem, k0, k1, k2, k3, k4, k5, partVal]) rfl
    ⟨_, rfl, part_end hs1 (he0.trans he1) hl1 ho1 (Nat.le_refl _) _ _ _ _ _ _⟩

set_option maxRecDepth 100000 in
set_option maxHeartbeats 800000 in
theorem part_guard {b n k : Nat} {own : Nat → Nat} {w : World} {m : RM} {σ : Rd} (h : RSt own w b m σ) (hpre : Pre2 (n + 1) σ) (hk : ¬ σ.now.kind = 3) (hn : σ.now.is tNot = true)
    (hc : ∀ (own : Nat → Nat) (w : World) (m : RM), RSt own w b m σ → Calls Tryz.prog 201 #[.pointer (some ⟨b, 0, none⟩)] w fun e w' => ∃ v, e = .returned v ∧ PartPost own w b k (guardP n σ) v w') :
    Calls Tryz.prog 167 #[.pointer (some ⟨b, 0, none⟩)] w fun e w' => ∃ v, e = .returned v ∧ PartPost own w b k (guardP n σ) v w' := by
  have hbw := h.blk.lt
  have hk' : ((σ.now.kind : Int) == 3) = false := by rw [beq_eq_false_iff_ne]; omega
  have hn' : (σ.now.text.toList == [110, 111, 116]) = true := (is_eq _ _).symm.trans hn
  clear hk hn
  generalize guardP n σ = r at *
  go_enter Tryz.func167, Tryz.ntmps167
  go_wp2_with (first
    | (go_at_call 83; refine (now_p (h.alloc _) hpre.good.pos).mono ?_; rintro e w' ⟨rfl, o, rfl⟩)
    | (go_at_call 201; obtain ⟨hs0, he0⟩ := h.box3 (.cells zeroPart 189) o (.cells (tokCells σ.now) 141); have hb0 := box3_0 w zeroPart 189 o (.cells (tokCells σ.now) 141); have ho0 := ownBox_0 own w.heap.size; refine (hc _ _ _ hs0).mono ?_; rintro e w1 ⟨v, rfl, own1, m1, cv, hv, hs1, he1, rfl, hl1⟩; obtain ⟨cp, cn, cc, rfl⟩ := row_form hl1.1.1; obtain ⟨hp1, hn1, hc1, rfl⟩ := hl1.2.form; have hb1 := he1.blk8 ho0 hb0; have ho1 := (he1.same _ hb0.lt).trans ho0; have z0 := hb1.cell 0; have z1 := hb1.cell 1; have z2 := hb1.cell 2; have z3 := hb1.cell 3; have z4 := hb1.cell 4; have z5 := hb1.cell 5; have g0 := hb1.frozen 0; have g1 := hb1.frozen 1; have g2 := hb1.frozen 2; have g3 := hb1.frozen 3; have g4 := hb1.frozen 4; have g5 := hb1.frozen 5; simp [zeroPart] at z0 z1 z2 z3 z4 z5; simp only [partVal]))
  have hB := hb1.six (.string r.2.name) (.int .i64 r.2.place) (.int .i64 r.2.times) (.int .i64 r.2.kind) (.slice cp cn cc) (.slice hp1 hn1 hc1)
  have k0 := hB.cell 0; have k1 := hB.cell 1; have k2 := hB.cell 2; have k3 := hB.cell 3; have k4 := hB.cell 4; have k5 := hB.cell 5
  simp at k0 k1 k2 k3 k4 k5
  exact bodyPost_ret (v := partVal r.2 (.slice cp cn cc) (.slice hp1 hn1 hc1)) (by simp [results, Tryz.results167, go_sem, k0, k1, k2, k3, k4, k5, partVal]) rfl
    ⟨_, rfl, part_end hs1 (he0.trans he1) hl1 ho1 (Nat.le_refl _) _ _ _ _ _ _⟩

set_option maxRecDepth 100000 in
set_option maxHeartbeats 800000 in
theorem part_brk {b n k : Nat} {own : Nat → Nat} {w : World} {m : RM} {σ : Rd} (h : RSt own w b m σ) (hpre : Pre2 (n + 1) σ) (hk : ¬ σ.now.kind = 3) (hn : σ.now.is tNot = false) (hm : σ.now.is tOpen = true) {seq : Rd → Rd × List PPart}
    (hc : ∀ (own : Nat → Nat) (w : World) (m : RM), RSt own w b m σ → Calls Tryz.prog 202 #[.pointer (some ⟨b, 0, none⟩)] w fun e w' => ∃ v, e = .returned v ∧ PartPost own w b k (bracketsP seq σ) v w') :
    Calls Tryz.prog 167 #[.pointer (some ⟨b, 0, none⟩)] w fun e w' => ∃ v, e = .returned v ∧ PartPost own w b k (bracketsP seq σ) v w' := by
  have hbw := h.blk.lt
  have hk' : ((σ.now.kind : Int) == 3) = false := by rw [beq_eq_false_iff_ne]; omega
  have hn' : (σ.now.text.toList == [110, 111, 116]) = false := (is_eq _ _).symm.trans hn
  have hm' : (σ.now.text.toList == [40]) = true := (is_eq _ _).symm.trans hm
  clear hk hn hm
  generalize bracketsP seq σ = r at *
  go_enter Tryz.func167, Tryz.ntmps167
  go_wp2_with (first
    | (go_at_call 83; refine (now_p (h.alloc _) hpre.good.pos).mono ?_; rintro e w' ⟨rfl, o, rfl⟩)
    | (go_at_call 202; obtain ⟨hs0, he0⟩ := h.box3 (.cells zeroPart 189) o (.cells (tokCells σ.now) 141); have hb0 := box3_0 w zeroPart 189 o (.cells (tokCells σ.now) 141); have ho0 := ownBox_0 own w.heap.size; refine (hc _ _ _ hs0).mono ?_; rintro e w1 ⟨v, rfl, own1, m1, cv, hv, hs1, he1, rfl, hl1⟩; obtain ⟨cp, cn, cc, rfl⟩ := row_form hl1.1.1; obtain ⟨hp1, hn1, hc1, rfl⟩ := hl1.2.form; have hb1 := he1.blk8 ho0 hb0; have ho1 := (he1.same _ hb0.lt).trans ho0; have z0 := hb1.cell 0; have z1 := hb1.cell 1; have z2 := hb1.cell 2; have z3 := hb1.cell 3; have z4 := hb1.cell 4; have z5 := hb1.cell 5; have g0 := hb1.frozen 0; have g1 := hb1.frozen 1; have g2 := hb1.frozen 2; have g3 := hb1.frozen 3; have g4 := hb1.frozen 4; have g5 := hb1.frozen 5; simp [zeroPart] at z0 z1 z2 z3 z4 z5; simp only [partVal]))
  have hB := hb1.six (.string r.2.name) (.int .i64 r.2.place) (.int .i64 r.2.times) (.int .i64 r.2.kind) (.slice cp cn cc) (.slice hp1 hn1 hc1)
  have k0 := hB.cell 0; have k1 := hB.cell 1; have k2 := hB.cell 2; have k3 := hB.cell 3; have k4 := hB.cell 4; have k5 := hB.cell 5
  simp at k0 k1 k2 k3 k4 k5
  exact bodyPost_ret (v := partVal r.2 (.slice cp cn cc) (.slice hp1 hn1 hc1)) (by simp [results, Tryz.results167, go_sem, k0, k1, k2, k3, k4, k5, partVal]) rfl
    ⟨_, rfl, part_end hs1 (he0.trans he1) hl1 ho1 (Nat.le_refl _) _ _ _ _ _ _⟩

set_option maxRecDepth 100000 in
set_option maxHeartbeats 800000 in
theorem part_bad {b n k : Nat} {own : Nat → Nat} {w : World} {m : RM} {σ : Rd} (h : RSt own w b m σ) (hpre : Pre2 (n + 1) σ) (hk : ¬ σ.now.kind = 3) (hn : σ.now.is tNot = false) (hm : σ.now.is tOpen = false) :
    Calls Tryz.prog 167 #[.pointer (some ⟨b, 0, none⟩)] w fun e w' => ∃ v, e = .returned v ∧ PartPost own w b k (σ.fail, default) v w' := by
  have hbw := h.blk.lt
  have hk' : ((σ.now.kind : Int) == 3) = false := by rw [beq_eq_false_iff_ne]; omega
  have hn' : (σ.now.text.toList == [110, 111, 116]) = false := (is_eq _ _).symm.trans hn
  have hm' : (σ.now.text.toList == [40]) = false := (is_eq _ _).symm.trans hm
  have HD : Hid ((default : PPart) = .mk ⟨#[]⟩ 0 0 0 [] []) := rfl
  clear hk hn hm
  go_enter Tryz.func167, Tryz.ntmps167
  go_wp2_with (first
    | (go_at_call 83; refine (now_p (h.alloc _) hpre.good.pos).mono ?_; rintro e w' ⟨rfl, o, rfl⟩)
    | (go_at_call 163; obtain ⟨hs0, he0⟩ := h.box3 (.cells zeroPart 189) o (.cells (tokCells σ.now) 141); have hb0 := box3_0 w zeroPart 189 o (.cells (tokCells σ.now) 141); have ho0 := ownBox_0 own w.heap.size; refine (fail_p hs0 hpre.good.pos).mono ?_; rintro e w1 ⟨rfl, own1, m1, hs1, he1⟩; have hb1 := he1.blk8 ho0 hb0; have ho1 := (he1.same _ hb0.lt).trans ho0; have z0 := hb1.cell 0; have z1 := hb1.cell 1; have z2 := hb1.cell 2; have z3 := hb1.cell 3; have z4 := hb1.cell 4; have z5 := hb1.cell 5; have g0 := hb1.frozen 0; have g1 := hb1.frozen 1; have g2 := hb1.frozen 2; have g3 := hb1.frozen 3; have g4 := hb1.frozen 4; have g5 := hb1.frozen 5; simp [zeroPart] at z0 z1 z2 z3 z4 z5))
  have hB := hb1.six (.string ⟨#[]⟩) (.int .i64 0) (.int .i64 0) (.int .i64 0) (.slice none 0 0) (.slice none 0 0)
  have k0 := hB.cell 0; have k1 := hB.cell 1; have k2 := hB.cell 2; have k3 := hB.cell 3; have k4 := hB.cell 4; have k5 := hB.cell 5
  simp at k0 k1 k2 k3 k4 k5
  rw [HD.out]
  have hl : PartLie own1 w1 k (.mk ⟨#[]⟩ 0 0 0 [] []) (.slice none 0 0) (.slice none 0 0) := ⟨⟨World.ownsRow_nil _ _ _ _, fun g hg => by simp [Value.ownBlock] at hg⟩, .inl ⟨rfl, rfl⟩⟩
  exact bodyPost_ret (v := partVal (.mk ⟨#[]⟩ 0 0 0 [] []) (.slice none 0 0) (.slice none 0 0)) (by simp [results, Tryz.results167, go_sem, k0, k1, k2, k3, k4, k5, partVal, PPart.name, PPart.place, PPart.times, PPart.kind]) rfl
    ⟨_, rfl, part_end (r := (σ.fail, .mk ⟨#[]⟩ 0 0 0 [] [])) hs1 (he0.trans he1) hl ho1 (Nat.le_refl _) _ _ _ _ _ _⟩

theorem part_p (b : Nat) : ∀ n, PartC b n n (partP n) := by
  intro n
  induction n with
  | zero => intro own w m σ h hpre; have := hpre.good.pos; have := hpre.le; omega
  | succ n ih =>
    intro own w m σ h hpre
    by_cases hk : σ.now.kind = 3
    · have e : partP (n + 1) σ = stepP n σ := by rw [partP, if_pos hk]
      rw [e]
      refine part_step h hpre hk (fun own w m h => ?_)
      cases ht : ((σ.skip.expect [tColon]).num 0 99).has [tTimes] with
      | true => exact step_yes h hpre hk ht
      | false => exact step_no h hpre hk ht
    cases hn : σ.now.is tNot with
    | true =>
      have e : partP (n + 1) σ = guardP n σ := by rw [partP, if_neg hk, if_pos hn]
      rw [e]; exact part_guard h hpre hk hn (fun own w m h => guard_p h hpre hn)
    | false =>
    cases hm : σ.now.is tOpen with
    | true =>
      have e : partP (n + 1) σ = bracketsP (seqP (partP n)) σ := by rw [partP, if_neg hk, if_neg (by simp [hn]), if_pos hm]
      rw [e]; exact part_brk h hpre hk hn hm (fun own w m h => brackets_p (seqP_ok (partP_ok n)) (seq_p (partP_ok n) ih) h hpre hm)
    | false =>
      have e : partP (n + 1) σ = (σ.fail, default) := by rw [partP, if_neg hk, if_neg (by simp [hn]), if_neg (by simp [hm])]
      rw [e]; exact part_bad h hpre hk hn hm
end Go.Proofs.YtddbjcfdmdbmkaaGreatDoor

namespace Go.Proofs.YtddbjcfdmdbmkaaGreatDoor
open Go.RowKit

def zeroPat : Array Value := #[.int .i64 0, .int .i64 0, .slice none 0 0]
theorem Blk.three {w : World} {N : Nat} (h : Blk w N zeroPat 101) (v0 v1 v2 : Value) :
    Blk (((w.setCell ⟨N, 0, none⟩ v0).setCell ⟨N, 1, none⟩ v1).setCell ⟨N, 2, none⟩ v2) N #[v0, v1, v2] 101 := by
  have := ((h.set 0 v0).set 1 v1).set 2 v2
  simpa [zeroPat] using this
theorem grownBy_three (w : World) (N : Nat) (v0 v1 v2 : Value) : w.grownBy (((w.setCell ⟨N, 0, none⟩ v0).setCell ⟨N, 1, none⟩ v1).setCell ⟨N, 2, none⟩ v2) (some N) :=
  grownBy_trans (grownBy_trans (grownBy_setCell w ⟨N, 0, none⟩ v0) (grownBy_setCell _ ⟨N, 1, none⟩ v1)) (grownBy_setCell _ ⟨N, 2, none⟩ v2)
def PatPost (own : Nat → Nat) (w : World) (b n : Nat) (r : Rd × PPat) (v : Value) (w' : World) : Prop := ∃ own' m' sv, RSt own' w' b m' r.1 ∧ Ext own w own' w' ∧ v = .agg #[.int .i64 r.2.window, .int .i64 r.2.rate, sv] ∧ SeqLie own' w' n sv r.2.body

theorem patP_def (n : Nat) (σ : Rd) : patP n σ = ((seqP (partP n) ((((σ.expect [tWithin]).num 1 1000000).expect [tRate]).num 1 12)).1, ⟨(σ.expect [tWithin]).numV, (((σ.expect [tWithin]).num 1 1000000).expect [tRate]).numV, (seqP (partP n) ((((σ.expect [tWithin]).num 1 1000000).expect [tRate]).num 1 12)).2⟩) := rfl

set_option maxRecDepth 100000 in
set_option maxHeartbeats 800000 in
theorem pattern_p {b n : Nat} {own : Nat → Nat} {w : World} {m : RM} {σ : Rd} (h : RSt own w b m σ) (hpre : Pre2 n σ) :
    Calls Tryz.prog 82 #[.pointer (some ⟨b, 0, none⟩)] w fun e w' => ∃ v, e = .returned v ∧ PatPost own w b (n + 1) (patP n σ) v w' := by
  have hbw := h.blk.lt
  have p1 := hpre.ok (expect_ok hpre.good (ts := [tWithin]) (by simp [KW])).ok2
  have p2 := p1.ok (num_ok p1.good 1 1000000).ok2
  have p3 := p2.ok (expect_ok p2.good (ts := [tRate]) (by simp [KW])).ok2
  have p4 := p3.ok (num_ok p3.good 1 12).ok2
  have hseq := seq_p (b := b) (partP_ok n) (part_p b n)
  have hn1 := fun own1 w1 m1 (hs1 : RSt own1 w1 b m1 (σ.expect [tWithin])) => number_p hs1 p1.good 1 1000000 (by omega) (by omega)
  have hn2 := fun own1 w1 m1 (hs1 : RSt own1 w1 b m1 (((σ.expect [tWithin]).num 1 1000000).expect [tRate])) => number_p hs1 p3.good 1 12 (by omega) (by omega)
  rw [patP_def]
  generalize (σ.expect [tWithin]).numV = wv at *
  generalize (((σ.expect [tWithin]).num 1 1000000).expect [tRate]).numV = rv at *
  go_enter Tryz.func82, Tryz.ntmps82
  go_wp2_with (first
    | (go_at_call 130; refine (expect_new hs2 p2.good [tRate] (by simp [KW]) (by simp) 1 rfl).mono ?_; rintro e w3 ⟨rfl, own3, m3, hs3, he3⟩)
    | (go_at_call 130; obtain ⟨hs0, he0⟩ := h.texts (.cells zeroPat 101); have hb0 := Blk.new w zeroPat 101; have ho0 := put_same own w.heap.size 8; have hex := expect_new hs0 hpre.good [tWithin] (by simp [KW]) (by simp) 1 rfl; rw [alloc_size] at hex; refine hex.mono ?_; rintro e w1 ⟨rfl, own1, m1, hs1, he1⟩)
    | (go_at_call 131; refine (hn2 own3 w3 m3 hs3).mono ?_; rintro e w4 ⟨rfl, own4, m4, hs4, he4⟩)
    | (go_at_call 131; refine (hn1 own1 w1 m1 hs1).mono ?_; rintro e w2 ⟨rfl, own2, m2, hs2, he2⟩)
    | (go_at_call 132; refine (hseq own4 w4 m4 _ hs4 p4).mono ?_; rintro e w5 ⟨sv, rfl, own5, m5, hs5, he5, hl5⟩; obtain ⟨vp, vn, vc, rfl⟩ := hl5.form; have hE := (((he1.trans he2).trans he3).trans he4).trans he5; have hb5 := hE.blk8 ho0 hb0; have ho5 := (hE.same _ hb0.lt).trans ho0; have z0 := hb5.cell 0; have z1 := hb5.cell 1; have z2 := hb5.cell 2; have g0 := hb5.frozen 0; have g1 := hb5.frozen 1; have g2 := hb5.frozen 2; simp [zeroPat] at z0 z1 z2))
  have hB := hb5.three (.int .i64 wv) (.int .i64 rv) (.slice vp vn vc)
  have k0 := hB.cell 0; have k1 := hB.cell 1; have k2 := hB.cell 2
  simp at k0 k1 k2
  have hgb := grownBy_three w5 w.heap.size (.int .i64 wv) (.int .i64 rv) (.slice vp vn vc)
  refine bodyPost_ret (v := .agg #[.int .i64 wv, .int .i64 rv, .slice vp vn vc]) (by simp [results, Tryz.results82, go_sem, k0, k1, k2]) rfl
    ⟨_, rfl, own5, m5, .slice vp vn vc, ?_, ?_, rfl, ?_⟩
  · exact ((hs5.write8 (p := ⟨w.heap.size, 0, none⟩) ho5 _).write8 (p := ⟨w.heap.size, 1, none⟩) ho5 _).write8 (p := ⟨w.heap.size, 2, none⟩) ho5 _
  · exact (((he0.trans hE).setNew (p := ⟨w.heap.size, 0, none⟩) (Nat.le_refl _) _).setNew (p := ⟨w.heap.size, 1, none⟩) (Nat.le_refl _) _).setNew (p := ⟨w.heap.size, 2, none⟩) (Nat.le_refl _) _
  · exact move7s (own' := own5) hgb (fun k e => by cases e; exact ho5) (fun _ _ _ => rfl) hl5
end Go.Proofs.YtddbjcfdmdbmkaaGreatDoor
