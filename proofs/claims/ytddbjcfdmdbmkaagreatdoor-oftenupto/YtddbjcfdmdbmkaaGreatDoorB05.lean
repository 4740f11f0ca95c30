import Derived.Test.YtddbjcfdmdbmkaaGreatDoorB04
set_option linter.unusedVariables false
set_option linter.unusedSimpArgs false
namespace Go.Proofs.YtddbjcfdmdbmkaaGreatDoor
open Go.RowKit
attribute [local go_sem ↓] Go.wp_at_zero Go.wp_at_succ

theorem Tryz.infoNode : (Tryz.prog.info? 248).map (fun i => (i.zero, i.size, i.bytes)) = some (some (.agg #[.string ⟨#[]⟩, .int .i64 0, .int .i64 0, .int .i64 0, .string ⟨#[]⟩, .string ⟨#[]⟩, .int .i64 0]), 7, 80) := by kernel_rfl

set_option maxRecDepth 100000 in
set_option maxHeartbeats 800000 in
theorem node_any {own : Nat → Nat} {w : World} {b : Nat} {m : PM} {σ : PSt} (h : St own w b m σ) (op : ByteArray) (a c n : Int) (name field : ByteArray) (pos : Int) (b1 : σ.nodes.length ≤ 100000) :
    Calls Tryz.prog 206 #[.pointer (some ⟨b, 0, none⟩), .agg #[.string op, .int .i64 a, .int .i64 c, .int .i64 n, .string name, .string field, .int .i64 pos]] w fun e w' => e = .returned (.int .i64 σ.nodes.length) ∧
      After own w b { σ with nodes := σ.nodes ++ [⟨op, a, c, n, name, field, pos⟩] } w' := by
  have hbw := h.blk.lt
  have hc8 := h.cell 8
  simp [PCells] at hc8
  have hfb := h.blk.frozen 8
  obtain ⟨i0, hi0, hz0, hz1, hz2⟩ := info_parts Tryz.infoNode
  go_enter Tryz.func206, Tryz.ntmps206
  go_wp2
  go_region_law ((refine step_append_lies _ (by rfl) _ _ 120 (by rfl) 0 248 i0 _ 7 80 Tryz.underlying120 hi0 hz0 hz1 hz2 rfl (by decide) m.dv σ.nodes.length (flat RNode.cells σ.nodes) (by rfl) (((h.alloc _).alloc _).drew.nodes) ⟨w.heap.size + 1, 0, none⟩ 1 1 (RNode.cells ⟨op, a, c, n, name, field, pos⟩) (by rfl) rfl (World.news_of_block (alloc_at _ _ _ (by simp))) (by simp [RNode.cells, Value.oneCell']) (by decide) (by unfold maxLen; omega) (by omega) (Nat.zero_le _) (w.heap.size + 2) (by simp) ?_; intro g cap w1 hown hgrow hat hlt1; have kb := ((h.alloc _).alloc _).drew.far hgrow h.od (by decide); have q8 := kb.cell 8; have qf := kb.frozen 8; simp [PCells] at q8))
  all_goals
    obtain ⟨hS2, hE2⟩ := ((h.alloc _).alloc _).drew.app_nodes ⟨op, a, c, n, name, field, pos⟩ hown hgrow (by simpa using hat)
    have hE := ((((Ext.refl own w).alloc _).alloc _).drew).trans hE2
    clear hE2 hown hgrow hat kb
    go_wp2
    go_ret
    exact ⟨ret_int (by omega), _, _, hS2, hE⟩

def resv : List ByteArray := [⟨#[119, 105, 116, 104, 105, 110]⟩, ⟨#[114, 97, 116, 101]⟩, ⟨#[116, 104, 101, 110]⟩, ⟨#[110, 111, 116]⟩, ⟨#[105, 102]⟩, ⟨#[116, 105, 109, 101, 115]⟩, ⟨#[97, 110, 100]⟩, ⟨#[111, 114]⟩, ⟨#[105, 116]⟩]
def resvAt (k : Nat) : ByteArray := resv.getD k ByteArray.empty
def RTok.isName (t : RTok) : Bool := t.kind == 0 && decide (t.s.size ≤ 8) && resv.all fun r => !(t.s.toList == r.toList)
def okAt (t : RTok) (wr : Int) (k : Nat) : Bool := (t.kind == 0 && decide (t.s.size ≤ 8) && decide (wr < 0)) && (resv.take k).all fun r => !(t.s.toList == r.toList)
def PSt.isName (σ : PSt) : Bool := σ.now.isName && decide (σ.wrong < 0)
theorem okAt_nine (t : RTok) (wr : Int) : okAt t wr 9 = (t.isName && decide (wr < 0)) := by
  unfold okAt RTok.isName
  rw [show resv.take 9 = resv from rfl]
  cases (t.kind == 0) <;> cases decide (t.s.size ≤ 8) <;> cases decide (wr < 0) <;> simp
theorem okAt_succ (t : RTok) (wr : Int) (k : Nat) (h : k < 9) : okAt t wr (k + 1) = (okAt t wr k && !(t.s.toList == (resvAt k).toList)) := by
  unfold okAt resvAt
  have hg : resv.getD k ByteArray.empty = resv[k]'(show k < resv.length from h) := by simp [List.getD, show k < resv.length from h]
  rw [List.take_succ_eq_append_getElem (show k < resv.length from h), List.all_append, hg]
  simp [Bool.and_assoc]
def resvCells : Array Value := #[.string ⟨#[119, 105, 116, 104, 105, 110]⟩, .string ⟨#[114, 97, 116, 101]⟩, .string ⟨#[116, 104, 101, 110]⟩, .string ⟨#[110, 111, 116]⟩, .string ⟨#[105, 102]⟩, .string ⟨#[116, 105, 109, 101, 115]⟩, .string ⟨#[97, 110, 100]⟩, .string ⟨#[111, 114]⟩, .string ⟨#[105, 116]⟩]
theorem resvCells_at (k : Nat) (h : k < 9) : resvCells[k]? = some (.string (resvAt k)) := by
  match k, h with
  | 0, _ => rfl
  | 1, _ => rfl
  | 2, _ => rfl
  | 3, _ => rfl
  | 4, _ => rfl
  | 5, _ => rfl
  | 6, _ => rfl
  | 7, _ => rfl
  | 8, _ => rfl

def PSt.nameV (σ : PSt) : ByteArray := if σ.isName then σ.now.s else ⟨#[]⟩
def PSt.nam (σ : PSt) : PSt := if σ.isName then { σ with i := σ.i + 1 } else σ.bad

structure NInv (own : Nat → Nat) (w : World) (b : Nat) (m : PM) (σ : PSt) (wr : World) : Prop where
  st : St own wr b m σ
  s : wr.cell? ⟨w.heap.size + 1, 1, none⟩ = some (.string σ.now.s)
  l : Blk wr (w.heap.size + 1 + 1) resvCells 9
  e : Ext own w own wr
theorem grownBy_drewN (w : World) (n : Nat) (row : Option Nat) : w.grownBy (w.drewN n) row := ⟨rfl, rfl, rfl, Nat.le_refl _, fun _ _ _ => rfl⟩
theorem St.drewN {own : Nat → Nat} {w : World} {b : Nat} {m : PM} {σ : PSt} (h : St own w b m σ) (n : Nat) : St own (w.drewN n) b m σ := h.grow (grownBy_drewN w n none)
theorem Ext.drewN {a b : Nat → Nat} {w w' : World} (h : Ext a w b w') (n : Nat) : Ext a w b (w'.drewN n) := ⟨h.same, h.kept.os, h.kept.tape, h.kept.output, h.kept.size, h.kept.block⟩
theorem NInv.drewN {own : Nat → Nat} {w : World} {b : Nat} {m : PM} {σ : PSt} {wr : World} (h : NInv own w b m σ wr) (n : Nat) : NInv own w b m σ (wr.drewN n) := ⟨h.st.drewN n, h.s, h.l, h.e.drewN n⟩

set_option maxRecDepth 100000 in
set_option maxHeartbeats 800000 in
theorem name_any {own : Nat → Nat} {w : World} {b : Nat} {m : PM} {σ : PSt} (h : St own w b m σ) (hv : Inv σ) (hsz : σ.now.s.size ≤ maxLen) :
    Calls Tryz.prog 176 #[.pointer (some ⟨b, 0, none⟩)] w fun e w' => e = .returned (.string σ.nameV) ∧ St own w' b m σ.nam ∧ Ext own w own w' := by
  have hW := h.cell 2
  simp [PCells] at hW
  have hlt := h.blk.lt
  have hlt1 : b < w.heap.size + 1 := by omega
  have hlt2 : b < w.heap.size + 1 + 1 := by omega
  have hlt3 : b < w.heap.size + 2 := by omega
  have hnil := hsz
  unfold maxLen at hnil
  go_enter Tryz.func176, Tryz.ntmps176
  go_wp2_with (first
    | (go_at_call 96; refine (now_any h).mono ?_; rintro e w' ⟨rfl, o, rfl⟩))
  all_goals
    go_loopw [5, 6] (fun ok i wr => ∃ k : Nat, k ≤ 9 ∧ i = .int .i64 k ∧ ok = .bool (okAt σ.now σ.wrong k) ∧ NInv own w b m σ wr) (fun _ i _ => 9 - (intOf i).toNat)
    case atStart =>
      refine ⟨0, by omega, rfl, ?_, ⟨(((h.alloc o).alloc _).alloc _).drew, by simp [go_sem], alloc_at _ _ _ (by simp), ((((Ext.refl own w).alloc o).alloc _).alloc _).drew⟩⟩
      first
        | (have hk : σ.now.kind = 0 := by assumption
           have hs8 : (σ.now.s.size : Int) ≤ 8 := by assumption
           have : σ.now.s.size ≤ 8 := by omega
           simp [okAt, hk, this])
        | (have hs8 : 8 < (σ.now.s.size : Int) := by assumption
           have : ¬ σ.now.s.size ≤ 8 := by omega
           simp [okAt, this])
        | (have hk : ¬ σ.now.kind = 0 := by assumption
           simp [okAt, hk])
    case round =>
      obtain ⟨k, hk, rfl, rfl, hI⟩ := hrel
      have hs := hI.s
      by_cases h9 : k < 9
      · have hlc : wr.cell? ⟨w.heap.size + 1 + 1, k, none⟩ = some (.string (resvAt k)) := (hI.l.cell k).trans (resvCells_at k h9)
        have HN : Hid (okAt σ.now σ.wrong (k + 1) = (okAt σ.now σ.wrong k && !(σ.now.s.toList == (resvAt k).toList))) := okAt_succ _ _ _ h9
        have hki : (k : Int) < 9 := by omega
        have hk0 : (0 : Int) ≤ (k : Int) := by omega
        cases hok : okAt σ.now σ.wrong k with
        | true =>
          go_wp2
          go_quiet (fail)
          go_wp2
          go_roundw
          case rel => exact ⟨k + 1, by omega, by go_num, by rw [HN.out, hok]; simp, hI.drewN _⟩
          case measure => simp [intOf]; omega
        | false =>
          go_wp2
          go_quiet (fail)
          go_wp2
          go_roundw
          case rel => exact ⟨k + 1, by omega, by go_num, by rw [HN.out, hok]; rfl, hI.drewN _⟩
          case measure => simp [intOf]; omega
      · have e9 : k = 9 := by omega
        subst e9
        have hf := hI.st.blk.frozen 1
        have hc1 := hI.st.cell 1
        simp [PCells] at hc1
        have hil := h.ilt
        have htl := h.tlen
        have HO : Hid (okAt σ.now σ.wrong 9 = σ.isName) := okAt_nine _ _
        cases hok : okAt σ.now σ.wrong 9 with
        | true =>
          have HNm : Hid (σ.isName = true) := HO.out ▸ hok
          have HNx : Hid (σ.i + 1 < σ.toks.length) := by
            refine hv.next h.ilt ?_
            have := HNm.out
            simp [PSt.isName, RTok.isName] at this
            omega
          go_wp2
          go_ret
          have hE : Ext own w own (wr.setCell ⟨b, 1, none⟩ (.int .i64 (σ.i + 1))) := hI.e.setCell (p := ⟨b, 1, none⟩) h.own7 _
          have hS : St own (wr.setCell ⟨b, 1, none⟩ (.int .i64 (σ.i + 1))) b m { σ with i := σ.i + 1 } := hI.st.store (σ' := { σ with i := σ.i + 1 }) 1 _ (by simp [PCells]) rfl rfl rfl rfl rfl rfl HNx.out h.wlo
          exact ⟨by simp [PSt.nameV, HNm.out], by simp only [PSt.nam, HNm.out]; exact hS, hE⟩
        | false =>
          have HNm : Hid (σ.isName = false) := HO.out ▸ hok
          go_wp2_with (go_at_call 97; refine (bad_any hI.st).mono ?_; rintro e w'' ⟨rfl, hst', hext'⟩)
          go_ret
          exact ⟨by simp [PSt.nameV, HNm.out], by simp only [PSt.nam, HNm.out]; exact hst', hI.e.trans hext'⟩
end Go.Proofs.YtddbjcfdmdbmkaaGreatDoor

namespace Go.Proofs.YtddbjcfdmdbmkaaGreatDoor
open Go.RowKit

inductive Nd where
  | num (n : Int)
  | fld (name field : ByteArray) (pos : Int)
  | bin (op : ByteArray) (a b : Nd)

inductive Rep (nodes : List RNode) : Nat → Nd → Prop
  | num {i : Nat} {x : RNode} : nodes[i]? = some x → x.op.toList = [110] → Rep nodes i (.num x.n)
  | fld {i : Nat} {x : RNode} : nodes[i]? = some x → x.op.toList = [102] → 0 ≤ x.pos → Rep nodes i (.fld x.name x.field x.pos)
  | bin {i a b : Nat} {x : RNode} {s t : Nd} : nodes[i]? = some x → ¬ x.op.toList = [110] → ¬ x.op.toList = [102] → x.a = a → x.b = b → Rep nodes a s → Rep nodes b t → Rep nodes i (.bin x.op s t)

def Nd.unknown (known : List ByteArray) : Nd → Int
  | .num _ => -1
  | .fld name _ pos => if name.toList.isEmpty || known.any (fun k => k.toList == name.toList) then -1 else pos
  | .bin _ a b => if a.unknown known < 0 ∨ (0 ≤ b.unknown known ∧ b.unknown known < a.unknown known) then b.unknown known else a.unknown known

def Strs (own : Nat → Nat) (w : World) (v : Value) (l : List ByteArray) : Prop :=
  w.ownsRow 0 9 1 v l.length (l.map Value.string) ∧ ∀ g, v.ownBlock = some g → 7 ≤ own g

theorem St.node_at {own : Nat → Nat} {w : World} {b : Nat} {m : PM} {σ : PSt} (h : St own w b m σ) {i : Nat} {x : RNode} (hx : σ.nodes[i]? = some x) :
    ∃ g cap, m.dv = .slice (some ⟨g, 0, none⟩) σ.nodes.length cap ∧ i < σ.nodes.length ∧
      w.cell? ⟨g, i * 7, none⟩ = some (.string x.op) ∧ w.cell? ⟨g, i * 7 + 1, none⟩ = some (.int .i64 x.a) ∧ w.cell? ⟨g, i * 7 + 2, none⟩ = some (.int .i64 x.b) ∧ w.cell? ⟨g, i * 7 + 3, none⟩ = some (.int .i64 x.n) ∧
      w.cell? ⟨g, i * 7 + 4, none⟩ = some (.string x.name) ∧ w.cell? ⟨g, i * 7 + 5, none⟩ = some (.string x.field) ∧ w.cell? ⟨g, i * 7 + 6, none⟩ = some (.int .i64 x.pos) := by
  obtain ⟨hi, he⟩ := List.getElem?_eq_some_iff.1 hx
  obtain ⟨g, cap, hv, _, _⟩ := h.nodes.form (by omega)
  have key : ∀ j, j < 7 → ∀ u, (RNode.cells x)[j]? = some u → w.cell? ⟨g, i * 7 + j, none⟩ = some u := by
    intro j hj u hu
    have := h.nodes.cells (g := g) (by rw [hv]; rfl) (i * 7 + j) u (by rw [flat_get RNode.cells 7 (fun _ => rfl) _ _ _ hi hj, he]; exact hu)
    have hadd : (⟨g, 0, none⟩ : Addr).add (i * 7 + j) = ⟨g, i * 7 + j, none⟩ := by unfold Addr.add; split <;> simp_all
    rw [hadd] at this; exact this
  exact ⟨g, cap, hv, hi, key 0 (by decide) _ rfl, key 1 (by decide) _ rfl, key 2 (by decide) _ rfl, key 3 (by decide) _ rfl, key 4 (by decide) _ rfl, key 5 (by decide) _ rfl, key 6 (by decide) _ rfl⟩

set_option maxRecDepth 100000 in
set_option maxHeartbeats 800000 in
theorem names_none (w : World) (b : Nat) (n : Int) (hn : n < 0) (kv : Value) :
    Calls Tryz.prog 98 #[.pointer (some ⟨b, 0, none⟩), .int .i64 n, kv] w fun e w' => e = .returned (.int .i64 (-1)) ∧ w' = w := by
  go_enter Tryz.func98, Tryz.ntmps98
  go_wp2_with fail
  go_ret
  exact ⟨rfl, rfl⟩

def AfterM (own : Nat → Nat) (w : World) (b : Nat) (m : PM) (σ : PSt) (w' : World) : Prop := ∃ own', St own' w' b m σ ∧ Ext own w own' w'

def NamesC (known : List ByteArray) (i : Nat) (t : Nd) (σ : PSt) : Prop := ∀ (own : Nat → Nat) (w : World) (b : Nat) (m : PM) (kv : Value), St own w b m σ → Strs own w kv known →
  Calls Tryz.prog 98 #[.pointer (some ⟨b, 0, none⟩), .int .i64 i, kv] w fun e w' => e = .returned (.int .i64 (t.unknown known)) ∧ AfterM own w b m σ w'

set_option maxRecDepth 100000 in
set_option maxHeartbeats 800000 in
theorem names_num {σ : PSt} {known : List ByteArray} {i : Nat} {x : RNode} (hx : σ.nodes[i]? = some x) (ho : x.op.toList = [110]) (_hlen : σ.nodes.length ≤ 100000) : NamesC known i (.num x.n) σ := by
  intro own w b m kv h hk
  obtain ⟨g, cap, hv, hi, c0, c1, c2, c3, c4, c5, c6⟩ := h.node_at hx
  have d8 := h.cell 8
  simp [PCells] at d8
  rw [hv] at d8
  have hi0 : (0 : Int) ≤ (i : Int) := by omega
  have hi1 : (i : Int) < (σ.nodes.length : Int) := by omega
  have hq : (x.op.toList == [110]) = true := by simp [ho]
  have HV : Hid (m.dv = .slice (some ⟨g, 0, none⟩) σ.nodes.length cap) := hv
  clear hv ho hx
  go_enter Tryz.func98, Tryz.ntmps98
  go_wp2_with fail
  go_ret
  exact ⟨rfl, own, h.alloc _, (Ext.refl own w).alloc _⟩

theorem row_of_blk {w w' : World} {base : Nat} {e : TypeId} {size : Nat} {v : Value} {n : Nat} {xs : List Value} (h : w.ownsRow base e size v n xs) (hb : ∀ g, v.ownBlock = some g → w'.heap[g]? = w.heap[g]?) : w'.ownsRow base e size v n xs := by
  refine ⟨h.1, ?_⟩
  rcases h.2 with hn | ⟨g, cap, cur, rfl, h1, h2, rest⟩
  · exact .inl hn
  · exact .inr ⟨g, cap, cur, rfl, h1, (hb g rfl).trans h2, rest⟩
theorem Strs.ext {own own' : Nat → Nat} {w w' : World} {v : Value} {l : List ByteArray} (h : Strs own w v l) (hE : Ext own w own' w') : Strs own' w' v l :=
  ⟨row_of_blk h.1 fun g hg => hE.kept.block g ⟨(h.1.lt g hg).2, h.2 g hg⟩, fun g hg => by rw [hE.same g (h.1.lt g hg).2]; exact h.2 g hg⟩
def NX (x : RNode) : Array Value := #[.string x.op, .int .i64 x.a, .int .i64 x.b, .int .i64 x.n, .string x.name, .string x.field, .int .i64 x.pos]

set_option maxRecDepth 100000 in
set_option maxHeartbeats 800000 in
theorem names_bin {σ : PSt} {known : List ByteArray} {i a c : Nat} {x : RNode} {s t : Nd} (hx : σ.nodes[i]? = some x) (ho : ¬ x.op.toList = [110]) (ho2 : ¬ x.op.toList = [102]) (ha : x.a = a) (hc : x.b = c) (_hlen : σ.nodes.length ≤ 100000)
    (h1 : NamesC known a s σ) (h2 : NamesC known c t σ) : NamesC known i (.bin x.op s t) σ := by
  intro own w b m kv h hk
  obtain ⟨g, cap, hv, hi, c0, c1, c2, c3, c4, c5, c6⟩ := h.node_at hx
  have d8 := h.cell 8
  simp [PCells] at d8
  rw [hv] at d8
  have hi0 : (0 : Int) ≤ (i : Int) := by omega
  have hi1 : (i : Int) < (σ.nodes.length : Int) := by omega
  have hq : (x.op.toList == [110]) = false := by simp [ho]
  have hq2 : (x.op.toList == [102]) = false := by simp [ho2]
  have HV : Hid (m.dv = .slice (some ⟨g, 0, none⟩) σ.nodes.length cap) := hv
  have hSL := (h.owner (own' := put own w.heap.size 7) (fun k hk => put_other _ _ _ _ (by omega))).alloc (.cells (NX x) 248)
  have hEL : Ext own w (put own w.heap.size 7) (w.alloc (.cells (NX x) 248)) := (Ext.refl own w).allocAs _ 7
  have hkL := hk.ext hEL
  have hoL : put own w.heap.size 7 w.heap.size = 7 := put_same _ _ _
  have hbL := Blk.new w (NX x) 248
  unfold NX at hSL hEL hkL hbL
  rw [ha, hc] at *
  clear hv ho ho2 hx ha hc
  go_enter Tryz.func98, Tryz.ntmps98
  go_wp2_with fail
  refine (h1 _ _ _ _ _ hSL hkL).mono ?_
  rintro e w1 ⟨rfl, own1, hS1, hE1⟩
  have l2 := (hE1.blk hoL hbL).cell 2
  simp at l2
  have hk1 := hkL.ext hE1
  have hE2 := hEL.trans hE1
  clear c0 c1 c2 c3 c4 c5 c6 d8 hSL hkL hbL hk hEL
  go_wp2_with fail
  refine (h2 _ _ _ _ _ hS1 hk1).mono ?_
  rintro e w2 ⟨rfl, own2, hS2, hE3⟩
  have hfin : AfterM own w b m σ w2 := ⟨own2, hS2, hE2.trans hE3⟩
  have HU : Hid ((Nd.bin x.op s t).unknown known = if s.unknown known < 0 ∨ (0 ≤ t.unknown known ∧ t.unknown known < s.unknown known) then t.unknown known else s.unknown known) := rfl
  clear hS1 hS2 hE1 hE2 hE3 l2 hk1
  generalize s.unknown known = ua at *
  generalize t.unknown known = ub at *
  by_cases p1 : ua < 0
  · go_wp2_with fail
    go_ret
    exact ⟨ret_int (by rw [HU.out, if_pos (.inl p1)]), hfin⟩
  · by_cases p2 : 0 ≤ ub
    · by_cases p3 : ub < ua
      · go_wp2_with fail
        go_ret
        exact ⟨ret_int (by rw [HU.out, if_pos (.inr ⟨p2, p3⟩)]), hfin⟩
      · go_wp2_with fail
        go_ret
        exact ⟨ret_int (by rw [HU.out, if_neg (by omega)]), hfin⟩
    · go_wp2_with fail
      go_ret
      exact ⟨ret_int (by rw [HU.out, if_neg (by omega)]), hfin⟩

def okFld (nm : ByteArray) (known : List ByteArray) (k : Nat) : Bool := nm.toList.isEmpty || (known.take k).any (fun s => s.toList == nm.toList)
theorem okFld_succ (nm : ByteArray) (known : List ByteArray) (k : Nat) (h : k < known.length) : okFld nm known (k + 1) = (okFld nm known k || (known.getD k ByteArray.empty).toList == nm.toList) := by
  unfold okFld
  have hg : known.getD k ByteArray.empty = known[k] := by simp [List.getD, h]
  rw [List.take_succ_eq_append_getElem h, List.any_append, hg]
  simp [Bool.or_assoc]
theorem Strs.cell {own : Nat → Nat} {w : World} {g n cap : Nat} {l : List ByteArray} (h : Strs own w (.slice (some ⟨g, 0, none⟩) n cap) l) (k : Nat) (hk : k < l.length) : w.cell? ⟨g, k, none⟩ = some (.string (l.getD k ByteArray.empty)) := by
  have := h.1.cells (g := g) rfl k (.string (l.getD k ByteArray.empty)) (by simp [List.getD, hk])
  have hadd : (⟨g, 0, none⟩ : Addr).add k = ⟨g, k, none⟩ := by unfold Addr.add; split <;> simp_all
  rw [hadd] at this; exact this

structure FInv (own : Nat → Nat) (w : World) (b : Nat) (m : PM) (σ : PSt) (nm : ByteArray) (pos : Int) (kv : Value) (known : List ByteArray) (wr : World) : Prop where
  st : St own wr b m σ
  e : Ext own w own wr
  nm : wr.cell? ⟨w.heap.size, 4, none⟩ = some (.string nm)
  ps : wr.cell? ⟨w.heap.size, 6, none⟩ = some (.int .i64 pos)
  k : Strs own wr kv known
theorem FInv.drewN {own : Nat → Nat} {w : World} {b : Nat} {m : PM} {σ : PSt} {nm : ByteArray} {pos : Int} {kv : Value} {known : List ByteArray} {wr : World} (h : FInv own w b m σ nm pos kv known wr) (n : Nat) : FInv own w b m σ nm pos kv known (wr.drewN n) :=
  ⟨h.st.drewN n, h.e.drewN n, h.nm, h.ps, h.k⟩

set_option maxRecDepth 100000 in
set_option maxHeartbeats 1600000 in
theorem names_fld {σ : PSt} {known : List ByteArray} {i : Nat} {x : RNode} (hx : σ.nodes[i]? = some x) (ho : x.op.toList = [102]) (_hlen : σ.nodes.length ≤ 100000) (hkl : known.length ≤ 100000) : NamesC known i (.fld x.name x.field x.pos) σ := by
  intro own w b m kv h hk
  obtain ⟨g, cap, hv, hi, c0, c1, c2, c3, c4, c5, c6⟩ := h.node_at hx
  have d8 := h.cell 8
  simp [PCells] at d8
  rw [hv] at d8
  have hi0 : (0 : Int) ≤ (i : Int) := by omega
  have hi1 : (i : Int) < (σ.nodes.length : Int) := by omega
  have hq : (x.op.toList == [110]) = false := by simp [ho]
  have hq2 : (x.op.toList == [102]) = true := by simp [ho]
  have HU : Hid ((Nd.fld x.name x.field x.pos).unknown known = if okFld x.name known known.length = true then -1 else x.pos) := by show _ = _; simp [Nd.unknown, okFld]
  have hkf : ∃ a n c, kv = .slice a n c ∧ n = known.length ∧ (0 < n → ∃ gk, a = some ⟨gk, 0, none⟩) := by
    rcases hk.1.2 with ⟨rfl, h0⟩ | ⟨gk, c, cur, rfl, _⟩
    · exact ⟨none, 0, 0, rfl, h0.symm, fun h => absurd h (by decide)⟩
    · exact ⟨_, _, _, rfl, rfl, fun _ => ⟨gk, rfl⟩⟩
  obtain ⟨ka, kn, kc, rfl, hkn, hka⟩ := hkf
  subst hkn
  clear hv ho hx
  go_enter Tryz.func98, Tryz.ntmps98
  go_wp2_with fail
  go_loopw [8, 9] (fun ok i wr => ∃ k : Nat, k ≤ known.length ∧ i = .int .i64 k ∧ ok = .bool (okFld x.name known k) ∧ FInv own w b m σ x.name x.pos (.slice ka known.length kc) known wr) (fun _ i _ => known.length - (intOf i).toNat)
  case atStart =>
    exact ⟨0, by omega, rfl, by simp [okFld], ⟨h.alloc _, (Ext.refl own w).alloc _, by simp [go_sem], by simp [go_sem], hk.ext ((Ext.refl own w).alloc _)⟩⟩
  case round =>
    obtain ⟨k, hkle, rfl, rfl, hI⟩ := hrel
    have hnm := hI.nm
    clear c0 c1 c2 c3 c4 c5 c6 d8 hk h
    by_cases h9 : k < known.length
    · obtain ⟨gk, rfl⟩ := hka (by omega)
      have hlc := hI.k.cell k h9
      have HN : Hid (okFld x.name known (k + 1) = (okFld x.name known k || (known.getD k ByteArray.empty).toList == x.name.toList)) := okFld_succ _ _ _ h9
      have hki : (k : Int) < (known.length : Int) := by omega
      have hk0 : (0 : Int) ≤ (k : Int) := by omega
      cases hok : okFld x.name known k with
      | true =>
        go_wp2
        go_quiet (fail)
        go_wp2
        go_roundw
        case rel => exact ⟨k + 1, by omega, by go_num, by rw [HN.out, hok]; rfl, hI.drewN _⟩
        case measure => simp [intOf]; omega
      | false =>
        generalize hsk : known.getD k ByteArray.empty = sk at *
        clear hsk
        go_wp2
        go_quiet (fail)
        go_wp2
        go_roundw
        case rel => exact ⟨k + 1, by omega, by go_num, by rw [HN.out, hok]; simp, hI.drewN _⟩
        case measure => simp [intOf]; omega
    · have e9 : k = known.length := by omega
      subst e9
      have HFin : Hid (AfterM own w b m σ wr) := ⟨own, hI.st, hI.e⟩
      have hps := hI.ps
      cases hok : okFld x.name known known.length with
      | true =>
        go_wp2
        go_ret
        exact ⟨ret_int (by rw [HU.out, hok]; rfl), HFin.out⟩
      | false =>
        go_wp2
        go_ret
        exact ⟨ret_int (by rw [HU.out, hok]; rfl), HFin.out⟩

theorem names_any {σ : PSt} {known : List ByteArray} (hlen : σ.nodes.length ≤ 100000) (hkl : known.length ≤ 100000) {i : Nat} {t : Nd} (h : Rep σ.nodes i t) : NamesC known i t σ := by
  induction h with
  | num hx ho => exact names_num hx ho hlen
  | fld hx ho _ => exact names_fld hx ho hlen hkl
  | bin hx ho ho2 ha hb _ _ ih1 ih2 => exact names_bin hx ho ho2 ha hb hlen ih1 ih2
end Go.Proofs.YtddbjcfdmdbmkaaGreatDoor

namespace Go.Proofs.YtddbjcfdmdbmkaaGreatDoor
open Go.RowKit

structure STok where
  kind : Nat
  place : Nat
  text : ByteArray
def STok.cells (t : STok) : List Value := [.int .i64 t.kind, .int .i64 t.place, .string t.text]
instance : Inhabited STok := ⟨⟨0, 0, ByteArray.empty⟩⟩

def signsP : List UInt8 := [40, 41, 124, 58, 46, 43, 45, 42, 47, 61]
def isResv (t : ByteArray) : Bool := resv.any fun r => t.toList == r.toList
def spanP (p : UInt8 → Bool) (s : ByteArray) : Nat := spanTo p s 0
def wordP (r : ByteArray) : Nat × Nat :=
  if isResv (r.extract 0 (spanP isSmallB r)) then (4, spanP isSmallB r) else if 8 < spanP isSmallB r then (0, spanP isSmallB r) else (3, spanP isSmallB r)
def numberP (r : ByteArray) : Nat × Nat := if 9 < spanP isDigitB r then (0, spanP isDigitB r) else (2, spanP isDigitB r)
def longerP (r : ByteArray) : Bool := decide (1 < r.size) && (r.data.toList.getD 1 0 == 61)
def headP (r : ByteArray) : Nat × Nat :=
  let b := r.data.toList.getD 0 0
  if isSmallB b then wordP r
  else if isDigitB b then numberP r
  else if b == 33 then (if longerP r then (5, 2) else (0, 1))
  else if b == 60 || b == 62 then (if longerP r then (5, 2) else (5, 1))
  else if memB b signsP then (5, 1) else (0, 1)
def firstP (r : ByteArray) : Nat × Nat := if r.size = 0 then (1, 0) else headP r

def stokAt (s : ByteArray) (at_ : Nat) : STok :=
  let i := spanTo isBlankB s at_
  ⟨(firstP (s.extract i s.size)).1, i, s.extract i (i + (firstP (s.extract i s.size)).2)⟩
def stoks (s : ByteArray) : Nat → Nat → List STok
  | 0, _ => []
  | n + 1, at_ => if (stokAt s at_).kind ≤ 1 then [stokAt s at_] else stokAt s at_ :: stoks s n ((stokAt s at_).place + (stokAt s at_).text.size)
def tokensP (s : ByteArray) : List STok := stoks s (s.size + 1) 0
end Go.Proofs.YtddbjcfdmdbmkaaGreatDoor

namespace Go.Proofs.YtddbjcfdmdbmkaaGreatDoor
open Go.RowKit

structure POp where
  act : ByteArray
  number : Nat
  name : ByteArray
  place : Nat
def POp.cells (o : POp) : List Value := [.string o.act, .int .i64 o.number, .string o.name, .int .i64 o.place]
instance : Inhabited POp := ⟨⟨⟨#[]⟩, 0, ⟨#[]⟩, 0⟩⟩

inductive PPart where
  | mk (name : ByteArray) (place times kind : Nat) (cond : List POp) (choices : List (List PPart)) : PPart
def PPart.name : PPart → ByteArray | .mk n _ _ _ _ _ => n
def PPart.place : PPart → Nat | .mk _ p _ _ _ _ => p
def PPart.times : PPart → Nat | .mk _ _ t _ _ _ => t
def PPart.kind : PPart → Nat | .mk _ _ _ k _ _ => k
def PPart.cond : PPart → List POp | .mk _ _ _ _ c _ => c
def PPart.choices : PPart → List (List PPart) | .mk _ _ _ _ _ c => c
instance : Inhabited PPart := ⟨.mk ⟨#[]⟩ 0 0 0 [] []⟩

structure Rd where
  ahead : List STok
  deep : Nat
  td : Option Nat
  bn : Option Nat
  ops : Option (List POp)

def Rd.now (σ : Rd) : STok := σ.ahead.headD default
def Rd.skip (σ : Rd) : Rd := { σ with ahead := σ.ahead.tail }
def Rd.fail (σ : Rd) : Rd := { σ with ahead := [⟨0, σ.now.place, ⟨#[]⟩⟩] }
def Rd.has (σ : Rd) (ts : List ByteArray) : Bool := ts.any fun t => t.toList == σ.now.text.toList
def Rd.which (σ : Rd) (ts : List ByteArray) : Rd := if σ.has ts then σ.skip else σ
def Rd.whichV (σ : Rd) (ts : List ByteArray) : ByteArray := if σ.has ts then σ.now.text else ⟨#[]⟩
def Rd.expect (σ : Rd) (ts : List ByteArray) : Rd := if σ.has ts then σ.skip else σ.fail
def markPut (m : Option Nat) (p : Nat) : Option Nat := match m with | none => some p | some q => some q
def numVal (t : ByteArray) : Nat := t.data.toList.foldl (fun n c => 10 * n + (c.toNat - 48)) 0
def Rd.numV (σ : Rd) : Nat := if σ.now.kind = 2 then numVal σ.now.text else 0
def Rd.num (σ : Rd) (lo hi : Nat) : Rd :=
  if σ.now.kind = 2 then { σ.skip with bn := if numVal σ.now.text < lo ∨ hi < numVal σ.now.text then markPut σ.bn σ.now.place else σ.bn } else σ.fail
def Rd.enter (σ : Rd) : Rd := { σ.skip with deep := σ.deep + 1, td := if 8 ≤ σ.deep then markPut σ.td σ.now.place else σ.td }
def Rd.leave (σ : Rd) : Rd := { σ with deep := σ.deep - 1 }
def Rd.put (σ : Rd) (o : POp) : Rd := { σ with ops := σ.ops.map (· ++ [o]) }

def tOr : ByteArray := ⟨#[111, 114]⟩
def tAnd : ByteArray := ⟨#[97, 110, 100]⟩
def tIf : ByteArray := ⟨#[105, 102]⟩
def tThen : ByteArray := ⟨#[116, 104, 101, 110]⟩
def tTimes : ByteArray := ⟨#[116, 105, 109, 101, 115]⟩
def tNot : ByteArray := ⟨#[110, 111, 116]⟩
def tIt : ByteArray := ⟨#[105, 116]⟩
def tWithin : ByteArray := ⟨#[119, 105, 116, 104, 105, 110]⟩
def tRate : ByteArray := ⟨#[114, 97, 116, 101]⟩
def tMinus : ByteArray := ⟨#[45]⟩
def tPlus : ByteArray := ⟨#[43]⟩
def tStar : ByteArray := ⟨#[42]⟩
def tSlash : ByteArray := ⟨#[47]⟩
def tOpen : ByteArray := ⟨#[40]⟩
def tClose : ByteArray := ⟨#[41]⟩
def tBar : ByteArray := ⟨#[124]⟩
def tColon : ByteArray := ⟨#[58]⟩
def tDot : ByteArray := ⟨#[46]⟩
def tPush : ByteArray := ⟨#[112, 117, 115, 104]⟩
def tOpp : ByteArray := ⟨#[111, 112, 112, 111, 115, 105, 116, 101]⟩
def sTest : List ByteArray := [⟨#[61]⟩, ⟨#[33, 61]⟩, ⟨#[60]⟩, ⟨#[60, 61]⟩, ⟨#[62]⟩, ⟨#[62, 61]⟩]
def sField : List ByteArray := [⟨#[97]⟩, ⟨#[98]⟩, ⟨#[99]⟩, ⟨#[116]⟩]
def STok.is (t : STok) (s : ByteArray) : Bool := t.text.toList == s.toList

def chainL (part : Rd → Rd) (ts : List ByteArray) : Nat → Rd → Rd
  | 0, σ => σ
  | n + 1, σ => if σ.has ts then chainL part ts n ((part σ.skip).put ⟨σ.now.text, 0, ⟨#[]⟩, 0⟩) else σ
def chainP (part : Rd → Rd) (ts : List ByteArray) (σ : Rd) : Rd := chainL part ts (part σ).ahead.length (part σ)
def fieldP (σ : Rd) (name : ByteArray) (place : Nat) : Rd :=
  (σ.skip.expect [tDot] |>.expect sField).put ⟨(σ.skip.expect [tDot]).whichV sField, 0, name, place⟩
def productP (f : Rd → Rd) : Rd → Rd := chainP f [tStar, tSlash]
def sumP (f : Rd → Rd) : Rd → Rd := chainP (productP f) [tPlus, tMinus]
def factorP : Nat → Rd → Rd
  | 0, σ => σ
  | n + 1, σ =>
    if σ.now.kind = 2 then (σ.num 0 999999999).put ⟨tPush, σ.numV, ⟨#[]⟩, 0⟩
    else if σ.now.is tMinus then (factorP n σ.enter).leave.put ⟨tOpp, 0, ⟨#[]⟩, 0⟩
    else if σ.now.is tOpen then ((sumP (factorP n) σ.enter).expect [tClose]).leave
    else if σ.now.kind = 3 then fieldP σ σ.now.text σ.now.place
    else if σ.now.is tIt then fieldP σ ⟨#[]⟩ 0
    else σ.fail
def testP (f : Rd → Rd) (σ : Rd) : Rd :=
  (sumP f ((sumP f σ).expect sTest)).put ⟨(sumP f σ).whichV sTest, 0, ⟨#[]⟩, 0⟩
def bothP (f : Rd → Rd) : Rd → Rd := chainP (testP f) [tAnd]
def condP (n : Nat) (σ : Rd) : Rd :=
  if σ.has [tIf] then chainP (bothP (factorP n)) [tOr] { σ.skip with ops := some [] } else { σ with ops := some [] }
def Rd.dead (σ : Rd) : Rd := { σ with ops := none }
def Rd.opsL (σ : Rd) : List POp := σ.ops.getD []

def stepP (n : Nat) (σ : Rd) : Rd × PPart :=
  let a := (σ.skip.expect [tColon]).num 0 99
  let k := (σ.skip.expect [tColon]).numV
  let b := if a.has [tTimes] then a.skip.num 1 4 else a
  let t := if a.has [tTimes] then a.skip.numV else 1
  ((condP n b).dead, .mk σ.now.text σ.now.place t k (condP n b).opsL [])
def guardP (n : Nat) (σ : Rd) : Rd × PPart :=
  let a := σ.skip.num 0 99
  ((condP n a).dead, .mk ⟨#[]⟩ σ.now.place 0 σ.skip.numV (condP n a).opsL [])
def seqL (part : Rd → Rd × PPart) : Nat → Rd → List PPart → Rd × List PPart
  | 0, σ, l => (σ, l)
  | n + 1, σ, l => if σ.has [tThen] then seqL part n (part σ.skip).1 (l ++ [(part σ.skip).2]) else (σ, l)
def seqP (part : Rd → Rd × PPart) (σ : Rd) : Rd × List PPart := seqL part (part σ).1.ahead.length (part σ).1 [(part σ).2]
def barL (seq : Rd → Rd × List PPart) : Nat → Rd → List (List PPart) → Rd × List (List PPart)
  | 0, σ, l => (σ, l)
  | n + 1, σ, l => if σ.has [tBar] then barL seq n (seq σ.skip).1 (l ++ [(seq σ.skip).2]) else (σ, l)
def bracketsP (seq : Rd → Rd × List PPart) (σ : Rd) : Rd × PPart :=
  let a := seq σ.enter
  let b := seq (a.1.expect [tBar])
  let c := barL seq b.1.ahead.length b.1 [a.2, b.2]
  ((c.1.expect [tClose]).leave, .mk ⟨#[]⟩ 0 0 0 [] c.2)
def partP : Nat → Rd → Rd × PPart
  | 0, σ => (σ, default)
  | n + 1, σ =>
    if σ.now.kind = 3 then stepP n σ
    else if σ.now.is tNot then guardP n σ
    else if σ.now.is tOpen then bracketsP (seqP (partP n)) σ
    else (σ.fail, default)
structure PPat where
  window : Nat
  rate : Nat
  body : List PPart
def patP (n : Nat) (σ : Rd) : Rd × PPat :=
  let a := σ.expect [tWithin]
  let b := (a.num 1 1000000).expect [tRate]
  let c := seqP (partP n) (b.num 1 12)
  (c.1, ⟨a.numV, b.numV, c.2⟩)
def rd0 (ts : List STok) : Rd := ⟨ts, 0, none, none, some []⟩
def readP (ts : List STok) : (PPat × Nat) ⊕ (Nat × Nat) :=
  let r := patP ts.length (rd0 ts)
  if r.1.now.kind ≠ 1 then .inr (r.1.now.place, 1)
  else match r.1.td with
    | some p => .inr (p, 2)
    | none => match r.1.bn with
      | some p => .inr (p, 3)
      | none => .inl (r.2, 0)
end Go.Proofs.YtddbjcfdmdbmkaaGreatDoor

namespace Go.Proofs.YtddbjcfdmdbmkaaGreatDoor
open Go.RowKit

def KW : List ByteArray := [tOr, tAnd, tIf, tThen, tTimes, tNot, tIt, tWithin, tRate, tMinus, tPlus, tStar, tSlash, tOpen, tClose, tBar, tColon, tDot] ++ sTest ++ sField
def digitsOK (t : ByteArray) : Prop := 1 ≤ t.size ∧ t.size ≤ 9 ∧ ∀ c ∈ t.data.toList, isDigitB c = true
def TokOK (t : STok) : Prop := 2 ≤ t.kind ∧ (t.kind = 2 → digitsOK t.text)
def EndOK (t : STok) : Prop := t.kind ≤ 1 ∧ ∀ k ∈ KW, (k.toList == t.text.toList) = false
def SGood : List STok → Prop
  | [] => False
  | [t] => EndOK t
  | t :: u :: l => TokOK t ∧ SGood (u :: l)

theorem SGood.pos {l : List STok} (h : SGood l) : 0 < l.length := by cases l with | nil => exact h.elim | cons _ _ => simp
theorem SGood.tail {l : List STok} (h : SGood l) (h2 : 2 ≤ l.length) : SGood l.tail := by
  match l, h with
  | [_], _ => simp at h2
  | _ :: _ :: _, h => exact h.2
theorem SGood.more {l : List STok} (h : SGood l) (hk : 2 ≤ (l.headD default).kind) : 2 ≤ l.length := by
  match l, h with
  | [t], h => have := h.1; simp at hk; omega
  | _ :: _ :: _, _ => simp
theorem SGood.digits {l : List STok} (h : SGood l) (hk : (l.headD default).kind = 2) : digitsOK (l.headD default).text := by
  match l, h with
  | [t], h => have := h.1; simp at hk; omega
  | _ :: _ :: _, h => exact h.1.2 hk
theorem SGood.has {σ : Rd} (h : SGood σ.ahead) {ts : List ByteArray} (hts : ∀ t ∈ ts, t ∈ KW) (hh : σ.has ts = true) : 2 ≤ σ.ahead.length := by
  obtain ⟨ah, _, _, _, _⟩ := σ
  match ah, h with
  | [t], h =>
    simp only [Rd.has, List.any_eq_true, Rd.now, List.headD] at hh
    obtain ⟨x, hx, he⟩ := hh
    rw [h.2 x (hts x hx)] at he; cases he
  | _ :: _ :: _, _ => simp
theorem SGood.is {σ : Rd} (h : SGood σ.ahead) {t : ByteArray} (ht : t ∈ KW) (hh : σ.now.is t = true) : 2 ≤ σ.ahead.length := by
  refine h.has (ts := [t]) (by simpa using ht) ?_
  simp only [Rd.has, List.any_cons, List.any_nil, Bool.or_false]
  simp only [STok.is, beq_iff_eq] at hh ⊢; exact hh.symm
theorem kw_some : (KW.all fun k => !(k.toList == ByteArray.toList ⟨#[]⟩)) = true := by kernel_rfl
theorem good_end (p : Nat) : SGood [⟨0, p, ⟨#[]⟩⟩] := ⟨by simp, fun k hk => by have := List.all_eq_true.1 kw_some k hk; simpa using this⟩

def Rd.phi (σ : Rd) : Nat := σ.opsL.length + 2 * σ.ahead.length
structure Ok (d : Nat) (σ σ' : Rd) : Prop where
  good : SGood σ'.ahead
  le : σ'.ahead.length ≤ σ.ahead.length
  phi : σ'.phi ≤ σ.phi + d
  deep : σ'.deep = σ.deep
  live : σ.ops.isSome = true → σ'.ops.isSome = true
theorem Ok.refl {σ : Rd} (h : SGood σ.ahead) : Ok 0 σ σ := ⟨h, Nat.le_refl _, by omega, rfl, id⟩
theorem Ok.trans {d e : Nat} {a b c : Rd} (h : Ok d a b) (k : Ok e b c) : Ok (d + e) a c :=
  ⟨k.good, Nat.le_trans k.le h.le, by have := h.phi; have := k.phi; omega, k.deep.trans h.deep, fun x => k.live (h.live x)⟩
theorem Ok.mono {d e : Nat} {a b : Rd} (h : Ok d a b) (hd : d ≤ e) : Ok e a b := ⟨h.good, h.le, by have := h.phi; omega, h.deep, h.live⟩

theorem skip_len (σ : Rd) : σ.skip.ahead.length = σ.ahead.length - 1 := by simp [Rd.skip]
theorem skip_phi {σ : Rd} (h2 : 2 ≤ σ.ahead.length) : σ.skip.phi + 2 = σ.phi := by
  simp only [Rd.phi, Rd.opsL, Rd.skip, List.length_tail]; omega
theorem skip_ok {σ : Rd} (h : SGood σ.ahead) (h2 : 2 ≤ σ.ahead.length) : Ok 0 σ σ.skip :=
  ⟨h.tail h2, by rw [skip_len]; omega, by have := skip_phi h2; omega, rfl, id⟩
theorem fail_ok {σ : Rd} (h : SGood σ.ahead) : Ok 0 σ σ.fail :=
  ⟨good_end _, h.pos, by have := h.pos; simp only [Rd.phi, Rd.opsL, Rd.fail, List.length_cons, List.length_nil]; omega, rfl, id⟩
theorem expect_ok {σ : Rd} (h : SGood σ.ahead) {ts : List ByteArray} (hts : ∀ t ∈ ts, t ∈ KW) : Ok 0 σ (σ.expect ts) := by
  unfold Rd.expect; split
  · rename_i hh; exact skip_ok h (h.has hts hh)
  · exact fail_ok h
theorem num_ok {σ : Rd} (h : SGood σ.ahead) (lo hi : Nat) : Ok 0 σ (σ.num lo hi) := by
  unfold Rd.num; split
  · rename_i hk
    have s := skip_ok h (h.more (by show 2 ≤ σ.now.kind; omega))
    exact ⟨s.good, s.le, s.phi, s.deep, s.live⟩
  · exact fail_ok h
theorem num_phi {σ : Rd} (h : SGood σ.ahead) (lo hi : Nat) (hk : σ.now.kind = 2) : (σ.num lo hi).phi + 2 = σ.phi := by
  have := skip_phi (h.more (by show 2 ≤ σ.now.kind; omega))
  unfold Rd.num; rw [if_pos hk]; exact this
theorem put_phi (σ : Rd) (o : POp) : (σ.put o).phi ≤ σ.phi + 1 := by
  unfold Rd.phi Rd.opsL Rd.put
  cases σ.ops <;> simp <;> omega
theorem put_ok {σ : Rd} (h : SGood σ.ahead) (o : POp) : Ok 1 σ (σ.put o) :=
  ⟨h, Nat.le_refl _, put_phi σ o, rfl, fun x => by simpa [Rd.put] using x⟩

def Keeps (n d : Nat) (part : Rd → Rd) : Prop := ∀ σ, SGood σ.ahead → σ.ahead.length ≤ n → Ok d σ (part σ)

theorem chainL_ok {n d : Nat} {part : Rd → Rd} (hp : Keeps n d part) (hd : d ≤ 1) {ts : List ByteArray} (hts : ∀ t ∈ ts, t ∈ KW) :
    ∀ k σ, SGood σ.ahead → σ.ahead.length ≤ n → Ok 0 σ (chainL part ts k σ) := by
  intro k
  induction k with
  | zero => intro σ h _; exact Ok.refl h
  | succ k ih =>
    intro σ h hl
    unfold chainL; split
    · rename_i hh
      have h2 := h.has hts hh
      have s := skip_ok h h2
      have p := hp _ s.good (Nat.le_trans s.le hl)
      have q := put_ok p.good ⟨σ.now.text, 0, ⟨#[]⟩, 0⟩
      have r := ih _ q.good (Nat.le_trans q.le (Nat.le_trans p.le (Nat.le_trans s.le hl)))
      have a := (s.trans p).trans (q.trans r)
      refine ⟨a.good, a.le, ?_, a.deep, a.live⟩
      have := skip_phi h2; have := p.phi; have := q.phi; have := r.phi
      omega
    · exact Ok.refl h
theorem chainP_ok {n d : Nat} {part : Rd → Rd} (hp : Keeps n d part) (hd : d ≤ 1) {ts : List ByteArray} (hts : ∀ t ∈ ts, t ∈ KW) : Keeps n d (chainP part ts) := by
  intro σ h hl
  have p := hp σ h hl
  have q := chainL_ok hp hd hts (part σ).ahead.length (part σ) p.good (Nat.le_trans p.le hl)
  exact (p.trans q).mono (by omega)

theorem fieldP_ok {σ : Rd} (h : SGood σ.ahead) (h2 : 2 ≤ σ.ahead.length) (name : ByteArray) (place : Nat) : Ok 0 σ (fieldP σ name place) := by
  have s := skip_ok h h2
  have a := expect_ok s.good (ts := [tDot]) (by simp [KW])
  have b := expect_ok a.good (ts := sField) (by simp [KW, sField])
  have p := put_ok b.good ⟨(σ.skip.expect [tDot]).whichV sField, 0, name, place⟩
  have t := (s.trans a).trans (b.trans p)
  refine ⟨t.good, t.le, ?_, t.deep, t.live⟩
  have := skip_phi h2; have := a.phi; have := b.phi; have := p.phi
  show (Rd.put _ _).phi ≤ _
  omega
theorem enter_len {σ : Rd} : σ.enter.ahead.length = σ.ahead.length - 1 := by simp [Rd.enter, Rd.skip]
theorem enter_phi {σ : Rd} (h2 : 2 ≤ σ.ahead.length) : σ.enter.phi + 2 = σ.phi := skip_phi (σ := σ) h2
theorem leave_phi (σ : Rd) : σ.leave.phi = σ.phi := rfl
theorem productP_ok {n : Nat} {f : Rd → Rd} (hf : Keeps n 0 f) : Keeps n 0 (productP f) := chainP_ok hf (by omega) (by simp [KW])
theorem sumP_ok {n : Nat} {f : Rd → Rd} (hf : Keeps n 0 f) : Keeps n 0 (sumP f) := chainP_ok (productP_ok hf) (by omega) (by simp [KW])
theorem factorP_ok : ∀ n, Keeps n 0 (factorP n) := by
  intro n
  induction n with
  | zero => intro σ h hl; have := h.pos; omega
  | succ n ih =>
    intro σ h hl
    unfold factorP
    split
    · rename_i hk
      have a := num_ok h 0 999999999
      have p := put_ok a.good ⟨tPush, σ.numV, ⟨#[]⟩, 0⟩
      have t := a.trans p
      exact ⟨t.good, t.le, by have := num_phi h 0 999999999 hk; have := p.phi; omega, t.deep, t.live⟩
    split
    · rename_i hm
      have h2 := h.is (by simp [KW]) hm
      have f := ih σ.enter (h.tail h2) (by rw [enter_len]; omega)
      have p := put_ok (σ := (factorP n σ.enter).leave) f.good ⟨tOpp, 0, ⟨#[]⟩, 0⟩
      refine ⟨p.good, ?_, ?_, ?_, fun x => p.live (f.live x)⟩
      · have := p.le; have := f.le; rw [enter_len] at this; simp only [Rd.leave] at *; omega
      · have := p.phi; have := f.phi; have := enter_phi h2; have := leave_phi (factorP n σ.enter); omega
      · have := f.deep; have := p.deep; simp only [Rd.leave, Rd.enter] at *; omega
    split
    · rename_i hm
      have h2 := h.is (by simp [KW]) hm
      have f := sumP_ok ih σ.enter (h.tail h2) (by rw [enter_len]; omega)
      have e := expect_ok f.good (ts := [tClose]) (by simp [KW])
      have t := f.trans e
      refine ⟨t.good, ?_, ?_, ?_, fun x => t.live x⟩
      · have := t.le; rw [enter_len] at this; simp only [Rd.leave] at *; omega
      · have := t.phi; have := enter_phi h2; rw [leave_phi]; omega
      · have := t.deep; simp only [Rd.leave, Rd.enter] at *; omega
    split
    · rename_i hk
      exact fieldP_ok h (h.more (by show 2 ≤ σ.now.kind; omega)) _ _
    split
    · rename_i hm
      exact fieldP_ok h (h.is (by simp [KW]) hm) _ _
    · exact fail_ok h
theorem testP_ok {n : Nat} {f : Rd → Rd} (hf : Keeps n 0 f) : Keeps n 1 (testP f) := by
  intro σ h hl
  have a := sumP_ok hf σ h hl
  have b := expect_ok a.good (ts := sTest) (by simp [KW, sTest])
  have c := sumP_ok hf _ b.good (Nat.le_trans b.le (Nat.le_trans a.le hl))
  have p := put_ok c.good ⟨(sumP f σ).whichV sTest, 0, ⟨#[]⟩, 0⟩
  exact ((a.trans b).trans (c.trans p)).mono (by omega)
theorem bothP_ok {n : Nat} {f : Rd → Rd} (hf : Keeps n 0 f) : Keeps n 1 (bothP f) := chainP_ok (testP_ok hf) (by omega) (by simp [KW])
end Go.Proofs.YtddbjcfdmdbmkaaGreatDoor
