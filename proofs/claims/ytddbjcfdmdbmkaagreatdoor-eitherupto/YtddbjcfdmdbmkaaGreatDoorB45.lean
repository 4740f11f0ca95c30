import Derived.Test.YtddbjcfdmdbmkaaGreatDoorB44
import Derived.Test.YtddbjcfdmdbmkaaGreatDoorB03
import Derived.Test.YtddbjcfdmdbmkaaGreatDoorB42
import Derived.Test.YtddbjcfdmdbmkaaGreatDoorB41
import Derived.BigQuiet
import Derived.Deep.RegionHeld3
import Derived.Deep.CutRange
set_option linter.unusedVariables false
set_option linter.unusedSimpArgs false
namespace Go.Proofs.YtddbjcfdmdbmkaaGreatDoor
open Go.RowKit

theorem drewN_drewN (w : World) (a b : Nat) : (w.drewN a).drewN b = w.drewN (a + b) := by simp [World.drewN, Nat.add_assoc]
def TellsL (a b : List Nat) (r : Int) : Prop := (cmpL a b < 0 ∧ r < 0) ∨ (cmpL a b = 0 ∧ r = 0) ∨ (0 < cmpL a b ∧ 0 < r)
set_option maxRecDepth 100000 in
set_option maxHeartbeats 1600000 in
theorem less_p {w : World} {va vb : Value} {a b : List Nat} (ha : IntsAt w va a) (hb : IntsAt w vb b) (hal : a.length ≤ 1000000000) (hbl : b.length ≤ 1000000000) (hea : ∀ z ∈ a, z ≤ 1000000000) (heb : ∀ z ∈ b, z ≤ 1000000000) :
    Calls Tryz.prog 52 #[va, vb] w fun e w' => ∃ r, e = .returned (.int .i64 r) ∧ TellsL a b r ∧ ∃ q, w' = w.drewN q := by
  obtain ⟨aa, ac, rfl, hac⟩ := ha
  obtain ⟨ba, bc, rfl, hbc⟩ := hb
  go_enter Tryz.func52, Tryz.ntmps52
  go_wp2
  go_loopw [5] (fun i wr => ∃ k : Nat, k ≤ a.length ∧ k ≤ b.length ∧ i = .int .i64 k ∧ (∃ q, wr = w.drewN q) ∧ Hid (cmpL a b = cmpL (a.drop k) (b.drop k))) (fun i _ => a.length - (intOf i).toNat)
  case atStart => exact ⟨0, Nat.zero_le _, Nat.zero_le _, rfl, ⟨0, rfl⟩, rfl⟩
  case round =>
    obtain ⟨k, hka, hkb, rfl, ⟨q, hq⟩, HC⟩ := hrel
    have hh : wr.heap = w.heap := by rw [hq]; rfl
    have HBel : Hid (∀ n, ∃ q, wr.drewN n = w.drewN q) := fun n => ⟨q + n, by rw [hq]; simp [World.drewN, Nat.add_assoc]⟩
    clear hq
    by_cases hlt : k < a.length
    · by_cases hlb : k < b.length
      · obtain ⟨g, rfl, hg, hc⟩ := hac (by omega)
        obtain ⟨g2, rfl, hg2, hc2⟩ := hbc (by omega)
        have e1 : wr.cell? ⟨g, k, none⟩ = some (.int .i64 (a[k] : Nat)) := (cell_eq (by rw [hh]) k).trans (hc k hlt)
        have e2 : wr.cell? ⟨g2, k, none⟩ = some (.int .i64 (b[k] : Nat)) := (cell_eq (by rw [hh]) k).trans (hc2 k hlb)
        have gl : g < wr.heap.size := by rw [hh]; exact hg
        have gl2 : g2 < wr.heap.size := by rw [hh]; exact hg2
        have hki : (k : Int) < (a.length : Int) := by omega
        have hkj : (k : Int) < (b.length : Int) := by omega
        have hk0 : (0 : Int) ≤ (k : Int) := by omega
        have hz1 := hea _ (List.getElem_mem hlt)
        have hz2 := heb _ (List.getElem_mem hlb)
        have HD : Hid (cmpL a b = if cmpN a[k] b[k] = 0 then cmpL (a.drop (k + 1)) (b.drop (k + 1)) else cmpN a[k] b[k]) := by
          show _ = _
          rw [HC.out]; exact cmpL_drop hlt hlb
        clear hc hc2 hac hbc hh hg hg2 HC hea heb
        generalize a[k] = xa at *
        generalize b[k] = xb at *
        by_cases he : xa = xb
        · subst he
          have HE : Hid (cmpL a b = cmpL (a.drop (k + 1)) (b.drop (k + 1))) := by
            show _ = _
            rw [HD.out, if_pos]
            unfold cmpN; simp
          clear HD
          go_wp2
          go_quiet (fail)
          go_wp2
          go_roundw
          case rel => exact ⟨k + 1, hlt, hlb, by go_num, HBel.out _, HE⟩
          case measure => simp [intOf]; omega
        · have he2 : ((xa : Int) != (xb : Int)) = true := by simp; omega
          have he3 : ((xa : Int) == (xb : Int)) = false := by simp; omega
          have he4 : ¬ (xa : Int) = (xb : Int) := by omega
          have HT : Hid (TellsL a b ((xa : Int) - (xb : Int))) := by
            show TellsL _ _ _
            unfold TellsL
            rw [HD.out]
            unfold cmpN
            by_cases h1 : xa < xb
            · simp [h1]; omega
            · have h2 : xb < xa := by omega
              first | (simp [h1, h2]; done) | (simp [h1, h2]; omega)
          clear HD he
          go_wp2
          go_quiet (fail)
          go_wp2
          go_quiet (fail)
          go_wp2
          go_ret
          exact ⟨_, rfl, HT.out, by first | exact HBel.out _ | (rw [drewN_drewN]; exact HBel.out _)⟩
      · have hkb2 : ¬ (k : Int) < (b.length : Int) := by omega
        have hki : (k : Int) < (a.length : Int) := by omega
        have HT : Hid (TellsL a b ((a.length : Int) - (b.length : Int))) := by
          show TellsL _ _ _
          unfold TellsL
          rw [HC.out, show b.drop k = [] from List.drop_eq_nil_of_le (by omega), List.drop_eq_getElem_cons hlt]
          simp [cmpL]
          omega
        clear hac hbc hh HC hea heb
        go_wp2
        go_ret
        exact ⟨_, rfl, HT.out, HBel.out 0⟩
    · have ek : k = a.length := by omega
      have hki : ¬ (k : Int) < (a.length : Int) := by omega
      have HT : Hid (TellsL a b ((a.length : Int) - (b.length : Int))) := by
        show TellsL _ _ _
        unfold TellsL
        rw [HC.out, show a.drop k = [] from List.drop_eq_nil_of_le (by omega)]
        by_cases hlb : k < b.length
        · rw [List.drop_eq_getElem_cons hlb]
          simp [cmpL]
          omega
        · rw [show b.drop k = [] from List.drop_eq_nil_of_le (by omega)]
          simp [cmpL]
          omega
      clear hac hbc hh HC hea heb ek
      go_wp2
      go_ret
      exact ⟨_, rfl, HT.out, HBel.out 0⟩
end Go.Proofs.YtddbjcfdmdbmkaaGreatDoor

namespace Go.Proofs.YtddbjcfdmdbmkaaGreatDoor
open Go.RowKit

structure SmallL (xs : List VL) : Prop where
  few : xs.length ≤ 1000
  len : ∀ x ∈ xs, x.2.length ≤ 1000000000
  elt : ∀ x ∈ xs, ∀ z ∈ x.2, z ≤ 1000000000
theorem map_get {xs : List VL} {i : Nat} (h : i < xs.length) : (xs.map (·.2))[i]'(by simpa using h) = xs[i].2 := by simp
set_option maxRecDepth 100000 in
set_option maxHeartbeats 3200000 in
theorem union_p {w : World} {Ba Bb : Nat} {pa pb : Option Addr} {ca cb : Nat} {xs ys : List VL} (LA : ListsAt Ba w (.slice pa xs.length ca) xs) (LB : ListsAt Bb w (.slice pb ys.length cb) ys) (sa : SortedL (xs.map (·.2))) (sb : SortedL (ys.map (·.2))) (fa : SmallL xs) (fb : SmallL ys) :
    Calls Tryz.prog 31 #[.slice pa xs.length ca, .slice pb ys.length cb] w fun x w' => ∃ (v : Value) (zs : List VL), x = .returned v ∧ w'.ownsRow w.heap.size 48 1 v zs.length (zs.map (·.1)) ∧ (∀ z ∈ zs, z ∈ xs ∨ z ∈ ys) ∧ UnI (xs.map (·.2)) (ys.map (·.2)) (zs.map (·.2)) xs.length ys.length ∧ Below w.heap.size w w' := by
  obtain ⟨i0, hi0, hz0, hz1, hz2⟩ := info_parts Tryz.infoIntsS
  have hfa := fa.few
  have hfb := fb.few
  go_enter Tryz.func31, Tryz.ntmps31
  go_wp2
  go_loopw [5, 6, 7] (fun ov iv kv wr => ∃ (i k : Nat) (zs : List VL), iv = .int .i64 (i : Nat) ∧ kv = .int .i64 (k : Nat) ∧ i ≤ xs.length ∧ k ≤ ys.length ∧ wr.ownsRow w.heap.size 48 1 ov zs.length (zs.map (·.1)) ∧ (∀ z ∈ zs, z ∈ xs ∨ z ∈ ys) ∧ UnI (xs.map (·.2)) (ys.map (·.2)) (zs.map (·.2)) i k ∧ zs.length ≤ i + k ∧ Below w.heap.size w wr) (fun _ iv kv _ => xs.length + ys.length - ((intOf iv).toNat + (intOf kv).toNat))
  case atStart => exact ⟨0, 0, [], rfl, rfl, Nat.zero_le _, Nat.zero_le _, World.ownsRow_nil _ _ _ _, fun z hz => by simp at hz, UnI.start _ _, Nat.le_refl _, Below.refl _ _⟩
  case round =>
    obtain ⟨i, k, zs, rfl, rfl, hix, hky, hrow, hin, hU, hzl, hbel⟩ := hrel
    have hws := hbel.size
    obtain ⟨la, lb, lc, rfl⟩ := row_form hrow
    have LA2 := LA.below hbel
    have LB2 := LB.below hbel
    by_cases hi : i < xs.length
    · obtain ⟨ga, rfl, hga, hca, hia⟩ := LA2.at hi
      have hii : (i : Int) < (xs.length : Int) := by omega
      have hi0' : (0 : Int) ≤ (i : Int) := by omega
      have hi3 : ((i : Int) == (xs.length : Int)) = false := beq_eq_false_iff_ne.2 (by omega)
      have hmx : xs[i] ∈ xs := List.getElem_mem hi
      by_cases hk : k < ys.length
      · obtain ⟨gb, rfl, hgb, hcb, hib⟩ := LB2.at hk
        have hkk : (k : Int) < (ys.length : Int) := by omega
        have hk0' : (0 : Int) ≤ (k : Int) := by omega
        have hk3 : ((k : Int) == (ys.length : Int)) = false := beq_eq_false_iff_ne.2 (by omega)
        have hmy : ys[k] ∈ ys := List.getElem_mem hk
        have HU1 : Hid (cmpL xs[i].2 ys[k].2 < 0 → UnI (xs.map (·.2)) (ys.map (·.2)) (zs.map (·.2) ++ [xs[i].2]) (i + 1) k) := fun h => by
          have := hU.left sa sb (by simpa using hi) (fun _ => by simp only [List.getElem_map]; exact h)
          rwa [map_get hi] at this
        have HU2 : Hid (cmpL xs[i].2 ys[k].2 = 0 → UnI (xs.map (·.2)) (ys.map (·.2)) (zs.map (·.2) ++ [xs[i].2]) (i + 1) (k + 1)) := fun h => by
          have := hU.both sa sb (by simpa using hi) (by simpa using hk) (by simpa using cmpL_eq h)
          rwa [map_get hi] at this
        have HU3 : Hid (0 < cmpL xs[i].2 ys[k].2 → UnI (xs.map (·.2)) (ys.map (·.2)) (zs.map (·.2) ++ [ys[k].2]) i (k + 1)) := fun h => by
          have := hU.right sa sb (by simpa using hk) (fun _ => by
            simp only [List.getElem_map]
            unfold ltL
            rw [cmpL_swap]
            omega)
          rwa [map_get hk] at this
        have hless := fun (w1 : World) (e : w1.heap = wr.heap) => less_p (w := w1) (hia.drewN e) (hib.drewN e) (fa.len _ hmx) (fb.len _ hmy) (fa.elt _ hmx) (fb.elt _ hmy)
        obtain ⟨xv, hxv⟩ : ∃ v, xs[i] = v := ⟨_, rfl⟩
        obtain ⟨yv, hyv⟩ : ∃ v, ys[k] = v := ⟨_, rfl⟩
        rw [hxv] at hca hmx hia
        rw [hyv] at hcb hmy hib
        rw [hxv, hyv] at HU1 HU2 HU3 hless
        obtain ⟨xa, xc, hxs, hxx⟩ := hia
        clear hxx
        obtain ⟨ya, yc, hysv, hyy⟩ := hib
        clear hyy
        rw [hxs] at hca hless
        rw [hysv] at hcb hless
        generalize xv.2.length = xb at *
        generalize yv.2.length = yb at *
        clear hxv hyv LA2 LB2
        go_upto_region 6 with fail
        go_region_held3 (fun w' => w'.cell? ⟨ga, i, none⟩ = some (.slice xa xb xc) ∧ w'.cell? ⟨gb, k, none⟩ = some (.slice ya yb yc)) (simp [*])
         (first
          | (go_at_call 52; refine (hless wr.drew rfl).mono ?_; rintro x9 w9 ⟨r, rfl, ht, q, hq⟩))
        have hca1 : (wr.drewN (1 + q)).cell? ⟨ga, i, none⟩ = some (.slice xa xb xc) := hca
        have hcb1 : (wr.drewN (1 + q)).cell? ⟨gb, k, none⟩ = some (.slice ya yb yc) := hcb
        have hga1 : ga < (wr.drewN (1 + q)).heap.size := hga
        have hgb1 : gb < (wr.drewN (1 + q)).heap.size := hgb
        have hrow1 : (wr.drewN (1 + q)).ownsRow w.heap.size 48 1 (.slice la lb lc) zs.length (zs.map (·.1)) := hrow
        have hbel1 : Below w.heap.size w (wr.drewN (1 + q)) := below_drewN hbel
        generalize wr.drewN (1 + q) = W1 at *
        have hws1 := hbel1.size
        clear hca hcb hga hgb hrow hbel hws hq hless
        rcases ht with ⟨ht1, ht2⟩ | ⟨ht1, rfl⟩ | ⟨ht1, ht2⟩
        · have hr1 : r ≤ 0 := by omega
          have hr2 : ¬ 0 ≤ r := by omega
          have hU1 := HU1.out ht1
          clear HU1 HU2 HU3 ht1 ht2
          go_wp2_with (at_builtin; refine wpList_append_lies _ rfl _ _ 40 rfl w.heap.size 48 i0 _ 1 24 Tryz.underlying40 hi0 hz0 hz1 hz2 rfl (by decide) _ zs.length (zs.map (·.1)) (by rfl) (hrow1.alloc _) ⟨W1.heap.size, 0, none⟩ 1 1 [.slice xa xb xc] (by rfl) rfl (World.news_of_block (alloc_at _ _ _ (by simp))) (by simp [Value.oneCell']) (by decide) (by unfold maxLen; omega) (by omega) (by simp; omega) (W1.heap.size + 1) (by simp) ?_; intro g7 cap7 w7 hown7 hgrow7 hat7 hlt7)
          go_roundw
          case rel =>
            refine ⟨i + 1, k, zs ++ [xv], by go_num, rfl, hi, hky, by simp only [List.length_append, List.length_singleton, List.map_append, List.map_cons, List.map_nil, hxs]; exact hown7, fun z hz => ?_, by rw [List.map_append]; exact hU1, by simp; omega, below_grown (hbel1.alloc hbel1.size _) hgrow7 (fun z hz => (hrow1.lt z hz).1)⟩
            rcases List.mem_append.1 hz with hz | hz
            · exact hin z hz
            · rw [List.mem_singleton.1 hz]; exact .inl hmx
          case measure => simp [intOf]; omega
        · have hU1 := HU2.out ht1
          clear HU1 HU2 HU3 ht1
          go_wp2_with (at_builtin; refine wpList_append_lies _ rfl _ _ 40 rfl w.heap.size 48 i0 _ 1 24 Tryz.underlying40 hi0 hz0 hz1 hz2 rfl (by decide) _ zs.length (zs.map (·.1)) (by rfl) (hrow1.alloc _) ⟨W1.heap.size, 0, none⟩ 1 1 [.slice xa xb xc] (by rfl) rfl (World.news_of_block (alloc_at _ _ _ (by simp))) (by simp [Value.oneCell']) (by decide) (by unfold maxLen; omega) (by omega) (by simp; omega) (W1.heap.size + 1) (by simp) ?_; intro g7 cap7 w7 hown7 hgrow7 hat7 hlt7)
          go_roundw
          case rel =>
            refine ⟨i + 1, k + 1, zs ++ [xv], by go_num, by go_num, hi, hk, by simp only [List.length_append, List.length_singleton, List.map_append, List.map_cons, List.map_nil, hxs]; exact hown7, fun z hz => ?_, by rw [List.map_append]; exact hU1, by simp; omega, below_grown (hbel1.alloc hbel1.size _) hgrow7 (fun z hz => (hrow1.lt z hz).1)⟩
            rcases List.mem_append.1 hz with hz | hz
            · exact hin z hz
            · rw [List.mem_singleton.1 hz]; exact .inl hmx
          case measure => simp [intOf]; omega
        · have hr1 : ¬ r ≤ 0 := by omega
          have hr2 : 0 ≤ r := by omega
          have hU1 := HU3.out ht1
          clear HU1 HU2 HU3 ht1 ht2
          go_wp2_with (at_builtin; refine wpList_append_lies _ rfl _ _ 40 rfl w.heap.size 48 i0 _ 1 24 Tryz.underlying40 hi0 hz0 hz1 hz2 rfl (by decide) _ zs.length (zs.map (·.1)) (by rfl) (hrow1.alloc _) ⟨W1.heap.size, 0, none⟩ 1 1 [.slice ya yb yc] (by rfl) rfl (World.news_of_block (alloc_at _ _ _ (by simp))) (by simp [Value.oneCell']) (by decide) (by unfold maxLen; omega) (by omega) (by simp; omega) (W1.heap.size + 1) (by simp) ?_; intro g7 cap7 w7 hown7 hgrow7 hat7 hlt7)
          go_roundw
          case rel =>
            refine ⟨i, k + 1, zs ++ [yv], rfl, by go_num, hix, hk, by simp only [List.length_append, List.length_singleton, List.map_append, List.map_cons, List.map_nil, hysv]; exact hown7, fun z hz => ?_, by rw [List.map_append]; exact hU1, by simp; omega, below_grown (hbel1.alloc hbel1.size _) hgrow7 (fun z hz => (hrow1.lt z hz).1)⟩
            rcases List.mem_append.1 hz with hz | hz
            · exact hin z hz
            · rw [List.mem_singleton.1 hz]; exact .inr hmy
          case measure => simp [intOf]; omega
      · have ek : k = ys.length := by omega
        have hkk : ((k : Int) == (ys.length : Int)) = true := by rw [ek]; simp
        have hU2 := hU.left sa sb (by simpa using hi) (fun h => absurd (show k < ys.length by simpa using h) hk)
        rw [map_get hi] at hU2
        obtain ⟨xv, hxv⟩ : ∃ v, xs[i] = v := ⟨_, rfl⟩
        rw [hxv] at hca hU2 hmx
        obtain ⟨xa, xb, xc, hxs⟩ : ∃ a b c, xv.1 = .slice a b c := by
          rw [hxv] at hia
          obtain ⟨a, c, e, _⟩ := hia
          exact ⟨_, _, _, e⟩
        rw [hxs] at hca
        clear hia hxv LA2 LB2 ek
        go_wp2_with (at_builtin; refine wpList_append_lies _ rfl _ _ 40 rfl w.heap.size 48 i0 _ 1 24 Tryz.underlying40 hi0 hz0 hz1 hz2 rfl (by decide) _ zs.length (zs.map (·.1)) (by rfl) (hrow.alloc _) ⟨wr.heap.size, 0, none⟩ 1 1 [.slice xa xb xc] (by rfl) rfl (World.news_of_block (alloc_at _ _ _ (by simp))) (by simp [Value.oneCell']) (by decide) (by unfold maxLen; omega) (by omega) (by simp; omega) (wr.heap.size + 1) (by simp) ?_; intro g7 cap7 w7 hown7 hgrow7 hat7 hlt7)
        go_roundw
        case rel =>
          refine ⟨i + 1, k, zs ++ [xv], by go_num, rfl, hi, hky, by simp only [List.length_append, List.length_singleton, List.map_append, List.map_cons, List.map_nil, hxs]; exact hown7, fun z hz => ?_, by rw [List.map_append]; exact hU2, by simp; omega, below_grown (hbel.alloc hbel.size _) hgrow7 (fun z hz => (hrow.lt z hz).1)⟩
          rcases List.mem_append.1 hz with hz | hz
          · exact hin z hz
          · rw [List.mem_singleton.1 hz]; exact .inl hmx
        case measure => simp [intOf]; omega
    · have ei : i = xs.length := by omega
      have hii : ¬ (i : Int) < (xs.length : Int) := by omega
      have hi3 : ((i : Int) == (xs.length : Int)) = true := by rw [ei]; simp
      by_cases hk : k < ys.length
      · obtain ⟨gb, rfl, hgb, hcb, hib⟩ := LB2.at hk
        have hkk : (k : Int) < (ys.length : Int) := by omega
        have hk0' : (0 : Int) ≤ (k : Int) := by omega
        have hmy : ys[k] ∈ ys := List.getElem_mem hk
        have hU2 := hU.right sa sb (by simpa using hk) (fun h => absurd (show i < xs.length by simpa using h) hi)
        rw [map_get hk] at hU2
        obtain ⟨yv, hyv⟩ : ∃ v, ys[k] = v := ⟨_, rfl⟩
        rw [hyv] at hcb hU2 hmy
        obtain ⟨ya, yb, yc, hysv⟩ : ∃ a b c, yv.1 = .slice a b c := by
          rw [hyv] at hib
          obtain ⟨a, c, e, _⟩ := hib
          exact ⟨_, _, _, e⟩
        rw [hysv] at hcb
        clear hib hyv LA2 LB2 ei
        go_wp2_with (at_builtin; refine wpList_append_lies _ rfl _ _ 40 rfl w.heap.size 48 i0 _ 1 24 Tryz.underlying40 hi0 hz0 hz1 hz2 rfl (by decide) _ zs.length (zs.map (·.1)) (by rfl) (hrow.alloc _) ⟨wr.heap.size, 0, none⟩ 1 1 [.slice ya yb yc] (by rfl) rfl (World.news_of_block (alloc_at _ _ _ (by simp))) (by simp [Value.oneCell']) (by decide) (by unfold maxLen; omega) (by omega) (by simp; omega) (wr.heap.size + 1) (by simp) ?_; intro g7 cap7 w7 hown7 hgrow7 hat7 hlt7)
        go_roundw
        case rel =>
          refine ⟨i, k + 1, zs ++ [yv], rfl, by go_num, hix, hk, by simp only [List.length_append, List.length_singleton, List.map_append, List.map_cons, List.map_nil, hysv]; exact hown7, fun z hz => ?_, by rw [List.map_append]; exact hU2, by simp; omega, below_grown (hbel.alloc hbel.size _) hgrow7 (fun z hz => (hrow.lt z hz).1)⟩
          rcases List.mem_append.1 hz with hz | hz
          · exact hin z hz
          · rw [List.mem_singleton.1 hz]; exact .inr hmy
        case measure => simp [intOf]; omega
      · have ek : k = ys.length := by omega
        have hkk : ¬ (k : Int) < (ys.length : Int) := by omega
        rw [ei, ek] at hU
        clear ei ek
        go_wp2
        go_ret
        first | exact ⟨_, zs, rfl, hrow, hin, hU, hbel⟩ | exact ⟨_, rfl, zs, hrow, hin, hU, hbel⟩ | exact ⟨_, rfl, zs, hrow, fun a b h => hin (a, b) h, hU, hbel⟩
end Go.Proofs.YtddbjcfdmdbmkaaGreatDoor

namespace Go.Proofs.YtddbjcfdmdbmkaaGreatDoor
open Go.RowKit

def soPreB (i g : Nat) : List UInt8 := if i = 0 then [] else [32, 116, 104, 101, 110, 32] ++ (match g with | 0 => [] | j + 1 => [110, 111, 116, 32] ++ (decL j ++ [32, 105, 102, 32, 105, 116, 46, 99, 32, 62, 32, 49, 32, 116, 104, 101, 110, 32]))
def soPostB (i : Nat) (me pr fi : UInt8) (q : Nat) : List UInt8 :=
  if q = 0 then [32, 105, 102, 32, 105, 116, 46, 97, 32, 62, 32, 48]
  else if i = 0 then []
  else if q = 1 then [32, 105, 102, 32] ++ ([me] ++ ([46, 97, 32, 62, 61, 32] ++ ([pr] ++ [46, 97, 32, 111, 114, 32, 105, 116, 46, 98, 32, 61, 32, 48])))
  else if q = 2 then [32, 105, 102, 32] ++ ([fi] ++ ([46, 98, 32, 43, 32, 105, 116, 46, 98, 32, 33, 61, 32, 50, 32, 97, 110, 100, 32, 105, 116, 46, 116, 32, 62, 32] ++ ([fi] ++ [46, 116])))
  else []
theorem so_post (i : Nat) (me pr fi : UInt8) (q : Nat) : layL (soC i me pr fi q) = soPostB i me pr fi q := by
  unfold soC soPostB
  split
  · rfl
  split
  · rfl
  split
  · rfl
  split
  · rfl
  · rfl
theorem so_one (fr i : Nat) (o : SO) (hi : i ≠ 0) : layL (soT fr i [o]) = soPreB i o.g ++ ([nameB (fr + i)] ++ ([58] ++ (decL o.k ++ soPostB i (nameB (fr + i)) (nameB (fr + i - 1)) (nameB fr) o.q))) := by
  unfold soT soT soL soPreB
  rw [if_neg hi, lay_app]
  show layL (soGT o.g) ++ layL (thenPc :: (stepPc [32] (nameB (fr + i)) (decL o.k) ++ soC i _ _ _ o.q ++ [])) = _
  rw [List.append_nil, ← so_post]
  cases o.g with
  | zero => simp [soGT, layL, thenPc, stepPc, lay_app]
  | succ j => simp [soGT, soG, layL, thenPc, stepPc, lay_app, ifPc, itPc]
theorem so_snocB (fr : Nat) (os : List SO) (o : SO) : layL (soSeq [] fr (os ++ [o])) = layL (soSeq [] fr os) ++ (soPreB os.length o.g ++ ([nameB (fr + os.length)] ++ ([58] ++ (decL o.k ++ soPostB os.length (nameB (fr + os.length)) (nameB (fr + os.length - 1)) (nameB fr) o.q)))) := by
  cases os with
  | nil =>
    show layL (soL [] 0 (nameB fr) (nameB (fr - 1)) (nameB fr) o ++ []) = [] ++ _
    rw [List.append_nil]
    unfold soL
    rw [lay_app, so_post]
    simp [layL, stepPc, soPreB]
  | cons a os =>
    show layL (soL [] 0 (nameB fr) (nameB (fr - 1)) (nameB fr) a ++ soT fr 1 (os ++ [o])) = layL (soL [] 0 (nameB fr) (nameB (fr - 1)) (nameB fr) a ++ soT fr 1 os) ++ _
    rw [soT_snoc, ← List.append_assoc, lay_app, so_one _ _ _ (by omega), show 1 + os.length = (a :: os).length by simp; omega]
def soOf (c : Nat) : SO := ⟨c % 3, if c / 20 % 5 ≤ 2 then c / 20 % 5 else 3, if c % 7 = 0 then c / 7 % 3 + 1 else 0⟩
def soOs (zs : List Int) (n : Nat) : List SO := (List.range n).map fun i => soOf (pickP (zs.getD i 0) 1000)
theorem so_okOf (c : Nat) : (soOf c).k ≤ 2 ∧ (soOf c).q ≤ 3 ∧ (soOf c).g ≤ 3 := by
  unfold soOf
  refine ⟨?_, ?_, ?_⟩
  · show c % 3 ≤ 2; omega
  · show (if c / 20 % 5 ≤ 2 then c / 20 % 5 else 3) ≤ 3
    split <;> omega
  · show (if c % 7 = 0 then c / 7 % 3 + 1 else 0) ≤ 3
    split <;> omega
theorem soOs_ok (zs : List Int) (n : Nat) : SoOK (soOs zs n) := by
  intro o ho
  obtain ⟨i, _, rfl⟩ := List.mem_map.1 ho
  exact so_okOf _
theorem soOs_len (zs : List Int) (n : Nat) : (soOs zs n).length = n := by unfold soOs; simp
theorem soOs_succ (zs : List Int) (n : Nat) : soOs zs (n + 1) = soOs zs n ++ [soOf (pickP (zs.getD n 0) 1000)] := by
  unfold soOs
  rw [List.range_succ, List.map_append]
  rfl
def stepsB (zs : List Int) (fr n : Nat) : List UInt8 := layL (soSeq [] fr (soOs zs n))
theorem steps_succ (zs : List Int) (fr n : Nat) : stepsB zs fr (n + 1) = stepsB zs fr n ++ (soPreB n (soOf (pickP (zs.getD n 0) 1000)).g ++ ([nameB (fr + n)] ++ ([58] ++ (decL (soOf (pickP (zs.getD n 0) 1000)).k ++ soPostB n (nameB (fr + n)) (nameB (fr + n - 1)) (nameB fr) (soOf (pickP (zs.getD n 0) 1000)).q)))) := by
  unfold stepsB
  rw [soOs_succ, so_snocB, soOs_len]
theorem steps_len {zs : List Int} {fr n : Nat} (hf : fr ≤ 3) (hn : n ≤ 4) (hl : fr + n ≤ 6) : (stepsB zs fr n).length ≤ 280 := by
  cases n with
  | zero => simp [stepsB, soOs, soSeq, layL]
  | succ n =>
    have h := (so_all (nb := 0) hf (soOs_ok zs (n + 1)) (by intro h; have := soOs_len zs (n + 1); rw [h] at this; simp at this) (by rw [soOs_len]; omega) (by rw [soOs_len]; omega) (by simp [nbs])).2.2.2.1
    rw [soOs_len] at h
    unfold stepsB
    omega
theorem soPre_len (i c : Nat) : (soPreB i (soOf c).g).length ≤ 40 := by
  have hg := (so_okOf c).2.2
  generalize (soOf c).g = g at *
  unfold soPreB
  split
  · simp
  · cases g with
    | zero => simp
    | succ j =>
      have := dec_len 8 j (by omega)
      simp
      omega
set_option maxRecDepth 100000 in
theorem numberK_p {w : World} {v : Value} {zs : List Int} (h : RawAt w v zs) (i : Nat) (hi : i ≤ 1000) : Calls Tryz.prog 50 #[v, .int .i64 (i : Nat)] w fun x w' => x = .returned (.int .i64 (zs.getD i 0)) ∧ w' = w := by
  obtain ⟨⟨a, c, rfl, hc⟩, _⟩ := h
  by_cases hlt : i < zs.length
  · obtain ⟨p, rfl, hp, hk⟩ := hc (by omega)
    have hcell := hk i hlt
    have e : zs.getD i 0 = zs[i] := by simp [List.getD, hlt]
    rw [e]
    generalize zs[i] = z at *
    have h1 : ¬ (zs.length : Int) ≤ (i : Int) := by omega
    have h2 : (i : Int) < (zs.length : Int) := by omega
    have h3 : (0 : Int) ≤ (i : Int) := by omega
    clear hk hc
    go_enter Tryz.func50, Tryz.ntmps50
    go_wp2
    go_ret
    exact ⟨rfl, rfl⟩
  · have e : zs.getD i 0 = 0 := by simp [List.getD, hlt]
    rw [e]
    have h1 : (zs.length : Int) ≤ (i : Int) := by omega
    clear hc
    go_enter Tryz.func50, Tryz.ntmps50
    go_wp2
    go_ret
    exact ⟨rfl, rfl⟩
theorem getD_in64 {w : World} {v : Value} {zs : List Int} (h : RawAt w v zs) (i : Nat) : In64 (zs.getD i 0) := by
  by_cases hlt : i < zs.length
  · have e : zs.getD i 0 = zs[i] := by simp [List.getD, hlt]
    rw [e]; exact h.in64 _ (List.getElem_mem hlt)
  · have e : zs.getD i 0 = 0 := by simp [List.getD, hlt]
    rw [e]; unfold In64; omega
end Go.Proofs.YtddbjcfdmdbmkaaGreatDoor

namespace Go.Proofs.YtddbjcfdmdbmkaaGreatDoor
open Go.RowKit

theorem str_ext {a b : ByteArray} (h : a.data.toList = b.data.toList) : a = b := by
  apply ByteArray.ext
  exact Array.ext' h
set_option maxRecDepth 100000 in
set_option maxHeartbeats 3200000 in
theorem steps_p {w : World} {rv : Value} {zs : List Int} (hraw : RawAt w rv zs) (n fr : Nat) (hn : n ≤ 4) (hf : fr ≤ 3) (hl : fr + n ≤ 6) :
    Calls Tryz.prog 28 #[rv, .int .i64 (n : Nat), .int .i64 (fr : Nat)] w fun x w' => ∃ S : ByteArray, x = .returned (.string S) ∧ S.data.toList = stepsB zs fr n ∧ Below w.heap.size w w' := by
  obtain ⟨va, vc, hrv, _⟩ := hraw.form
  subst hrv
  go_enter Tryz.func28, Tryz.ntmps28
  go_wp2
  go_loopw [7, 8] (fun sv iv wr => ∃ (i : Nat) (B : ByteArray), i ≤ n ∧ sv = .string B ∧ iv = .int .i64 (i : Nat) ∧ B.data.toList = stepsB zs fr i ∧ Below w.heap.size w wr) (fun _ iv _ => n - (intOf iv).toNat)
  case atStart => exact ⟨0, ⟨#[]⟩, Nat.zero_le _, rfl, rfl, rfl, Below.refl _ _⟩
  case round =>
    obtain ⟨i, B, hi, rfl, rfl, hB, hbel⟩ := hrel
    have hBl : B.size ≤ 280 := by
      have h1 : B.size = B.data.toList.length := by simp
      rw [h1, hB]
      exact steps_len hf (by omega) (by omega)
    by_cases hlt : i < n
    · have hni : (i : Int) < (n : Int) := by omega
      have hnum := numberK_p (hraw.to hbel) i (by omega)
      have hpk := fun w1 => pick_p (zs.getD i 0) 1000 (getD_in64 hraw i) (by omega) (by omega) w1
      have hck := pick_lt (zs.getD i 0) (show 0 < 1000 by omega)
      have HS : Hid _ := steps_succ zs fr i
      generalize pickP (zs.getD i 0) 1000 = c at *
      generalize zs.getD i 0 = z at *
      simp only [Int.cast_ofNat_Int] at hpk
      have hme := fun w1 => name_p (fr + i) (by omega) w1
      have e1 : ((fr + i : Nat) : Int) = (fr : Int) + (i : Int) := by omega
      rw [e1] at hme
      have hd1 := fun w1 => decimal_p (c % 3) (by omega) w1
      have e2 : ((c % 3 : Nat) : Int) = (c : Int) % 3 := by omega
      rw [e2] at hd1
      have hs1 := decL_size (n := c % 3) (by omega)
      clear e1 e2
      go_upto_region 6 with (first
        | (go_at_call 50; refine hnum.mono ?_; rintro x1 w1 ⟨rfl, e⟩; rw [e]; clear e w1)
        | (go_at_call 21; refine (hpk _).mono ?_; rintro x1 w1 ⟨rfl, e⟩; rw [e]; clear e w1))
      go_upto_if 21 with fail
      go_cut [7] from 11 to 83 (fun sv wx => ∃ B1 : ByteArray, sv = .string B1 ∧ B1.data.toList = stepsB zs fr i ++ soPreB i (soOf c).g ∧ wx = wr)
      case first =>
        by_cases hi0 : i = 0
        · have hi' : ¬ (0 : Int) < (i : Int) := by omega
          have HI : Hid (stepsB zs fr i = stepsB zs fr i ++ soPreB i (soOf c).g) := by
            show _ = _
            unfold soPreB
            rw [if_pos hi0, List.append_nil]
          clear hi0
          go_wp2
          go_meet
          exact ⟨B, rfl, by rw [← HI.out]; exact hB, rfl⟩
        · have hi' : (0 : Int) < (i : Int) := by omega
          have g1 : ¬ 9223372036854775807 < B.size + 6 := by omega
          by_cases hc7 : c % 7 = 0
          · have hc7' : (c : Int) % 7 = 0 := by omega
            have hd2 := fun w1 => decimal_p (c / 7 % 3) (by omega) w1
            have e2 : ((c / 7 % 3 : Nat) : Int) = (c : Int) / 7 % 3 := by omega
            rw [e2] at hd2
            clear e2
            have hs2 := decL_size (n := c / 7 % 3) (by omega)
            have eD : (txt (decL (c / 7 % 3))).data.toList = decL (c / 7 % 3) := by unfold txt; simp
            generalize txt (decL (c / 7 % 3)) = D at *
            have g2 : ¬ 9223372036854775807 < B.size + 6 + 4 := by omega
            have g3 : ¬ 9223372036854775807 < B.size + 6 + 4 + D.size := by omega
            have g4 : ¬ 9223372036854775807 < B.size + 6 + 4 + D.size + 18 := by omega
            go_wp2_with (go_at_call 33; refine (hd2 _).mono ?_; rintro x1 w1 ⟨rfl, e⟩; rw [e]; clear e w1)
            go_meet
            refine ⟨_, rfl, ?_, rfl⟩
            · have eg : (soOf c).g = c / 7 % 3 + 1 := by unfold soOf; simp [hc7]
              rw [eg]
              unfold soPreB
              rw [if_neg hi0]
              simp [hB, eD]
          · have hc7' : ((c : Int) % 7 == 0) = false := beq_eq_false_iff_ne.2 (by omega)
            go_wp2
            go_meet
            refine ⟨_, rfl, ?_, rfl⟩
            · have eg : (soOf c).g = 0 := by unfold soOf; simp [hc7]
              rw [eg]
              unfold soPreB
              rw [if_neg hi0]
              simp [hB]
      case rest =>
        obtain ⟨B1, rfl, hB1, e⟩ := hcut
        have hB1s : B1.size ≤ 320 := by
          have h1 : B1.size = B1.data.toList.length := by simp
          have h2 := soPre_len i c
          have h3 := steps_len (zs := zs) hf (show i ≤ 4 by omega) (by omega)
          rw [h1, hB1, List.length_append]
          omega
        rw [e]
        clear e wc hnum hpk
        have eD : (txt (decL (c % 3))).data.toList = decL (c % 3) := by unfold txt; simp
        generalize hDe : txt (decL (c % 3)) = D at *
        have ts : ∀ b : UInt8, (txt [b]).size = 1 := fun _ => rfl
        have tm := ts (nameB (fr + i))
        have tp := ts (nameB (fr + i - 1))
        have tf := ts (nameB fr)
        have em : (txt [nameB (fr + i)]).data.toList = [nameB (fr + i)] := rfl
        have ep : (txt [nameB (fr + i - 1)]).data.toList = [nameB (fr + i - 1)] := rfl
        have ef : (txt [nameB fr]).data.toList = [nameB fr] := rfl
        clear ts hDe
        generalize txt [nameB (fr + i)] = ME at *
        have g1 : ¬ 9223372036854775807 < B1.size + ME.size := by omega
        have g2 : ¬ 9223372036854775807 < B1.size + ME.size + 1 := by omega
        have g3 : ¬ 9223372036854775807 < B1.size + ME.size + 1 + D.size := by omega
        go_upto_region 11 with (go_at_call 23; refine (hme _).mono ?_; rintro x1 w1 ⟨rfl, hb1⟩)
        go_upto_region 12 with (go_at_call 33; refine (hd1 _).mono ?_; rintro x2 w2 ⟨rfl, e⟩; rw [e]; clear e w2)
        have Hk : Hid ((soOf c).k = c % 3) := rfl
        have hq5 : c / 20 % 5 = 0 ∨ c / 20 % 5 = 1 ∨ c / 20 % 5 = 2 ∨ c / 20 % 5 = 3 ∨ c / 20 % 5 = 4 := by omega
        rcases hq5 with hq | hq | hq | hq | hq
        · have hq' : (c : Int) / 20 % 5 = 0 := by omega
          have g4 : ¬ 9223372036854775807 < B1.size + ME.size + 1 + D.size + 12 := by omega
          have Hq : Hid ((soOf c).q = 0) := by show _ = _; unfold soOf; simp [hq]
          clear hq
          go_wp2
          go_roundw
          case rel =>
            refine ⟨i + 1, _, hlt, rfl, by go_num, ?_, hbel.trans (hb1.mono hbel.size)⟩
            rw [HS.out, Hq.out]
            unfold soPostB
            simp [hB1, em, eD, Hk.out]
          case measure => simp [intOf]; omega
        · have hq' : (c : Int) / 20 % 5 = 1 := by omega
          have Hq : Hid ((soOf c).q = 1) := by show _ = _; unfold soOf; simp [hq]
          clear hq
          by_cases hi0 : i = 0
          · have hi' : ¬ (0 : Int) < (i : Int) := by omega
            have HI : Hid (soPostB i (nameB (fr + i)) (nameB (fr + i - 1)) (nameB fr) 1 = []) := by show _ = _; unfold soPostB; simp [hi0]
            clear hi0
            go_wp2
            go_roundw
            case rel =>
              refine ⟨i + 1, _, hlt, rfl, by go_num, ?_, hbel.trans (hb1.mono hbel.size)⟩
              rw [HS.out, Hq.out, HI.out]
              simp [hB1, em, eD, Hk.out]
            case measure => simp [intOf]; omega
          · have hi' : (0 : Int) < (i : Int) := by omega
            have g4 : ¬ 9223372036854775807 < B1.size + ME.size + 1 + D.size + 4 := by omega
            have g5 : ¬ 9223372036854775807 < B1.size + ME.size + 1 + D.size + 4 + ME.size := by omega
            have g6 : ¬ 9223372036854775807 < B1.size + ME.size + 1 + D.size + 4 + ME.size + 6 := by omega
            have hpr := fun w1 => name_p (fr + i - 1) (by omega) w1
            have e1 : ((fr + i - 1 : Nat) : Int) = (fr : Int) + (i : Int) - 1 := by omega
            rw [e1] at hpr
            clear e1
            generalize txt [nameB (fr + i - 1)] = PR at *
            have g7 : ¬ 9223372036854775807 < B1.size + ME.size + 1 + D.size + 4 + ME.size + 6 + PR.size := by omega
            have g8 : ¬ 9223372036854775807 < B1.size + ME.size + 1 + D.size + 4 + ME.size + 6 + PR.size + 14 := by omega
            go_wp2_with (go_at_call 23; refine (hpr _).mono ?_; rintro x3 w3 ⟨rfl, hb3⟩)
            go_roundw
            case rel =>
              refine ⟨i + 1, _, hlt, rfl, by go_num, ?_, (hbel.trans (hb1.mono hbel.size)).trans (hb3.mono (Nat.le_trans hbel.size hb1.size))⟩
              rw [HS.out, Hq.out]
              unfold soPostB
              simp [hB1, em, ep, ef, eD, Hk.out, hi0]
            case measure => simp [intOf]; omega
        · have hq' : (c : Int) / 20 % 5 = 2 := by omega
          have Hq : Hid ((soOf c).q = 2) := by show _ = _; unfold soOf; simp [hq]
          clear hq
          by_cases hi0 : i = 0
          · have hi' : ¬ (0 : Int) < (i : Int) := by omega
            have HI : Hid (soPostB i (nameB (fr + i)) (nameB (fr + i - 1)) (nameB fr) 2 = []) := by show _ = _; unfold soPostB; simp [hi0]
            clear hi0
            go_wp2
            go_roundw
            case rel =>
              refine ⟨i + 1, _, hlt, rfl, by go_num, ?_, hbel.trans (hb1.mono hbel.size)⟩
              rw [HS.out, Hq.out, HI.out]
              simp [hB1, em, eD, Hk.out]
            case measure => simp [intOf]; omega
          · have hi' : (0 : Int) < (i : Int) := by omega
            have g4 : ¬ 9223372036854775807 < B1.size + ME.size + 1 + D.size + 4 := by omega
            have hfi := fun w1 => name_p fr (by omega) w1
            generalize txt [nameB fr] = FI at *
            have g5 : ¬ 9223372036854775807 < B1.size + ME.size + 1 + D.size + 4 + FI.size := by omega
            have g6 : ¬ 9223372036854775807 < B1.size + ME.size + 1 + D.size + 4 + FI.size + 26 := by omega
            have g7 : ¬ 9223372036854775807 < B1.size + ME.size + 1 + D.size + 4 + FI.size + 26 + FI.size := by omega
            have g8 : ¬ 9223372036854775807 < B1.size + ME.size + 1 + D.size + 4 + FI.size + 26 + FI.size + 2 := by omega
            go_wp2_with (first
              | (go_at_call 23; refine (hfi _).mono ?_; rintro x3 w3 ⟨rfl, hb3⟩; have HB3 : Hid (Below w.heap.size w w3) := (by first | exact HB3.out.trans (hb3.mono HB3.out.size) | exact (hbel.trans (hb1.mono hbel.size)).trans (hb3.mono (Nat.le_trans hbel.size hb1.size)))))
            go_roundw
            case rel =>
              refine ⟨i + 1, _, hlt, rfl, by go_num, ?_, HB3.out⟩
              rw [HS.out, Hq.out]
              unfold soPostB
              simp [hB1, em, ep, ef, eD, Hk.out, hi0]
            case measure => simp [intOf]; omega
        · have hq' : (c : Int) / 20 % 5 = 3 := by omega
          have Hq : Hid ((soOf c).q = 3) := by show _ = _; unfold soOf; simp [hq]
          clear hq
          go_wp2
          go_roundw
          case rel =>
            refine ⟨i + 1, _, hlt, rfl, by go_num, ?_, hbel.trans (hb1.mono hbel.size)⟩
            rw [HS.out, Hq.out]
            unfold soPostB
            simp [hB1, em, eD, Hk.out]
          case measure => simp [intOf]; omega
        · have hq' : (c : Int) / 20 % 5 = 4 := by omega
          have Hq : Hid ((soOf c).q = 3) := by show _ = _; unfold soOf; simp [hq]
          clear hq
          go_wp2
          go_roundw
          case rel =>
            refine ⟨i + 1, _, hlt, rfl, by go_num, ?_, hbel.trans (hb1.mono hbel.size)⟩
            rw [HS.out, Hq.out]
            unfold soPostB
            simp [hB1, em, eD, Hk.out]
          case measure => simp [intOf]; omega
    · have ei : i = n := by omega
      subst ei
      have hni : ¬ (i : Int) < (i : Int) := by omega
      go_wp2
      go_ret
      exact ⟨B, rfl, hB, hbel⟩
end Go.Proofs.YtddbjcfdmdbmkaaGreatDoor
