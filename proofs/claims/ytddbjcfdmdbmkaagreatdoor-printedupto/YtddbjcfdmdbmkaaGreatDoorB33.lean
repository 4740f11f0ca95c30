import Derived.Test.YtddbjcfdmdbmkaaGreatDoorB32
import Derived.Test.YtddbjcfdmdbmkaaGreatDoorB26
import Derived.Test.YtddbjcfdmdbmkaaGreatDoorB02
set_option linter.unusedVariables false
set_option linter.unusedSimpArgs false
namespace Go.Proofs.YtddbjcfdmdbmkaaGreatDoor
open Go.RowKit

def decN : Nat → Nat → List UInt8
  | 0, _ => []
  | f + 1, n => if n < 10 then [UInt8.ofNat (48 + n)] else decN f (n / 10) ++ [UInt8.ofNat (48 + n % 10)]
def decL (n : Nat) : List UInt8 := decN (n + 1) n
theorem dec_fuel : ∀ f g n, n < f → n < g → decN f n = decN g n := by
  intro f
  induction f with
  | zero => intro g n h; omega
  | succ f ih =>
    intro g n h1 h2
    cases g with
    | zero => omega
    | succ g =>
      unfold decN
      split
      · rfl
      · rw [ih g (n / 10) (by omega) (by omega)]
theorem dec_step {n : Nat} (h : ¬ n < 10) : decL n = decL (n / 10) ++ [UInt8.ofNat (48 + n % 10)] := by
  unfold decL
  conv => lhs; unfold decN
  rw [if_neg h, dec_fuel n (n / 10 + 1) (n / 10) (by omega) (by omega)]
theorem dec_small {n : Nat} (h : n < 10) : decL n = [UInt8.ofNat (48 + n)] := by unfold decL decN; rw [if_pos h]
theorem dec_digit {d : Nat} (h : d < 10) : isDigitB (UInt8.ofNat (48 + d)) = true ∧ (UInt8.ofNat (48 + d)).toNat - 48 = d := by
  have key : ∀ d : Fin 10, isDigitB (UInt8.ofNat (48 + d.val)) = true ∧ (UInt8.ofNat (48 + d.val)).toNat - 48 = d.val := by decide +kernel
  exact key ⟨d, h⟩
theorem dec_all (n : Nat) : (decL n).all isDigitB = true ∧ 1 ≤ (decL n).length ∧ numVal (txt (decL n)) = n := by
  induction n using Nat.strongRecOn with
  | _ n ih =>
    by_cases h : n < 10
    · rw [dec_small h]
      refine ⟨by simp only [List.all_cons, List.all_nil, (dec_digit h).1, Bool.and_true], by simp, ?_⟩
      unfold numVal txt
      simp only [List.toList_toArray, List.foldl_cons, List.foldl_nil, (dec_digit h).2]
      omega
    · obtain ⟨h1, h2, h3⟩ := ih (n / 10) (by omega)
      rw [dec_step h]
      have hd := dec_digit (show n % 10 < 10 by omega)
      refine ⟨by rw [List.all_append, h1]; simp only [List.all_cons, List.all_nil, hd.1, Bool.and_true], by simp, ?_⟩
      unfold numVal txt at h3 ⊢
      simp only [List.toList_toArray] at h3 ⊢
      rw [List.foldl_append, h3]
      simp only [List.foldl_cons, List.foldl_nil, hd.2]
      omega
theorem dec_len : ∀ k n, n < 10 ^ (k + 1) → (decL n).length ≤ k + 1 := by
  intro k
  induction k with
  | zero => intro n h; rw [dec_small (by simpa using h)]; simp
  | succ k ih =>
    intro n h
    by_cases h10 : n < 10
    · rw [dec_small h10]; simp
    · rw [dec_step h10, List.length_append]
      have := ih (n / 10) (by rw [Nat.pow_succ] at h; omega)
      simp; omega
def tenK : ByteArray := ⟨#[48, 49, 50, 51, 52, 53, 54, 55, 56, 57]⟩
theorem tenK_at (d : Nat) (h : d < 10) : tenK.extract d (d + 1) = ⟨[UInt8.ofNat (48 + d)].toArray⟩ := by
  have key : ∀ d : Fin 10, (tenK.extract d.val (d.val + 1)).data.toList = [UInt8.ofNat (48 + d.val)] := by decide +kernel
  apply ByteArray.ext
  apply Array.toList_inj.1
  have := key ⟨d, h⟩
  simpa using this
def decR (n : Nat) (v : Nat) (m : List UInt8) : Prop := (if v = 0 then m else decL v ++ m) = decL n
theorem decR_start (n : Nat) : decR n (n / 10) [UInt8.ofNat (48 + n % 10)] := by
  unfold decR
  by_cases h : n < 10
  · rw [if_pos (by omega), dec_small h, Nat.mod_eq_of_lt h]
  · rw [if_neg (by omega), ← dec_step h]
theorem decR_step {n v : Nat} {m : List UInt8} (h : decR n v m) (hv : 0 < v) : decR n (v / 10) (UInt8.ofNat (48 + v % 10) :: m) := by
  have := decR_start v
  unfold decR at h this ⊢
  rw [if_neg (by omega)] at h
  rw [← h, ← this]
  split
  · simp
  · simp
theorem decR_len {n v : Nat} {m : List UInt8} (hn : n ≤ 1000000000000) (h : decR n v m) : m.length ≤ 13 := by
  have h1 := dec_len 12 n (by omega)
  have h2 := congrArg List.length h
  split at h2
  · omega
  · rw [List.length_append] at h2; omega
set_option maxRecDepth 100000 in
set_option maxHeartbeats 1600000 in
theorem decimal_p (n : Nat) (hn : n ≤ 1000000000000) (w : World) : Calls Tryz.prog 33 #[.int .i64 n] w fun e w' => e = .returned (.string (txt (decL n))) ∧ w' = w := by
  have hs := decR_start n
  have hx := tenK_at (n % 10) (by omega)
  unfold tenK at hx
  have h0 : (0 : Int) ≤ (n : Int) := by omega
  go_enter Tryz.func33, Tryz.ntmps33
  go_wp2
  go_loopw [0, 4] (fun a b wr => ∃ (v : Nat) (m : List UInt8), v ≤ 1000000000000 ∧ a = .int .i64 v ∧ b = .string ⟨m.toArray⟩ ∧ decR n v m ∧ wr = w) (fun a _ _ => (intOf a).toNat)
  case atStart => exact ⟨n / 10, _, by omega, by simp, by rw [hx], hs, rfl⟩
  case round =>
    obtain ⟨v, m, hv, rfl, rfl, hr, rfl⟩ := hrel
    clear hs hx
    by_cases hp : 0 < v
    · have hp' : (0 : Int) < (v : Int) := by omega
      have h0v : (0 : Int) ≤ (v : Int) := by omega
      have hx := tenK_at (v % 10) (by omega)
      unfold tenK at hx
      have hst := decR_step hr hp
      have hml : ¬ 9223372036854775807 < 1 + m.length := by have := decR_len hn hr; omega
      go_wp2
      go_roundw
      case rel => exact ⟨v / 10, UInt8.ofNat (48 + v % 10) :: m, by omega, by simp, by congr 1; apply ByteArray.ext; simp, hst, trivial⟩
      case measure => simp [intOf]; omega
    · have hp' : v = 0 := by omega
      subst hp'
      go_wp2
      go_ret
      have : decL n = m := by unfold decR at hr; rw [if_pos rfl] at hr; exact hr.symm
      unfold txt
      rw [this]; exact ⟨rfl, rfl⟩
end Go.Proofs.YtddbjcfdmdbmkaaGreatDoor

namespace Go.Proofs.YtddbjcfdmdbmkaaGreatDoor
open Go.RowKit

def headB (W R : Nat) : ByteArray := ⟨#[119, 105, 116, 104, 105, 110, 32]⟩ ++ txt (decL W) ++ ⟨#[32, 114, 97, 116, 101, 32]⟩ ++ txt (decL R) ++ ⟨#[32]⟩
theorem txt_size (l : List UInt8) : (txt l).size = l.length := by show l.toArray.size = _; simp
set_option maxRecDepth 100000 in
set_option maxHeartbeats 1600000 in
theorem head_p (W R : Nat) (hW : W ≤ 999999999) (hR : R ≤ 999999999) (w : World) : Calls Tryz.prog 22 #[.int .i64 W, .int .i64 R] w fun e w' => e = .returned (.string (headB W R)) ∧ w' = w := by
  have h1 := dec_len 8 W (by omega)
  have h2 := dec_len 8 R (by omega)
  have hdec : ∀ n : Nat, n ≤ 999999999 → ∀ w1, Calls Tryz.prog 33 #[.int .i64 n] w1 fun e w' => e = .returned (.string (txt (decL n))) ∧ w' = w1 := fun n h w1 => decimal_p n (by omega) w1
  rw [← txt_size] at h1 h2
  unfold headB
  have g1 : ¬ 9223372036854775807 < 7 + (txt (decL W)).size := by omega
  have g2 : ¬ 9223372036854775807 < 7 + (txt (decL W)).size + 6 := by omega
  have g3 : ¬ 9223372036854775807 < 7 + (txt (decL W)).size + 6 + (txt (decL R)).size := by omega
  have g4 : ¬ 9223372036854775807 < 7 + (txt (decL W)).size + 6 + (txt (decL R)).size + 1 := by omega
  clear h1 h2
  go_enter Tryz.func22, Tryz.ntmps22
  go_wp2_with (first
    | (go_at_call 33; refine (hdec _ (by assumption) _).mono ?_; rintro x1 w1 ⟨rfl, rfl⟩))
  go_ret
  exact ⟨rfl, rfl⟩
def nameB (i : Nat) : UInt8 := UInt8.ofNat (117 + i)
set_option maxRecDepth 100000 in
set_option maxHeartbeats 1600000 in
theorem name_p (i : Nat) (hi : i < 6) (w : World) : Calls Tryz.prog 23 #[.int .i64 i] w fun e w' => e = .returned (.string (txt [nameB i])) ∧ Below w.heap.size w w' := by
  match i, hi with
  | 0, _ | 1, _ | 2, _ | 3, _ | 4, _ | 5, _ =>
    go_enter Tryz.func23, Tryz.ntmps23
    go_wp2
    go_ret
    exact ⟨rfl, (Below.refl _ w).alloc (Nat.le_refl _) _⟩
def accN (n : Nat) : Nat → Nat
  | 0 => 1
  | i + 1 => accN n i * (n - i) / (i + 1)
theorem acc_tab : ((List.range 10).all fun n => (List.range 6).all fun i => decide (accN n i ≤ 200) && decide (n < i → accN n i = 0) && decide ((if n < i then 0 else accN n i) = cho n i)) = true := by kernel_rfl
theorem acc_at {n i : Nat} (hn : n ≤ 9) (hi : i ≤ 5) : accN n i ≤ 200 ∧ (n < i → accN n i = 0) ∧ (if n < i then 0 else accN n i) = cho n i := by
  have := List.all_eq_true.1 acc_tab n (List.mem_range.2 (by omega))
  have := List.all_eq_true.1 this i (List.mem_range.2 (by omega))
  simp only [Bool.and_eq_true, decide_eq_true_eq] at this
  exact ⟨this.1.1, this.1.2, this.2⟩
theorem acc_mul {n i : Nat} (hn : n ≤ 9) (hi : i ≤ 5) : (accN n i : Int) * ((n : Int) - (i : Int)) = ((accN n i * (n - i) : Nat) : Int) := by
  by_cases h : n < i
  · rw [(acc_at hn hi).2.1 h]; simp
  · rw [Int.natCast_mul]
    congr 1
    omega
set_option maxRecDepth 100000 in
set_option maxHeartbeats 1600000 in
theorem choose_p (n k : Nat) (hn : n ≤ 9) (hk : k ≤ 5) (w : World) : Calls Tryz.prog 25 #[.int .i64 n, .int .i64 k] w fun e w' => e = .returned (.int .i64 (cho n k : Nat)) ∧ w' = w := by
  go_enter Tryz.func25, Tryz.ntmps25
  go_wp2
  go_loopw [5, 6] (fun a b wr => ∃ i : Nat, i ≤ k ∧ a = .int .i64 (accN n i : Nat) ∧ b = .int .i64 (i : Nat) ∧ wr = w) (fun _ b _ => k - (intOf b).toNat)
  case atStart => exact ⟨0, Nat.zero_le _, rfl, rfl, rfl⟩
  case round =>
    obtain ⟨i, hik, rfl, rfl, rfl⟩ := hrel
    obtain ⟨t1, t2, t3⟩ := acc_at (i := i) hn (by omega)
    by_cases hp : i < k
    · have hp' : (i : Int) < (k : Int) := by omega
      have hm := acc_mul (i := i) hn (by omega)
      have hst : accN n (i + 1) = accN n i * (n - i) / (i + 1) := rfl
      have hb : accN n i * (n - i) ≤ 2000 := Nat.le_trans (Nat.mul_le_mul t1 (show n - i ≤ 9 by omega)) (by omega)
      generalize accN n i * (n - i) = p at *
      generalize hcc : accN n i = c at *
      clear t2 t3
      have hwr : wrap64 ((p : Int) / ((i : Int) + 1)) = ((p / (i + 1) : Nat) : Int) := by
        have e : (p : Int) / ((i : Int) + 1) = ((p / (i + 1) : Nat) : Int) := by rw [Int.natCast_ediv]; rfl
        have hle : p / (i + 1) ≤ p := Nat.div_le_self _ _
        rw [e]
        generalize p / (i + 1) = r at *
        unfold wrap64
        omega
      go_wp2
      go_roundw
      case rel => exact ⟨i + 1, by omega, by rw [hst, hwr], by simp, trivial⟩
      case measure => simp [intOf]; omega
    · have hik' : i = k := by omega
      subst hik'
      by_cases hlt : n < i
      · have hlt' : (n : Int) < (i : Int) := by omega
        go_wp2
        go_ret
        refine ⟨?_, rfl⟩
        rw [if_pos hlt] at t3
        rw [← t3]; rfl
      · have hlt' : ¬ (n : Int) < (i : Int) := by omega
        go_wp2
        go_ret
        refine ⟨?_, rfl⟩
        rw [if_neg hlt] at t3
        rw [← t3]; rfl
end Go.Proofs.YtddbjcfdmdbmkaaGreatDoor

namespace Go.Proofs.YtddbjcfdmdbmkaaGreatDoor
open Go.RowKit

def st1 : List ByteArray := [] ++ [tStar, tSlash]
def st2 : List ByteArray := st1 ++ [tPlus, tMinus]
def st3 : List ByteArray := st2 ++ [tAnd]
def st4 : List ByteArray := st3 ++ [tOr]
theorem st_a : ∀ s ∈ [tStar, tSlash], off [] s = true := fun _ _ => rfl
theorem st_b : ∀ s ∈ [tPlus, tMinus], off st1 s = true := by
  intro s hs
  simp only [List.mem_cons, List.not_mem_nil, or_false] at hs
  rcases hs with rfl | rfl <;> kernel_rfl
theorem st_c : ∀ s ∈ sTest, off st2 s = true := by
  intro s hs
  unfold sTest at hs
  simp only [List.mem_cons, List.not_mem_nil, or_false] at hs
  rcases hs with rfl | rfl | rfl | rfl | rfl | rfl <;> kernel_rfl
theorem st_d : ∀ s ∈ [tAnd], off st2 s = true := by
  intro s hs
  rw [List.mem_singleton.1 hs]; kernel_rfl
theorem st_e : ∀ s ∈ [tOr], off st3 s = true := by
  intro s hs
  rw [List.mem_singleton.1 hs]; kernel_rfl
theorem st_all : ∀ t, off stopAll t = true → off st4 t = true := off_sub (by
  intro x hx
  unfold st4 st3 st2 st1 at hx
  unfold stopAll
  simp only [List.mem_append, List.mem_cons, List.not_mem_nil, or_false, false_or] at hx ⊢
  rcases hx with ((h | h) | h) | h
  · rcases h with h | h
    · exact .inl (.inl (.inl h))
    · exact .inl (.inl (.inr (.inl h)))
  · rcases h with h | h
    · exact .inl (.inl (.inr (.inr (.inl h))))
    · exact .inl (.inl (.inr (.inr (.inr h))))
  · exact .inr (.inl h)
  · exact .inr (.inr (.inl h)))
section
variable {m n : Nat} {f : Rd → Rd} {L L' A B : List Pc} {bo bo' a b : List BOp}
theorem prod1 (h : Rds m f L bo []) : Rds m (productP f) L bo st1 := rds_one h st_a
theorem prodN (h : Rds m f L bo []) (h' : Items m f [tStar, tSlash] [] L' bo') : Rds m (productP f) (L ++ L') (bo ++ bo') st1 := rds_chain h h' st_a
theorem sum1 (h : Rds m (productP f) L bo st1) : Rds m (sumP f) L bo st2 := rds_one h st_b
theorem sumN (h : Rds m (productP f) L bo st1) (h' : Items m (productP f) [tPlus, tMinus] st1 L' bo') : Rds m (sumP f) (L ++ L') (bo ++ bo') st2 := rds_chain h h' st_b
theorem test1 {g s : List UInt8} (ha : Rds m (sumP f) A a st2) (hb : Rds m (sumP f) B b st2) (hs : txt s ∈ sTest) : Rds m (testP f) (A ++ ⟨g, 5, s⟩ :: B) (a ++ (b ++ [(txt s, 0, ⟨#[]⟩)])) st2 := rds_test ha hb hs st_c
theorem both1 (h : Rds m (testP f) L bo st2) : Rds m (bothP f) L bo st3 := rds_one h st_d
theorem bothN (h : Rds m (testP f) L bo st2) (h' : Items m (testP f) [tAnd] st2 L' bo') : Rds m (bothP f) (L ++ L') (bo ++ bo') st3 := rds_chain h h' st_d
theorem or1 (h : Rds m (bothP f) L bo st3) : Rds m (chainP (bothP f) [tOr]) L bo st4 := rds_one h st_e
theorem orN (h : Rds m (bothP f) L bo st3) (h' : Items m (bothP f) [tOr] st3 L' bo') : Rds m (chainP (bothP f) [tOr]) (L ++ L') (bo ++ bo') st4 := rds_chain h h' st_e
theorem condOf {g : List UInt8} (h : Rds m (chainP (bothP (factorP n)) [tOr]) L bo st4) : RdC m n (⟨g, 4, [105, 102]⟩ :: L) bo stopAll := rdc_if (h.stop st_all)
theorem condNone : RdC m n [] [] stopAll := by
  intro ts ht r rest d o hd ho
  exact rdc_none ts ht r rest d o (by omega) (off_sub (by simp [stopAll]) _ ho)
theorem condOne {g g1 s : List UInt8} (ha : Rds m (factorP n) A a []) (hb : Rds m (factorP n) B b []) (hs : txt s ∈ sTest) : RdC m n (⟨g, 4, [105, 102]⟩ :: (A ++ ⟨g1, 5, s⟩ :: B)) (a ++ (b ++ [(txt s, 0, ⟨#[]⟩)])) stopAll :=
  condOf (or1 (both1 (test1 (sum1 (prod1 ha)) (sum1 (prod1 hb)) hs)))
end
def fldPc (g : List UInt8) (x f : UInt8) : List Pc := [⟨g, 3, [x]⟩, ⟨[], 5, [46]⟩, ⟨[], 3, [f]⟩]
def itPc (g : List UInt8) (f : UInt8) : List Pc := [⟨g, 4, [105, 116]⟩, ⟨[], 5, [46]⟩, ⟨[], 3, [f]⟩]
def fldOp (x f : UInt8) : BOp := (txt [f], 0, txt [x])
def itOp (f : UInt8) : BOp := (txt [f], 0, ⟨#[]⟩)
theorem rds_fldPc {n : Nat} {g : List UInt8} {x f : UInt8} (h1 : off [tMinus] (txt [x]) = true) (h2 : off [tOpen] (txt [x]) = true) (hf : txt [f] ∈ sField) : Rds 0 (factorP (n + 1)) (fldPc g x f) [fldOp x f] [] := rds_fld h1 h2 hf
theorem rds_itPc {n : Nat} {g : List UInt8} {f : UInt8} (hf : txt [f] ∈ sField) : Rds 0 (factorP (n + 1)) (itPc g f) [itOp f] [] := rds_it hf
theorem fA : txt [97] ∈ sField := by simp [sField, txt]
theorem fB : txt [98] ∈ sField := by simp [sField, txt]
theorem fC : txt [99] ∈ sField := by simp [sField, txt]
theorem fT : txt [116] ∈ sField := by simp [sField, txt]
theorem cEq : txt [61] ∈ sTest := by simp [sTest, txt]
theorem cNe : txt [33, 61] ∈ sTest := by simp [sTest, txt]
theorem cLt : txt [60] ∈ sTest := by simp [sTest, txt]
theorem cLe : txt [60, 61] ∈ sTest := by simp [sTest, txt]
theorem cGt : txt [62] ∈ sTest := by simp [sTest, txt]
theorem cGe : txt [62, 61] ∈ sTest := by simp [sTest, txt]
def stepPc (g : List UInt8) (x : UInt8) (k : List UInt8) : List Pc := [⟨g, 3, [x]⟩, ⟨[], 5, [58]⟩, ⟨[], 2, k⟩]
def ifPc : Pc := ⟨[32], 4, [105, 102]⟩
def thenPc : Pc := ⟨[32], 4, [116, 104, 101, 110]⟩
def exText : ByteArray := ⟨#[119, 105, 116, 104, 105, 110, 32, 49, 48, 32, 114, 97, 116, 101, 32, 53, 32, 120, 58, 49, 32, 116, 104, 101, 110, 32, 121, 58, 50, 32, 105, 102, 32, 121, 46, 97, 32, 61, 32, 120, 46, 97]⟩
def exL : List Pc := stepPc [32] 120 [49] ++ (thenPc :: ((stepPc [32] 121 [50] ++ (ifPc :: (fldPc [32] 121 97 ++ ⟨[32], 5, [61]⟩ :: fldPc [32] 120 97))) ++ []))
def exX : List Lf := [⟨txt [120], 1, numVal (txt [49]), []⟩, ⟨txt [121], 1, numVal (txt [50]), [fldOp 121 97] ++ ([fldOp 120 97] ++ [(txt [61], 0, ⟨#[]⟩)])⟩]
theorem ex_read (n : Nat) : RdQ 0 (n + 8) exL exX := by
  refine rdq_seq (rdp_step condNone (.inl rfl) (by decide)) (.cons (rdp_step (condOne (rds_fldPc (by kernel_rfl) (by kernel_rfl) fA) (rds_fldPc (by kernel_rfl) (by kernel_rfl) fA) cEq) (.inr ⟨_, _, rfl⟩) (by decide)) .nil)
theorem ex_text : TextOK exText 10 5 5 [stepsL (rowL exX)] := by
  have e1 : numVal (txt [49, 48]) = 10 := by kernel_rfl
  have e2 : numVal (txt [53]) = 5 := by kernel_rfl
  have e3 : mostP 5 (cntL (rowL exX)) = 5 := by kernel_rfl
  have e4 : exText.size = 42 := by kernel_rfl
  have := text_flat (S := exText) (g := []) (W := [49, 48]) (R := [53]) (L := exL) (xs := exX) (by kernel_rfl) (by kernel_rfl) (by rw [e4]; omega) (m := 0) (by omega) (by rw [e1]; omega) (by rw [e2]; omega) (by decide) ex_read (by kernel_rfl)
  rw [e1, e2, e3] at this
  exact this
end Go.Proofs.YtddbjcfdmdbmkaaGreatDoor

namespace Go.Proofs.YtddbjcfdmdbmkaaGreatDoor
open Go.RowKit

theorem Chg.bel {M : Nat → Prop} {w w' : World} (h : Chg M w w') {k : Nat} (hk : k ≤ w.heap.size) (hM : ∀ b, M b → k ≤ b) : Below k w w' := ⟨h.os, h.tape, h.output, Chg.size h, fun b hb => h.at b (by omega) (fun m => by have := hM b m; omega)⟩
structure ListsR (w : World) (v : Value) (ys : List (List Nat)) : Prop where
  form : ∃ a c, v = .slice a ys.length c ∧ (0 < ys.length → ∃ g, a = some ⟨g, 0, none⟩ ∧ g < w.heap.size ∧ ∀ k, (hk : k < ys.length) → ∃ u, w.cell? ⟨g, k, none⟩ = some u ∧ IntsAt w u ys[k])
theorem ListsAt.read {B : Nat} {w : World} {v : Value} {ys : List VL} (h : ListsAt B w v ys) : ListsR w v (ys.map (·.2)) := by
  refine ⟨?_⟩
  rcases h.row.2 with ⟨rfl, h0⟩ | ⟨g, cap, cur, rfl, _, hg, _⟩
  · exact ⟨none, 0, by rw [List.length_map, h0], fun hp => by rw [List.length_map] at hp; omega⟩
  · refine ⟨_, _, by rw [List.length_map], fun _ => ⟨g, rfl, (Array.getElem?_eq_some_iff.1 hg).1, fun k hk => ?_⟩⟩
    have hk' : k < ys.length := by simpa using hk
    refine ⟨ys[k].1, ?_, ?_⟩
    · have := h.row.cells (g := g) rfl k ys[k].1 (by rw [List.getElem?_map, List.getElem?_eq_getElem hk']; rfl)
      rw [addr_add, Nat.zero_add] at this; exact this
    · have := IntsAt.of_row (h.inner ys[k] (List.getElem_mem hk'))
      simpa using this
theorem feed_go {S : Nat → Prop} {w : World} {E bd : Nat} {c : WC} {evs : List Ev} (h : Eng S w E bd 0 c evs) (hc : WellE c) (hel : evs.length ≤ 100000000) (e : Ev) (he : In64 e.time) (hz : feedFP c.win c.rate evs e.time = 0) :
    Calls Tryz.prog 27 #[.pointer (some ⟨E, 0, none⟩), evVal e] w fun x w' => ∃ S' v B ys, x = .returned (.tuple #[v, .int .i64 0]) ∧ (∀ b, S' b → S b ∨ w.heap.size ≤ b) ∧ Chg S w w' ∧ ListsAt B w' v ys ∧ w.heap.size ≤ B ∧ (∀ b, (v.ownBlock = some b ∨ ∃ y ∈ ys, y.1.ownBlock = some b) → ¬ S' b) ∧ SortedL (ys.map (·.2)) ∧ (∀ t, t ∈ ys.map (·.2) ↔ MatchOK (absP c.paths) c.win (evs ++ [e]) t) ∧ Eng S' w' E bd 0 c (evs ++ [e]) := by
  refine (feed_eng h hc hel e he).mono ?_
  rintro x w' ⟨S', f', evs', h1, h2, h3, h4⟩
  generalize hf0 : (0 : Nat) = f0 at h3
  cases h3 with
  | failed hf => exact absurd hf0.symm hf
  | fault hf => exact absurd hz hf
  | ok h5 h6 h7 h8 h9 h10 => exact ⟨S', _, _, _, rfl, h1, h2, h6, h7, h8, h9, h10, h4⟩
def exPaths : List (List ASt) := absP [stepsL (rowL exX)]
def exE1 : Ev := ⟨0, 1, 7, 0, 0⟩
def exE2 : Ev := ⟨9, 2, 7, 0, 0⟩
theorem ex_m1 : allMatches exPaths 10 [exE1] = [] := by kernel_rfl
theorem ex_m2 : allMatches exPaths 10 [exE1, exE2] = [[0, 1]] := by kernel_rfl
theorem ex_ne : ∀ p ∈ exPaths, p ≠ [] := by
  intro p hp
  have e : exPaths.all (fun p => !p.isEmpty) = true := by kernel_rfl
  have := List.all_eq_true.1 e p hp
  rintro rfl
  simp at this
theorem mono1 (e : Ev) : Mono [e] := by
  intro i j hij hj
  simp at hj
  subst hj
  have : i = 0 := by omega
  rw [this]; exact Int.le_refl _
theorem mono2 {e f : Ev} (h : e.time ≤ f.time) : Mono [e, f] := by
  intro i j hij hj
  simp at hj
  match i, j, hij, hj with
  | 0, 0, _, _ => exact Int.le_refl _
  | 0, 1, _, _ => exact h
  | 1, 1, _, _ => exact Int.le_refl _
  | i + 2, j, h1, h2 => omega
theorem ex_no {t : List Nat} : ¬ MatchOK exPaths 10 [exE1] t := by
  rw [← match_mem (mono1 _) ex_ne, ex_m1]; simp
theorem ex_yes {t : List Nat} : MatchOK exPaths 10 [exE1, exE2] t ↔ t ∈ [[0, 1]] := by
  rw [← match_mem (mono2 (by decide)) ex_ne, ex_m2]
theorem sorted1 (t : List Nat) : SortedL [t] := List.pairwise_singleton _ _
set_option maxRecDepth 100000 in
set_option maxHeartbeats 1600000 in
theorem begin_p {s : ByteArray} {W R bd : Nat} {paths : List (List WStep)} (h : TextOK s W R bd paths) (w : World) :
    Calls Tryz.prog 24 #[.string s] w fun x w' => ∃ E Z pv svs, x = .returned (.pointer (some ⟨E, 0, none⟩)) ∧ Below w.heap.size w w' ∧ (∀ b, Z b → w.heap.size ≤ b) ∧ Eng Z w' E bd 0 ⟨W, R, pv, paths, svs⟩ [] := by
  have hx := compile_text ex_text w
  have hs := fun w1 => compile_text h w1
  unfold exText at hx
  have f1 : feedFP 10 5 [] exE1.time = 0 := by kernel_rfl
  have f2 : feedFP 10 5 ([] ++ [exE1]) exE2.time = 0 := by kernel_rfl
  go_enter Tryz.func24, Tryz.ntmps24
  go_upto_region 4 with (first
    | (go_at_call 15; refine hx.mono ?_; rintro x1 w1 ⟨E1, Z1, pv1, sv1, rfl, hb1, hz1, hE1⟩))
  have hc1 := ex_text.well pv1 sv1
  have hfe := feed_go hE1 hc1 (by simp) exE1 (by unfold In64 exE1; simp) f1
  unfold evVal exE1 at hfe
  simp only at hfe
  go_upto_region 5 with (first
    | (go_at_call 27; refine hfe.mono ?_; rintro x2 w2 ⟨Z2, v2, B2, ys2, rfl, hz2, hch2, hl2, hB2, hbl2, hso2, hm2, hE2⟩))
  have hy2 : ys2 = [] := by
    cases ys2 with
    | nil => rfl
    | cons y l => exact absurd ((hm2 y.2).1 (by simp)) ex_no
  subst hy2
  obtain ⟨a2, c2, rfl, _⟩ := hl2.read.form
  have hfe2 := feed_go hE2 hc1 (by simp) exE2 (by unfold In64 exE2; simp) f2
  unfold evVal exE2 at hfe2
  simp only at hfe2
  clear hfe hx hl2 hbl2 hso2 hm2 f1 f2 hE1 hE2
  go_upto_region 6 with (first
    | (go_at_call 27; refine hfe2.mono ?_; rintro x3 w3 ⟨Z3, v3, B3, ys3, rfl, hz3, hch3, hl3, hB3, hbl3, hso3, hm3, hE3⟩))
  have hy3 : ys3.map (·.2) = [[0, 1]] := sorted_uniq hso3 (sorted1 _) (fun t => (hm3 t).trans ex_yes)
  have hr3 := hl3.read
  rw [hy3] at hr3
  obtain ⟨a3, c3, rfl, hg3⟩ := hr3.form
  obtain ⟨g3, rfl, hg3l, hk3⟩ := hg3 (by simp)
  obtain ⟨u3, hu3, hi3⟩ := hk3 0 (by simp)
  obtain ⟨a4, c4, rfl, hg4⟩ := hi3
  obtain ⟨g4, rfl, hg4l, hk4⟩ := hg4 (by simp)
  have k0 := hk4 0 (by simp)
  have k1 := hk4 1 (by simp)
  simp at hu3 k0 k1
  have hb3 : Below w.heap.size w w3 := by
    have s1 := hb1.size
    have s2 := Chg.size hch2
    refine (hb1.trans (hch2.bel s1 hz1)).trans (hch3.bel (by omega) (fun b hb => ?_))
    rcases hz2 b hb with k | k
    · exact hz1 b k
    · omega
  clear hfe2 hk4 hk3 hg3 hg4 hr3 hy3 hl3 hbl3 hso3 hm3 hch2 hch3 hz2 hz3 hE3
  have hs3 := hs w3
  clear hs
  go_wp2_with (first
    | (go_at_call 15; refine hs3.mono ?_; rintro x4 w4 ⟨E4, Z4, pv4, sv4, rfl, hb4, hz4, hE4⟩))
  go_ret
  exact ⟨E4, Z4, pv4, sv4, rfl, hb3.trans (hb4.mono hb3.size), fun b hb => Nat.le_trans hb3.size (hz4 b hb), hE4⟩
end Go.Proofs.YtddbjcfdmdbmkaaGreatDoor

namespace Go.Proofs.YtddbjcfdmdbmkaaGreatDoor
open Go.RowKit

theorem tl1 (b : UInt8) : (txt [b]).toList = [b] := by kernel_rfl
theorem tl2 (b c : UInt8) : (txt [b, c]).toList = [b, c] := by kernel_rfl
theorem tlPush : tPush.toList = [112, 117, 115, 104] := by kernel_rfl
theorem tlOpp : tOpp.toList = [111, 112, 112, 111, 115, 105, 116, 101] := by kernel_rfl
theorem tlAnd : (txt [97, 110, 100]).toList = [97, 110, 100] := by kernel_rfl
theorem tlOr : (txt [111, 114]).toList = [111, 114] := by kernel_rfl
theorem top1 (l : List Int) (x : Int) : (l ++ [x]).getLastD 0 = x ∧ (l ++ [x]).dropLast = l := ⟨by simp [List.getLastD_eq_getLast?], List.dropLast_concat⟩
section
variable (es : List Ev) (it : Ev) (l : List Int) (x y : Int) (z : Bool) (n : Nat)
theorem do_push : doP es it (l, z) (tPush, n) = (l ++ [(n : Int)], z) := by unfold doP; rw [tlPush]; rfl
theorem do_a : doP es it (l, z) (txt [97], n) = (l ++ [(evP es it n).a], z) := by unfold doP; rw [tl1]; rfl
theorem do_b : doP es it (l, z) (txt [98], n) = (l ++ [(evP es it n).b], z) := by unfold doP; rw [tl1]; rfl
theorem do_c : doP es it (l, z) (txt [99], n) = (l ++ [(evP es it n).c], z) := by unfold doP; rw [tl1]; rfl
theorem do_t : doP es it (l, z) (txt [116], n) = (l ++ [(evP es it n).time], z) := by unfold doP; rw [tl1]; rfl
theorem do_opp : doP es it (l ++ [x], z) (tOpp, n) = (l ++ [wrap64 (-x)], z) := by
  unfold doP; rw [tlOpp]; simp only [(top1 l x).1, (top1 l x).2]; rfl
theorem do_two (s : ByteArray) (hs : arityP (s, n) = 2) : doP es it (l ++ [x] ++ [y], z) (s, n) = (l ++ [(stkBP z x s y).1], (stkBP z x s y).2) := by
  unfold arityP at hs
  unfold doP
  simp only at hs ⊢
  generalize s.toList = t at hs ⊢
  split at hs
  · cases hs
  · rename_i h1
    simp only [Bool.or_eq_true, not_or] at h1
    split at hs
    · cases hs
    · rename_i h2
      rw [if_neg h1.1.1.1.1, if_neg h1.1.1.1.2, if_neg h1.1.1.2, if_neg h1.1.2, if_neg h1.2, if_neg h2]
      simp only [(top1 (l ++ [x]) y).1, (top1 (l ++ [x]) y).2, (top1 l x).1, (top1 l x).2]
theorem do_add : doP es it (l ++ [x] ++ [y], z) (txt [43], n) = (l ++ [wrap64 (x + y)], z) := by
  rw [do_two es it l x y z n _ (by kernel_rfl)]; unfold stkBP; rw [tl1]; rfl
theorem do_sub : doP es it (l ++ [x] ++ [y], z) (txt [45], n) = (l ++ [wrap64 (x - y)], z) := by
  rw [do_two es it l x y z n _ (by kernel_rfl)]; unfold stkBP; rw [tl1]; rfl
theorem do_mul : doP es it (l ++ [x] ++ [y], z) (txt [42], n) = (l ++ [wrap64 (x * y)], z) := by
  rw [do_two es it l x y z n _ (by kernel_rfl)]; unfold stkBP; rw [tl1]; rfl
theorem do_div : doP es it (l ++ [x] ++ [y], z) (txt [47], n) = (l ++ [(divP z x y).1], (divP z x y).2) := by
  rw [do_two es it l x y z n _ (by kernel_rfl)]; unfold stkBP divP; rw [tl1]; rfl
theorem do_and : doP es it (l ++ [x] ++ [y], z) (txt [97, 110, 100], n) = (l ++ [bits BinOp.and .i64 x y], z) := by
  rw [do_two es it l x y z n _ (by kernel_rfl)]; unfold stkBP; rw [tlAnd]; rfl
theorem do_or : doP es it (l ++ [x] ++ [y], z) (txt [111, 114], n) = (l ++ [bits BinOp.or .i64 x y], z) := by
  rw [do_two es it l x y z n _ (by kernel_rfl)]; unfold stkBP; rw [tlOr]; rfl
theorem do_eq : doP es it (l ++ [x] ++ [y], z) (txt [61], n) = (l ++ [tstP z x (txt [61]) y], false) := by
  rw [do_two es it l x y z n _ (by kernel_rfl)]; unfold stkBP; rw [tl1]; rfl
theorem do_lt : doP es it (l ++ [x] ++ [y], z) (txt [60], n) = (l ++ [tstP z x (txt [60]) y], false) := by
  rw [do_two es it l x y z n _ (by kernel_rfl)]; unfold stkBP; rw [tl1]; rfl
theorem do_gt : doP es it (l ++ [x] ++ [y], z) (txt [62], n) = (l ++ [tstP z x (txt [62]) y], false) := by
  rw [do_two es it l x y z n _ (by kernel_rfl)]; unfold stkBP; rw [tl1]; rfl
theorem do_ge : doP es it (l ++ [x] ++ [y], z) (txt [62, 61], n) = (l ++ [tstP z x (txt [62, 61]) y], false) := by
  rw [do_two es it l x y z n _ (by kernel_rfl)]; unfold stkBP; rw [tl2]; rfl
theorem do_ne : doP es it (l ++ [x] ++ [y], z) (txt [33, 61], n) = (l ++ [tstP z x (txt [33, 61]) y], false) := by
  rw [do_two es it l x y z n _ (by kernel_rfl)]; unfold stkBP; rw [tl2]; rfl
end
theorem holds_fold {ops : List (ByteArray × Nat)} (h : 0 < ops.length) (es : List Ev) (it : Ev) {x : Int} {z : Bool} (e : ops.foldl (doP es it) ([], false) = ([] ++ [x], z)) : holdsP ops es it = (x == 1) := by
  unfold holdsP runP
  rw [if_neg (by omega), List.take_length, e, (top1 [] x).1]
theorem one_match {st : ASt} {win : Int} (hw : 0 < win) {evs : List Ev} {e : Ev} {t : List Nat} : MatchOK [[st]] win (evs ++ [e]) t ↔ t = [evs.length] ∧ st.fits [] e = true := by
  have hev : evAt (evs ++ [e]) evs.length = e := evAt_new evs e
  constructor
  · rintro ⟨i, hi, ⟨h1, h2, h3, h4⟩, h5⟩
    have hi0 : i = 0 := by simpa using hi
    subst hi0
    have hl : t.length = 1 := h3
    match t, hl with
    | [j], _ =>
      have hj : j = evs.length := by
        have : j + 1 = (evs ++ [e]).length := h4
        rw [List.length_append] at this
        simpa using this
      subst hj
      refine ⟨rfl, ?_⟩
      have : goodP (evs ++ [e]) st [] evs.length := h2.1
      have h := this.2.2.1
      rw [hev] at h
      exact h
  · rintro ⟨rfl, hf⟩
    refine ⟨0, by simp, ⟨by simp, ⟨⟨Nat.zero_le _, by simp, by rw [hev]; exact hf, .inl rfl⟩, trivial⟩, rfl, by simp⟩, ?_⟩
    have h1 : lastT (evs ++ [e]) - firstT (evs ++ [e]) [evs.length] = 0 := by
      unfold lastT firstT
      simp [hev]
    omega
end Go.Proofs.YtddbjcfdmdbmkaaGreatDoor

namespace Go.Proofs.YtddbjcfdmdbmkaaGreatDoor
open Go.RowKit

theorem dec_pc {n : Nat} (h : n ≤ 999999999) {nx : UInt8} (hx : isDigitB nx = false) : pcB 2 (decL n) nx = true := by
  obtain ⟨h1, h2, _⟩ := dec_all n
  have h3 := dec_len 8 n (by omega)
  unfold pcB
  rw [if_pos rfl, h1, hx]
  simp only [Bool.not_false, Bool.and_true, Bool.and_eq_true, decide_eq_true_eq]
  omega
def sgnPc (s : UInt8) : Pc := ⟨[32], 5, [s]⟩
def numPc (d : List UInt8) : Pc := ⟨[32], 2, d⟩
def recP1 : List Pc := headPc [] [53] [49, 50] ++ (stepPc [32] 120 [49] ++ (ifPc :: (itPc [32] 97 ++ [sgnPc 42])))
def recP2 : List Pc := sgnPc 45 :: (itPc [32] 98 ++ (sgnPc 45 :: (itPc [32] 99 ++ [sgnPc 43])))
def recP3 : List Pc := [sgnPc 62] ++ itPc [32] 97 ++ [sgnPc 47] ++ itPc [32] 99 ++ [⟨[32], 4, [111, 114]⟩] ++ itPc [32] 98 ++ [sgnPc 47] ++ itPc [32] 99 ++ [sgnPc 42] ++ itPc [32] 99 ++ [sgnPc 43] ++ itPc [32] 98 ++ [sgnPc 61] ++ itPc [32] 98 ++ [sgnPc 42, numPc [50], ⟨[32], 4, [97, 110, 100]⟩, sgnPc 45] ++ itPc [] 99 ++ [sgnPc 60, sgnPc 40] ++ itPc [] 97 ++ [sgnPc 43] ++ itPc [32] 98 ++ [⟨[], 5, [41]⟩, sgnPc 42, sgnPc 45, ⟨[], 2, [50]⟩]
def recOps (k : Nat) : List BOp :=
  [itOp 97, (tPush, k, ⟨#[]⟩), (txt [42], 0, ⟨#[]⟩), itOp 98, (txt [45], 0, ⟨#[]⟩), itOp 99, (txt [45], 0, ⟨#[]⟩), (tPush, k, ⟨#[]⟩), (txt [43], 0, ⟨#[]⟩), itOp 97, itOp 99, (txt [47], 0, ⟨#[]⟩), (txt [62], 0, ⟨#[]⟩),
   itOp 98, itOp 99, (txt [47], 0, ⟨#[]⟩), itOp 99, (txt [42], 0, ⟨#[]⟩), itOp 98, (txt [43], 0, ⟨#[]⟩), itOp 98, (tPush, 2, ⟨#[]⟩), (txt [42], 0, ⟨#[]⟩), (txt [61], 0, ⟨#[]⟩),
   itOp 99, (tOpp, 0, ⟨#[]⟩), itOp 97, itOp 98, (txt [43], 0, ⟨#[]⟩), (tPush, 2, ⟨#[]⟩), (tOpp, 0, ⟨#[]⟩), (txt [42], 0, ⟨#[]⟩), (txt [60], 0, ⟨#[]⟩), (txt [97, 110, 100], 0, ⟨#[]⟩), (txt [111, 114], 0, ⟨#[]⟩)]
theorem n2 : numVal (txt [50]) = 2 := by kernel_rfl
theorem inStar : txt [42] ∈ [tStar, tSlash] := by simp [txt, tStar]
theorem inSlash : txt [47] ∈ [tStar, tSlash] := by simp [txt, tSlash]
theorem inPlus : txt [43] ∈ [tPlus, tMinus] := by simp [txt, tPlus]
theorem inMinus : txt [45] ∈ [tPlus, tMinus] := by simp [txt, tMinus]
theorem inAnd : txt [97, 110, 100] ∈ [tAnd] := by simp [txt, tAnd]
theorem inOr : txt [111, 114] ∈ [tOr] := by simp [txt, tOr]
theorem rds_numK {n : Nat} {g d : List UInt8} {k : Nat} (e : numVal (txt d) = k) (hk : k ≤ 999999999) : Rds 0 (factorP (n + 1)) [⟨g, 2, d⟩] [(tPush, k, ⟨#[]⟩)] [] := by
  subst e
  exact rds_num hk
section
variable {n : Nat} {d : List UInt8} {k : Nat}
theorem rec_t1 (e : numVal (txt d) = k) (hk : k ≤ 999999999) : Rds 0 (testP (factorP (n + 1))) ((itPc [32] 97 ++ (sgnPc 42 :: ([numPc d] ++ []))) ++ (sgnPc 45 :: (itPc [32] 98 ++ (sgnPc 45 :: (itPc [32] 99 ++ (sgnPc 43 :: ([numPc d] ++ [])))))) ++ sgnPc 62 :: (itPc [32] 97 ++ (sgnPc 47 :: (itPc [32] 99 ++ []))))
    (([itOp 97] ++ ([(tPush, k, ⟨#[]⟩)] ++ (txt [42], 0, ⟨#[]⟩) :: [])) ++ ([itOp 98] ++ (txt [45], 0, ⟨#[]⟩) :: ([itOp 99] ++ (txt [45], 0, ⟨#[]⟩) :: ([(tPush, k, ⟨#[]⟩)] ++ (txt [43], 0, ⟨#[]⟩) :: []))) ++ (([itOp 97] ++ ([itOp 99] ++ (txt [47], 0, ⟨#[]⟩) :: [])) ++ [(txt [62], 0, ⟨#[]⟩)])) st2 :=
  test1 (sumN (prodN (rds_itPc fA) (.cons inStar (rds_numK e hk) .nil)) (.cons inMinus (prod1 (rds_itPc fB)) (.cons inMinus (prod1 (rds_itPc fC)) (.cons inPlus (prod1 (rds_numK e hk)) .nil)))) (sum1 (prodN (rds_itPc fA) (.cons inSlash (rds_itPc fC) .nil))) cGt
theorem rec_t2 : Rds 0 (testP (factorP (n + 1))) ((itPc [32] 98 ++ (sgnPc 47 :: (itPc [32] 99 ++ (sgnPc 42 :: (itPc [32] 99 ++ []))))) ++ (sgnPc 43 :: (itPc [32] 98 ++ [])) ++ sgnPc 61 :: (itPc [32] 98 ++ (sgnPc 42 :: ([numPc [50]] ++ []))))
    (([itOp 98] ++ ([itOp 99] ++ (txt [47], 0, ⟨#[]⟩) :: ([itOp 99] ++ (txt [42], 0, ⟨#[]⟩) :: []))) ++ ([itOp 98] ++ (txt [43], 0, ⟨#[]⟩) :: []) ++ (([itOp 98] ++ ([(tPush, 2, ⟨#[]⟩)] ++ (txt [42], 0, ⟨#[]⟩) :: [])) ++ [(txt [61], 0, ⟨#[]⟩)])) st2 :=
  test1 (sumN (prodN (rds_itPc fB) (.cons inSlash (rds_itPc fC) (.cons inStar (rds_itPc fC) .nil))) (.cons inPlus (prod1 (rds_itPc fB)) .nil)) (sum1 (prodN (rds_itPc fB) (.cons inStar (rds_numK n2 (by decide)) .nil))) cEq
theorem off_close : off st2 tClose = true := by kernel_rfl
theorem rec_t3 : Rds 1 (testP (factorP (n + 2))) ((sgnPc 45 :: itPc [] 99) ++ sgnPc 60 :: ((sgnPc 40 :: (itPc [] 97 ++ (sgnPc 43 :: (itPc [32] 98 ++ [])) ++ [⟨[], 5, [41]⟩])) ++ (sgnPc 42 :: ((sgnPc 45 :: [⟨[], 2, [50]⟩]) ++ []))))
    (([itOp 99] ++ [(tOpp, 0, ⟨#[]⟩)]) ++ ((([itOp 97] ++ ([itOp 98] ++ (txt [43], 0, ⟨#[]⟩) :: [])) ++ (([(tPush, 2, ⟨#[]⟩)] ++ [(tOpp, 0, ⟨#[]⟩)]) ++ (txt [42], 0, ⟨#[]⟩) :: [])) ++ [(txt [60], 0, ⟨#[]⟩)])) st2 :=
  test1 (sum1 (prod1 (rds_neg (rds_itPc fC)))) (sum1 (prodN (rds_par (sumN (prod1 (rds_itPc fA)) (.cons inPlus (prod1 (rds_itPc fB)) .nil)) off_close) (.cons inStar (rds_neg (rds_numK n2 (by decide))) .nil))) cLt
end
def recL (d : List UInt8) : List Pc := stepPc [32] 120 [49] ++ (ifPc :: (itPc [32] 97 ++ (sgnPc 42 :: numPc d :: (recP2 ++ (numPc d :: recP3)))))
def recX (k : Nat) : List Lf := [⟨txt [120], 1, numVal (txt [49]), recOps k⟩]
theorem rec_cond {n k : Nat} {d : List UInt8} (e : numVal (txt d) = k) (hk : k ≤ 999999999) : RdC 1 (n + 2) (ifPc :: (itPc [32] 97 ++ (sgnPc 42 :: numPc d :: (recP2 ++ (numPc d :: recP3))))) (recOps k) stopAll :=
  condOf (orN (both1 ((rec_t1 e hk).deep (by omega))) (.cons inOr (bothN (rec_t2.deep (by omega)) (.cons inAnd rec_t3 .nil)) .nil))
theorem rec_read {k : Nat} {d : List UInt8} (e : numVal (txt d) = k) (hk : k ≤ 999999999) (n : Nat) : RdQ 1 (n + 8) (recL d) (recX k) := by
  have := rdq_seq (rdp_step (m := 1) (n := n + 7) (g := [32]) (g1 := []) (g2 := []) (nm := [120]) (kd := [49]) (rec_cond (n := n + 5) e hk) (.inr ⟨_, _, rfl⟩) (by decide)) .nil
  rw [List.append_nil] at this
  exact this
end Go.Proofs.YtddbjcfdmdbmkaaGreatDoor

namespace Go.Proofs.YtddbjcfdmdbmkaaGreatDoor
open Go.RowKit

theorem head_ok {W R : Nat} (hW : W ≤ 999999999) (hR : R ≤ 999999999) {nb : UInt8} (hn : isDigitB nb = false) : okN nb (headPc [] (decL W) (decL R)) = true := by
  have h1 : pcB 4 [119, 105, 116, 104, 105, 110] 32 = true := by kernel_rfl
  have h2 : pcB 4 [114, 97, 116, 101] 32 = true := by kernel_rfl
  have h3 := dec_pc hW (nx := 32) (by kernel_rfl)
  have h4 := dec_pc hR hn
  show (true && pcB 4 [119, 105, 116, 104, 105, 110] 32 && ([32].all isBlankB && pcB 2 (decL W) 32 && ([32].all isBlankB && pcB 4 [114, 97, 116, 101] 32 && ([32].all isBlankB && pcB 2 (decL R) nb && true)))) = true
  rw [h1, h2, h3, h4]
  rfl
theorem head_lay (W R : Nat) : (headB W R).data.toList = layL (headPc [] (decL W) (decL R)) ++ [32] := by
  unfold headB headPc layL txt
  simp [layL]
theorem text_any {m W R : Nat} {L : List Pc} {xs : List Lf} {S : ByteArray} {bs : List UInt8} (hW : 1 ≤ W ∧ W ≤ 1000000) (hR : 1 ≤ R ∧ R ≤ 12) (hS : S.data.toList = (headB W R).data.toList ++ bs) (hb : layL L = 32 :: bs) (hok : okN 0 L = true) (hz : bs.length ≤ 500) (hm : m ≤ 8) (hL : 3 ≤ L.length) (hQ : ∀ n, RdQ m (n + 8) L xs) (hx : okX xs = true) :
    TextOK S W R (mostP R (cntL (rowL xs))) [stepsL (rowL xs)] := by
  have e1 := (dec_all W).2.2
  have e2 := (dec_all R).2.2
  have hl : S.data.toList = layL (headPc [] (decL W) (decL R) ++ L) := by rw [hS, head_lay, lay_app, hb]; simp
  have hsz : S.size ≤ 600 := by
    have : S.data.toList.length = S.size := by simp
    rw [← this, hS, head_lay]
    have h1 := dec_len 8 W (by omega)
    have h2 := dec_len 8 R (by omega)
    simp [headPc, layL]
    omega
  have := text_flat (S := S) (g := []) (W := decL W) (R := decL R) (L := L) (xs := xs) hl (by rw [ok_app, hb, hok]; show (okN 32 _ && true) = true; rw [head_ok (by omega) (by omega) (by kernel_rfl)]; rfl) hsz (m := m) hm (by rw [e1]; exact hW) (by rw [e2]; exact hR) hL hQ hx
  rwa [e1, e2] at this
def fullT : Nat → List Pc
  | 0 => []
  | k + 1 => fullT k ++ (thenPc :: stepPc [32] (nameB (k + 1)) [55])
def fullL (k : Nat) : List Pc := stepPc [32] (nameB 0) [55] ++ fullT (k - 1)
def fullX (k : Nat) : List Lf := (List.range k).map fun i => ⟨txt [nameB i], 1, numVal (txt [55]), []⟩
def fullBytes (k : Nat) : List UInt8 := (layL (fullL k)).tail
theorem rdp_any {n : Nat} {g : List UInt8} {x : UInt8} : RdP 0 (n + 1) (stepPc g x [55]) ⟨txt [x], 1, numVal (txt [55]), []⟩ := rdp_step condNone (.inl rfl) (by decide)
theorem seqT_app {m n : Nat} {L L' : List Pc} {xs ys : List Lf} (h : SeqT m n L xs) (h' : SeqT m n L' ys) : SeqT m n (L ++ L') (xs ++ ys) := by
  induction h with
  | nil => exact h'
  | @cons g L L2 x xs hr _ ih =>
    have := SeqT.cons (g := g) hr ih
    simpa using this
theorem full_tail (n k : Nat) : SeqT 0 (n + 1) (fullT k) ((List.range k).map fun i => ⟨txt [nameB (i + 1)], 1, numVal (txt [55]), []⟩) := by
  induction k with
  | zero => exact .nil
  | succ k ih =>
    rw [List.range_succ, List.map_append]
    refine seqT_app ih ?_
    have := SeqT.cons (g := [32]) (rdp_any (n := n) (g := [32]) (x := nameB (k + 1))) (.nil)
    rw [List.append_nil] at this
    exact this
theorem full_read (k : Nat) (hk : 1 ≤ k ∧ k ≤ 5) (n : Nat) : RdQ 0 (n + 8) (fullL k) (fullX k) := by
  obtain ⟨j, rfl⟩ : ∃ j, k = j + 1 := ⟨k - 1, by omega⟩
  unfold fullL fullX
  rw [List.range_succ_eq_map, List.map_cons, List.map_map]
  exact rdq_seq rdp_any (full_tail (n + 7) j)
def st7 : WStep := ⟨⟨7, []⟩, []⟩
theorem full_facts : ((List.range 6).all fun k => k == 0 || (okN 0 (fullL k) && okX (fullX k) && ((layL (fullL k)) == 32 :: fullBytes k) && decide ((fullBytes k).length ≤ 500) && decide (3 ≤ (fullL k).length) && decide (cntL (rowL (fullX k)) = k))) = true := by kernel_rfl
theorem full_s1 : stepsL (rowL (fullX 1)) = List.replicate 1 st7 := by kernel_rfl
theorem full_s2 : stepsL (rowL (fullX 2)) = List.replicate 2 st7 := by kernel_rfl
theorem full_s3 : stepsL (rowL (fullX 3)) = List.replicate 3 st7 := by kernel_rfl
theorem full_s4 : stepsL (rowL (fullX 4)) = List.replicate 4 st7 := by kernel_rfl
theorem full_s5 : stepsL (rowL (fullX 5)) = List.replicate 5 st7 := by kernel_rfl
theorem full_steps (k : Nat) (hk : 1 ≤ k ∧ k ≤ 5) : stepsL (rowL (fullX k)) = List.replicate k st7 := by
  match k, hk with
  | 1, _ => exact full_s1
  | 2, _ => exact full_s2
  | 3, _ => exact full_s3
  | 4, _ => exact full_s4
  | 5, _ => exact full_s5
theorem full_text {k W R : Nat} (hk : 1 ≤ k ∧ k ≤ 5) (hW : 1 ≤ W ∧ W ≤ 1000000) (hR : 1 ≤ R ∧ R ≤ 12) {S : ByteArray} (hS : S.data.toList = (headB W R).data.toList ++ fullBytes k) : TextOK S W R (mostP R k) [List.replicate k st7] := by
  have h := List.all_eq_true.1 full_facts k (List.mem_range.2 (by omega))
  have hk0 : (k == 0) = false := by simp; omega
  rw [hk0, Bool.false_or] at h
  simp only [Bool.and_eq_true, beq_iff_eq, decide_eq_true_eq] at h
  obtain ⟨⟨⟨⟨⟨h1, h2⟩, h3⟩, h4⟩, h5⟩, h6⟩ := h
  have := text_any hW hR hS h3 h1 h4 (m := 0) (by omega) h5 (full_read k hk) h2
  rwa [h6, full_steps k hk] at this
end Go.Proofs.YtddbjcfdmdbmkaaGreatDoor
