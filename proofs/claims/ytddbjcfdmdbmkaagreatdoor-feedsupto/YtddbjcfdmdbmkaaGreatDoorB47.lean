import Derived.Test.YtddbjcfdmdbmkaaGreatDoorB42
import Derived.Test.YtddbjcfdmdbmkaaGreatDoorB44
import Derived.Deep.DeepWitnessRowRef
import Derived.LaidOnce
import Derived.Lay
set_option linter.all false
set_option maxRecDepth 100000
namespace Go.Proofs.YtddbjcfdmdbmkaaGreatDoor
open Go.ChangeShapes Go.WideShapes Go.ChangeAt Go.WideElems Go.RowKit Go Go.Proofs.Tryz
def v8:Array Value:=#[.slice none 0 0]
theorem Qw(a:Os)(args:Array Value):laidMetH prog Rows.feedsUptoRow.laid ((World.laidAll prog a Rows.feedsUptoRow.laid).forCall (λ_ _=>0) ⟨#[],args,[]⟩).memory:=by rw[MakeChecks.laidMetH_plain _ _ _ (by kernel_rfl)];exact laidMet_laidAll _ (by kernel_rfl) (by kernel_rfl)
theorem Oe(a:Os):(World.laidAll prog a Rows.feedsUptoRow.laid).Shaped prog:=World.shaped_of_ZipB (by kernel_rfl) (by kernel_rfl)
theorem PD(a:Os){b:Type}(c:TypeId×Value->b):∃d,DataW.whole c prog ((World.laidAll prog a Rows.feedsUptoRow.laid).forCall (λ_ _=>0) ⟨#[],v8,[]⟩).memory Tryz.f5.params.toList Rows.feedsSpec.vars false v8.toList 8=some ([.nil],[],d):=
 ⟨[],by kernel_rfl⟩
theorem Rw(a:Os)(G:a.Started)(j:Type)(d:TypeId×Value->j)(k:Stop.Interp):
 ReturnsInHanded {} Tryz.checked a 5 .any ((Rows.OpenSpec.upto Rows.feedsSpec).preRow d prog Tryz.f5 Rows.feedsUptoRow.domain false Rows.feedsUptoRow.laid) (((Rows.OpenSpec.upto Rows.feedsSpec).at k).post d prog Tryz.f5 false true false false):=by
 obtain⟨gC,c⟩:=PD a d;have l:Input.okWideB Tryz.checked.prog ((World.laidAll prog a Rows.feedsUptoRow.laid).forCall (λ_ _=>0) ⟨#[],v8,[]⟩) 5 ⟨#[],v8,[]⟩=true:=by kernel_rfl
 refine returnsInHanded_of_row (C:=Tryz.checked) (s:=Rows.OpenSpec.upto Rows.feedsSpec) Tryz.ab G (by kernel_rfl) func5
  ⟨World.laidAll prog a Rows.feedsUptoRow.laid,λ_ _=>0,⟨#[],v8,[]⟩,World.laidAll_os _ _ _,Oe a,(AG (base:=0) l).1,(AG l).2,
   OpenSpec.preRow_of_cond 8 c (by kernel_rfl) (λgE H=>by cases H;kernel_rfl) (by kernel_rfl) (Qw a _),by
    simp only[Assume.holds]
    exact⟨av,av,λ_=>Modest.zero,av,av⟩⟩ ?_
 intro f I args J gF gL m o _ p _ _ _ _;have q:∀(r:Nat) t u,Tryz.f5.params[r]?=some t->args[r]?=some u->Value.okWide prog f .any I t u:=m;have v:=o;obtain⟨w,g1,x,K,rfl,hu,hE⟩:=o;have g:DataW.TrodAll d prog f 0 (λ_=>true) true Tryz.f5.params.toList args.toList J w:=x;have P:∀b∈w,b.block<f.heap.size:=λb c=>v.lt b (dm.2 (.inl c))
 rw[Tryz.params5]at g q;have hS:=g;obtain⟨y,hV,z,hZ,A,ih,iR,rfl,rfl,B,D⟩:=trodAll_cons g;obtain⟨rfl,rfl,rfl⟩:=trodAll_nil D;obtain rfl:args=#[y]:=by cases args;simp_all
 obtain⟨rfl,rfl⟩:=trodVars_none K;have E:∀b∈A,b.block<f.heap.size:=λb c=>P b (by simp[c])
 obtain⟨iU,gf,iZ⟩:=Hs (q 0 33 y rfl rfl) B E;have gg:=t1 (p _ rfl);simp only[nH,fa,jN,Rows.uptoBulkAll]at gg;clear x m p;have i:((Rows.OpenSpec.upto Rows.feedsSpec).at k).fn j ([z]++[])={results:=[.lit (.bool true)],args:=[z]}:=rfl;refine(SL gf T).mono λe i0 ⟨gj,F⟩=>?_
 subst gj;refine⟨_,rfl,_,_,_,[],A++[],[],v,?_,?_,?_,F.frame _,λh=>by cases h⟩
 ·rw[i];exact trodAll_mk1 (shut_bool underlying4 true)
 ·rw[i];exact trodAll_cons_mk (Below.trod Hv Cv FA B F E) D
 ·rw[i];rfl
theorem Og:Rows.FeedsUptoSaid:=
 OpenClaim.holds_of_cond 5 Tryz.f5 rfl rfl rfl rfl rfl rfl rfl ⟨rfl,rfl,rfl,rfl,rfl⟩ rfl rfl rfl rfl rfl (by kernel_rfl) func5 S6
  (t1 (by kernel_rfl)) (by unfold Func.isWrapper;first|(rw[aP (by decide+kernel)];kernel_rfl)|(rw[aH (by decide+kernel)];exact⟨rfl,rfl⟩))
  (λa b c d _ e=>by rw[OpenClaim.pre_eq_preRow];exact Rw a b c d e)
