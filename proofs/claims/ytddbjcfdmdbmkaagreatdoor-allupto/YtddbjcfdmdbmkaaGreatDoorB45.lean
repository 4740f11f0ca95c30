import Derived.Test.YtddbjcfdmdbmkaaGreatDoorB42
import Derived.Test.YtddbjcfdmdbmkaaGreatDoorB43
import Derived.Test.YtddbjcfdmdbmkaaGreatDoorB44
import Derived.Deep.DeepWitnessRowRef
import Derived.LaidOnce
import Derived.Lay
set_option linter.all false
set_option maxRecDepth 100000
namespace Go.Proofs.YtddbjcfdmdbmkaaGreatDoor
open Go.ChangeShapes Go.WideShapes Go.ChangeAt Go.WideElems Go.RowKit Go Go.Proofs.Tryz
def vI:Array Value:=#[.slice none 0 0]
theorem Lz(a:Os)(args:Array Value):laidMetH prog Rows.allUptoRow.laid ((World.laidAll prog a Rows.allUptoRow.laid).forCall (λ_ _=>0) ⟨#[],args,[]⟩).memory:=by rw[MakeChecks.laidMetH_plain _ _ _ (by kernel_rfl)];exact laidMet_laidAll _ (by kernel_rfl) (by kernel_rfl)
theorem SP(a:Os):(World.laidAll prog a Rows.allUptoRow.laid).Shaped prog:=World.shaped_of_ZipB (by kernel_rfl) (by kernel_rfl)
theorem NM(a:Os){b:Type}(c:TypeId×Value->b):∃d,DataW.whole c prog ((World.laidAll prog a Rows.allUptoRow.laid).forCall (λ_ _=>0) ⟨#[],vI,[]⟩).memory Tryz.f6.params.toList Rows.allSpec.vars false vI.toList 8=some ([.nil],[],d):=
 ⟨[],by kernel_rfl⟩
theorem H7(a:Os)(G:a.Started)(j:Type)(d:TypeId×Value->j)(k:Stop.Interp):
 ReturnsInHanded {} Tryz.checked a 6 .any ((Rows.OpenSpec.upto Rows.allSpec).preRow d prog Tryz.f6 Rows.allUptoRow.domain false Rows.allUptoRow.laid) (((Rows.OpenSpec.upto Rows.allSpec).at k).post d prog Tryz.f6 false true false false):=by
 obtain⟨gC,c⟩:=NM a d;have l:Input.okWideB Tryz.checked.prog ((World.laidAll prog a Rows.allUptoRow.laid).forCall (λ_ _=>0) ⟨#[],vI,[]⟩) 6 ⟨#[],vI,[]⟩=true:=by kernel_rfl
 refine returnsInHanded_of_row (C:=Tryz.checked) (s:=Rows.OpenSpec.upto Rows.allSpec) Tryz.ab G (by kernel_rfl) func6
  ⟨World.laidAll prog a Rows.allUptoRow.laid,λ_ _=>0,⟨#[],vI,[]⟩,World.laidAll_os _ _ _,SP a,(AG (base:=0) l).1,(AG l).2,
   OpenSpec.preRow_of_cond 8 c (by kernel_rfl) (λgE H=>by cases H;kernel_rfl) (by kernel_rfl) (Lz a _),by
    simp only[Assume.holds]
    exact⟨av,av,λ_=>Modest.zero,av,av⟩⟩ ?_
 intro f I args J gF gL m o _ p _ _ _ _;have q:∀(r:Nat) t u,Tryz.f6.params[r]?=some t->args[r]?=some u->Value.okWide prog f .any I t u:=m;have v:=o;obtain⟨w,g1,x,K,rfl,hu,hE⟩:=o;have g:DataW.TrodAll d prog f 0 (λ_=>true) true Tryz.f6.params.toList args.toList J w:=x;have P:∀b∈w,b.block<f.heap.size:=λb c=>v.lt b (dm.2 (.inl c))
 rw[Tryz.params6]at g q;have hS:=g;obtain⟨y,hV,z,hZ,A,ih,iR,rfl,rfl,B,D⟩:=trodAll_cons g;obtain⟨rfl,rfl,rfl⟩:=trodAll_nil D;obtain rfl:args=#[y]:=by cases args;simp_all
 obtain⟨rfl,rfl⟩:=trodVars_none K;have E:∀b∈A,b.block<f.heap.size:=λb c=>P b (by simp[c])
 obtain⟨iU,gf,iZ⟩:=Hs (q 0 33 y rfl rfl) B E;have gg:=t1 (p _ rfl);simp only[nH,fa,jN,Rows.uptoBulkAll]at gg;clear x m p;have i:((Rows.OpenSpec.upto Rows.allSpec).at k).fn j ([z]++[])={results:=[.lit (.bool true)],args:=[z]}:=rfl;refine(LF gf T).mono λe i0 ⟨gj,F⟩=>?_
 subst gj;refine⟨_,rfl,_,_,_,[],A++[],[],v,?_,?_,?_,F.frame _,λh=>by cases h⟩
 ·rw[i];exact trodAll_mk1 (shut_bool underlying4 true)
 ·rw[i];exact trodAll_cons_mk (Below.trod Hv Cv FA B F E) D
 ·rw[i];rfl
theorem J2:Rows.AllUptoSaid:=
 OpenClaim.holds_of_cond 6 Tryz.f6 rfl rfl rfl rfl rfl rfl rfl ⟨rfl,rfl,rfl,rfl,rfl⟩ rfl rfl rfl rfl rfl (by kernel_rfl) func6 Jb
  (t1 (by kernel_rfl)) (by unfold Func.isWrapper;first|(rw[aP (by decide+kernel)];kernel_rfl)|(rw[aH (by decide+kernel)];exact⟨rfl,rfl⟩))
  (λa b c d _ e=>by rw[OpenClaim.pre_eq_preRow];exact H7 a b c d e)
