import Derived.Test.YtddbjcfdmdbmkaaGreatDoorB12
set_option linter.all false
set_option maxRecDepth 100000
namespace Go.Proofs.YtddbjcfdmdbmkaaGreatDoor
open Go.Proofs.Tryz
theorem IL:((List.range 13).all λa=>(List.range 8).all λb=>fO a b==(hf a b).1)=true:=by kernel_rfl
theorem Hj{a b:Nat}(c:a<=12)(d:b<=7):fO a b=(hf a b).1:=by have:=lq.1 IL a (m8.2 T);have:=lq.1 this b (m8.2 T);simpa using this
