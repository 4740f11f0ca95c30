import Derived.Test.YtddbjcfdmdbmkaaGreatDoorB09
import Derived.Test.YtddbjcfdmdbmkaaGreatDoorB05
set_option linter.all false
set_option maxRecDepth 100000
set_option maxHeartbeats 1000000
namespace Go.Proofs.YtddbjcfdmdbmkaaGreatDoor
open Go.Shelf Go.RowKit Go.RowKit Go.Proofs.Tryz
open Go renaming Calls->aR,World->aq
open Go.Ending renaming returned->aM
open Go.Obj renaming cells->aw
open Go.Value renaming pointer->aD,string->az
open Go.World renaming cell?->aK,setCell->ay
variable{L:aq}{a:Nat}{Z:List UInt8}
theorem Tryz.builderX169:Builder.Extra prog Tryz.lays169_ren where
 sizeBuilder:=by kernel_rfl
 liesBuilder:=by kernel_rfl
 t5:=underlying5
 a5:=Tryz.isAgg5
 z5:=Tryz.sizeOf5
 v5:=Tryz.zeroValue5
 infoByte:=by kernel_rfl
 cellsByte:=by kernel_rfl
 sizeByte:=by kernel_rfl
 neB5:=ak
theorem Tryz.Builder_String_any_k(b a:Nat)(Z:List UInt8)(L:aq)(h:Lib.IsBuilderF 138 5 b a (Lib.byteCells Z) L)(d:b<=L.heap.size):aR prog 67 #[aD (some ⟨a,0,none⟩)] L λe c=>e=aM (az ⟨Z.toArray⟩)/\(Lib.IsBuilderF 138 5 b a (Lib.byteCells Z) c/\Below b L c/\Lib.OthersKept 5 (some a) L c):=Any.Builder_String_any_k Tryz.lays169 Tryz.builderX169 b a Z L h d
theorem Tryz.TrimLeft_one(b:ByteArray)(a:UInt8)(c:a.toNat<128)(L:aq):aR prog 101 #[az b,az ⟨#[a]⟩] L λe d=>e=aM (az ⟨(Lib.trimLeftB b.data.toList a).toArray⟩)/\d=L:=Any.strings_TrimLeft_one Tryz.lays161 b a c L
theorem Tryz.Cs:(prog.info? 138).map (·.size)=some 2:=by kernel_rfl
theorem Tryz.Kp:liesAt prog prog.depth 138 (2/prog.cellsOf 138) 0 138 1=true:=by kernel_rfl
theorem Tryz.D7:(prog.info? 5).map (λa=>(a.zero,a.size,a.bytes))=some (some (.int .u8 0),1,1):=by kernel_rfl
abbrev w9(L:aq)(b:Nat)(c:Value)(d:List UInt8):Prop:=Lib.BuilderAtF 138 5 b b c (Lib.byteCells d) L
abbrev xi(L:aq)(b:Nat)(c:List UInt8):Prop:=Lib.IsBuilderF 138 5 b b (Lib.byteCells c) L
structure tt (X:Nat) (L aI:aq):Prop where
 bI:Below X L aI
 Au:Lib.OthersKept 5 (some X) L aI
theorem HX(d:aK L ⟨a,0,none⟩=some (aD (some ⟨a,0,none⟩))):
 aR prog 100 #[aD (some ⟨a,0,none⟩)] L λe b=>e=aM (.tuple #[])/\b=L:=by
 obtain⟨f,c,_⟩:=si.1 Tryz.Cs;go_enter func100,ntmps100;go_wp2;rw[Lib.run_neq_ptr_same L _ underlying135 c];go_wp2
 go_end0
 exact⟨rfl,rfl⟩
theorem Ia(g:aK L ⟨a,0,none⟩=some (aD none))(b:L.shape? a=some (138,2))(h:L.frozen? ⟨a,0,none⟩=false):
 aR prog 100 #[aD (some ⟨a,0,none⟩)] L λe d=>e=aM (.tuple #[])/\d=ay L ⟨a,0,none⟩ (aD (some ⟨a,0,none⟩)):=by
 obtain⟨i,c,f⟩:=si.1 Tryz.Cs;go_enter func100,ntmps100;go_wp2;rw[Lib.run_to_unsafe L ⟨a,0,none⟩ underlying135 underlying251 c (by rw[f];decide) b (Nat.zero_lt_succ 1)];simp only[Result.andThen];rw[C7];go_wp2;rw[run_callFunc_extern func147 (by kernel_rfl) (by kernel_rfl) (by kernel_rfl) (e:=Extern.AbiNoEscape.same) (by kernel_rfl)];rw[Lib.run_noEscape];simp only[Result.andThen];rw[C7];go_wp2;rw[Lib.run_from_unsafe L ⟨a,0,none⟩ underlying251 underlying135 c b Tryz.Kp];simp only[Result.andThen];rw[C7];go_wp2
 go_end0
 exact⟨rfl,rfl⟩
theorem GU(h:xi L a Z):
 aR prog 100 #[aD (some ⟨a,0,none⟩)] L λe b=>e=aM (.tuple #[])/\w9 b a (aD (some ⟨a,0,none⟩)) Z/\tt a L b:=by
 rcases h with h|h
 ·refine(Ia h.cell0 h.shape h.frozen0).mono ?_;rintro e b ⟨rfl,rfl⟩;exact⟨rfl,h.used _,(ca a L).setCell (p:=⟨a,0,none⟩) (aN _) _,(Lib.OthersKept.refl _ _ L).setCell ⟨a,0,none⟩ rfl _⟩
 ·refine(HX h.cell0).mono ?_;rintro e b ⟨rfl,rfl⟩;exact⟨rfl,h,ca a _,Lib.OthersKept.refl _ _ _⟩
theorem EX{b c:aq}{d g:Value}{h:List UInt8}(f:tt a L b)(k:b.heap[a]?=some (aw #[aD (some ⟨a,0,none⟩),d] 138 (0,0)))(j:b.ownsRowF a 5 1 d Z.length (Lib.byteCells Z))(l:d.ownBlock≠some a)(i:b.grownBy c d.ownBlock)(m:c.ownsRowF a 5 1 g (Z++h).length (Lib.byteCells (Z++h)))(o:a<b.heap.size):
 w9 (ay c ⟨a,1,none⟩ g) a (aD (some ⟨a,0,none⟩)) (Z++h)/\tt a L (ay c ⟨a,1,none⟩ g):=by
 have q:c.heap[a]?=some (aw #[aD (some ⟨a,0,none⟩),d] 138 (0,0)):=(i.block a o (λe=>l e.symm)).trans k;refine⟨Lib.BuilderAtF.put (aN _) q (by rw[EM];exact m) ak,(f.bI.grown i T (λr f=>(j.lt r f).1)).setCell (p:=⟨a,1,none⟩) (aN _) _,(f.Au.grown i (Lib.ownsRowF_kind j)).setCell ⟨a,1,none⟩ rfl _⟩
theorem tm(h:xi L a Z)(b:ByteArray)(G:Z.length+b.size<=1000000000):
 aR prog 65 #[aD (some ⟨a,0,none⟩),az b] L λe m=>e=aM (.tuple #[.int .i64 b.size,.nilIface])/\w9 m a (aD (some ⟨a,0,none⟩)) (Z++b.data.toList)/\tt a L m:=by
 obtain⟨x,y,z,A,B⟩:=dY Tryz.D7;have o:=GU h;go_enter func65,ntmps65;go_wp2_with(go_at_call 100;refine o.mono ?_);rintro e p ⟨rfl,⟨H,g,c,f,q⟩,C⟩;have r:=(i7.1 c).1;rw[EM]at f;have I:aK p ⟨a,0,none⟩=some (aD (some ⟨a,0,none⟩)):=by rw[pt c];rfl
 have J:aK p ⟨a,1,none⟩=some g:=by rw[pt c];rfl
 go_wp2_with(at_builtin;refine Lib.wpList_append_own_stringF _ rfl _ _ 136 9 rfl a 5 x underlying136 underlying9 y z A B _ _ _ rfl f b rfl cN T T ?_);intro s d t u _;have D:b.data.toList.length=b.size:=av;have i:d.ownsRowF a 5 1 s (Z++b.data.toList).length (Lib.byteCells (Z++b.data.toList)):=by rw[bV,D,Lib.byteCells_append];exact t
 obtain⟨E,F⟩:=EX C c f q u i r;have j:d.heap[a]?=some (aw #[aD (some ⟨a,0,none⟩),g] 138 (0,0)):=(u.block a r (λe=>q e.symm)).trans c;have K:aK d ⟨a,0,none⟩=some (aD (some ⟨a,0,none⟩)):=by rw[pt j];rfl
 have P:aK d ⟨a,1,none⟩=some g:=by rw[pt j];rfl
 have gf:d.frozen? ⟨a,1,none⟩=false:=Lib.frozen_of_heap j 1;obtain⟨v,w,k,rfl⟩:∃v w k,s=.slice v w k:=by
  rcases i.2 with⟨l,_⟩|⟨N,k,gg,gj,l,_⟩
  ·exact⟨_,_,_,l⟩
  ·exact⟨_,_,_,l⟩
 clear o f t i;go_wp2
 go_ret2
 exact⟨rfl,E,F⟩
theorem HP(h:xi L a Z)(G:Z.length+1<=1000000000):
 aR prog 64 #[aD (some ⟨a,0,none⟩),.int .u8 32] L λe m=>e=aM .nilIface/\w9 m a (aD (some ⟨a,0,none⟩)) (Z++[32])/\tt a L m:=by
 obtain⟨x,y,z,A,B⟩:=dY Tryz.D7;have o:=GU h;go_enter func64,ntmps64;go_wp2_with(go_at_call 100;refine o.mono ?_);rintro e b ⟨rfl,⟨H,d,f,g,p⟩,q⟩;have C:=(i7.1 f).1;rw[EM]at g;have I:aK b ⟨a,0,none⟩=some (aD (some ⟨a,0,none⟩)):=by rw[pt f];rfl
 have J:aK b ⟨a,1,none⟩=some d:=by rw[pt f];rfl
 go_wp2_with(at_builtin;refine wpList_append_ownF _ rfl _ _ 136 rfl a 5 x (.int .u8 0) 1 1 underlying136 y z A B rfl ak _ _ _ rfl (g.alloc _) ⟨b.heap.size,0,none⟩ 1 1 [.int .u8 32] rfl rfl (c4 (cB _ _ _ av)) ey cN T b7 ?_);intro r c s t _;have i:c.ownsRowF a 5 1 r (Z++[32]).length (Lib.byteCells (Z++[32])):=by rw[bV,Lib.byteCells_append];exact s
 have u:(b.alloc (aw #[.int .u8 32] 5)).heap[a]?=some (aw #[aD (some ⟨a,0,none⟩),d] 138 (0,0)):=(Lib.alloc_old b _ a C).trans f;have D:tt a L (b.alloc (aw #[.int .u8 32] 5)):=⟨q.bI.alloc T _,q.Au.alloc _⟩;obtain⟨E,F⟩:=EX D u (g.alloc _) p t i b7;have j:c.heap[a]?=some (aw #[aD (some ⟨a,0,none⟩),d] 138 (0,0)):=(t.block a b7 (λe=>p e.symm)).trans u;have K:aK c ⟨a,0,none⟩=some (aD (some ⟨a,0,none⟩)):=by rw[pt j];rfl
 have P:aK c ⟨a,1,none⟩=some d:=by rw[pt j];rfl
 have gf:c.frozen? ⟨a,1,none⟩=false:=Lib.frozen_of_heap j 1;obtain⟨v,w,k,rfl⟩:∃v w k,r=.slice v w k:=by
  rcases i.2 with⟨l,_⟩|⟨N,k,gg,gj,l,_⟩
  ·exact⟨_,_,_,l⟩
  ·exact⟨_,_,_,l⟩
 clear o g s i;go_wp2;go_ret;exact⟨rfl,E,F⟩
