import Derived.Test.YtddbjcfdmdbmkaaGreatDoorB02
import Derived.Test.YtddbjcfdmdbmkaaGreatDoorB01
set_option linter.all false
set_option maxRecDepth 100000
set_option maxHeartbeats 400000
namespace Go.Proofs.YtddbjcfdmdbmkaaGreatDoor
open Go.RowKit Go.Proofs.Tryz
variable{a:au}
theorem oK{f:Nat->Nat}{L:World}{g:Nat}{j:eU}(h:bQ f L g j a)(k:c2 a.aT)(c d:Int)(l:a.b9.length<=10000)(m:a.b6.length<=10000)(o:a.cc.length<=10000):
 Calls prog 94 #[.pointer (some ⟨g,0,none⟩),.int .i64 c,.int .i64 d] L λe i=>e=.returned (.int .i64 a.k)/\qK f L g (a.bp c d) i:=by
 cases b:a.iU with
 |true=>refine(B_ h k.b8 c d b l m o).mono ?_;rintro e i ⟨rfl,p⟩;exact⟨by simp[au.k,b],by simpa[au.bp,b]using p⟩
 |false=>refine(PY h c d b).mono ?_;rintro e i ⟨rfl,q,r⟩;exact⟨by simp[au.k,b],f,j,by simpa[au.bp,b]using q,r⟩
def eO:ByteArray:=⟨#[110,111,116]⟩
def ji:ByteArray:=⟨#[116,105,109,101,115]⟩
def gW:ByteArray:=⟨#[105,102]⟩
def q6:ByteArray:=⟨#[116,104,101,110]⟩
def au.i1(b:au):ByteArray:=if b.f eO then cD else b.gL
def au.s(b:au):au:=if b.f eO then b.g else b.hE.c5 ⟨#[58]⟩
def au.u(b:au):au:=b.s.bp 0 99
def au.iR(b:au):Bool:=!b.f eO&&b.u.f ji
def au.gF(b:au):Int:=if b.iR then b.u.g.k else 1
def au.r(b:au):au:=if b.iR then b.u.g.bp 1 4 else b.u
inductive xV where
 |ep (aQ:Nat)
 |mU (eI ew:List Nat)
 |rH (eI ew:List (List Nat))
def au.l8(b:au)(c:cA):au:={b with aj:=b.aj++[c]}
def au.i2(b:au)(c:List (List Nat)):au:=(if c.length<2 then b.c8 else b).c5 ⟨#[41]⟩
structure au.ih (V:au):Prop where
 b9:V.b9.length<=10000
 b6:V.b6.length<=10000
 cc:V.cc.length<=10000
inductive eF:xV->au->au->Prop
 |va {eI:List Nat} {aQ:Nat} {V cX:au}:eI.length<=10000->eF (.ep aQ) V cX->cX.f q6=false->eF (.mU eI (eI++[aQ])) V cX
 |Aa {eI ew:List Nat} {aQ:Nat} {V cX bW:au}:eI.length<=10000->eF (.ep aQ) V cX->cX.f q6=true->eF (.mU (eI++[aQ]) ew) cX.g bW->eF (.mU eI ew) V bW
 |wh {eI:List (List Nat)} {Z:List Nat} {V cX:au}:eI.length<=10000->eF (.mU [] Z) V cX->cX.f ⟨#[124]⟩=false->eF (.rH eI (eI++[Z])) V cX
 |wj {eI ew:List (List Nat)} {Z:List Nat} {V cX bW:au}:eI.length<=10000->eF (.mU [] Z) V cX->cX.f ⟨#[124]⟩=true->eF (.rH (eI++[Z]) ew) cX.g bW->eF (.rH eI ew) V bW
 |tJ {br:List (List Nat)} {V cX:au} {Y:Nat}:V.f ⟨#[40]⟩=true->V.bz<=1000000->eF (.rH [] br) (V.g.B V.af.a1) cX->cX.bz=Y+1->Y<=1000000->cX.aj.length<=100000->eF (.ep cX.aj.length) V (({cX with bz:=Y}.i2 br).l8 ⟨V.af.a1,false,cD,0,1, -1,br⟩)
 |yO {V:au}:V.f ⟨#[40]⟩=false->V.s.ih->V.u.g.ih->V.r.f gW=false->V.r.aj.length<=100000->eF (.ep V.r.aj.length) V (V.r.l8 ⟨V.af.a1,V.f eO,V.i1,V.s.k,V.gF, -1,[]⟩)
 |B7 {V cX:au} {aE:Int}:V.f ⟨#[40]⟩=false->V.s.ih->V.u.g.ih->V.r.f gW=true->e9 (.dV 0) V.r.g aE cX->cX.aj.length<=100000->eF (.ep cX.aj.length) V (cX.l8 ⟨V.af.a1,V.f eO,V.i1,V.s.k,V.gF,aE,[]⟩)
def oJ(d:Nat)(f g:au):Prop:=∀(c:Nat->Nat) (L:World) (b:Nat) (h:eU),bQ c L b h f->Calls prog 143 #[.pointer (some ⟨b,0,none⟩)] L λe i=>e=.returned (.int .i64 d)/\qK c L b g i
theorem Qs(a:au)(b:List (List Nat)):(a.i2 b).aT=a.aT:=by unfold au.i2;rw[tv];split;exact sh a;rfl
theorem rS(a:au):a.s.aT=a.aT:=by unfold au.s;split;rfl;rw[tv,p0]
theorem rj(a:au):a.u.aT=a.aT:=by unfold au.u;rw[uI,rS]
theorem pE(a:au):a.r.aT=a.aT:=by unfold au.r;split;rw[uI];exact rj a;exact rj a
theorem eF.aT{f:xV}{e:au}(h:eF f a e):e.aT=a.aT:=by
 induction h with
 |va _ _ _ b=>exact b
 |Aa _ _ _ _ c d=>exact d.trans c
 |wh _ _ _ b=>exact b
 |wj _ _ _ _ c d=>exact d.trans c
 |tJ _ _ _ _ _ _ b=>exact(Qs _ _).trans b
 |yO _ _ _ _ _=>exact pE _
 |B7 _ _ _ _ g _=>exact(e9.aT g).trans (pE _)
theorem xO(b a:Nat):gs b a<=2^b:=by
 induction b generalizing a with
 |zero=>cases a<;>simp[gs]
 |succ b c=>
  cases a with
  |zero=>simp only[gs];exact Nat.one_le_two_pow
  |succ a=>have d:=c a;have e:=c (a+1);simp only[gs];rw[vy];omega
theorem KQ(b:Nat):∀(a:Nat) (L:World),b<=20->a<=1000->
 Calls prog 62 #[.int .i64 b,.int .i64 a] L λe c=>e=.returned (.int .i64 (gs b a))/\c=L:=by
 induction b with
 |zero=>
  intro a L _ g;cases a with
  |zero=>go_enter func62,ntmps62;go_wp2_with fail;go_ret;exact⟨rfl,rfl⟩
  |succ a=>
   have h:((a:Int)+1==0)=false:=by rw[di];omega
   go_enter func62,ntmps62;go_wp2_with fail;go_ret;exact⟨rfl,rfl⟩
 |succ b d=>
  intro a L p g;cases a with
  |zero=>go_enter func62,ntmps62;go_wp2_with fail;go_ret;exact⟨by simp[gs],rfl⟩
  |succ a=>
   have h:((a:Int)+1==0)=false:=by rw[di];omega
   have q:((b:Int)+1==0)=false:=by rw[di];omega
   have i:=xO b a;have j:=xO b (a+1);have k:2^b<=2^20:=sc ak T;have l:(2:Nat)^20=1048576:=ak;have r:gs b a<=1048576:=T;have s:gs b (a+1)<=1048576:=T;have m:=d;have f:Hid (∀(a:Nat) (L:World),b<=20->a<=1000->Calls prog 62 #[.int .i64 b,.int .i64 a] L λe c=>e=.returned (.int .i64 (gs b a))/\c=L):=d;clear d m i j k l;have o:Hid (gs (b+1) (a+1)=gs b a+gs b (a+1)):=rfl;go_enter func62,ntmps62;go_wp2_with fail;refine(f.out a _ T T).mono ?_;rintro e c ⟨rfl,rfl⟩;go_wp2_with fail;refine(f.out (a+1) _ T T).mono ?_;rintro e c ⟨rfl,rfl⟩;go_wp2_with fail;go_ret;exact⟨jq (by rw[o.out];omega),rfl⟩
