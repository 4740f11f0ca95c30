import Derived.Test.YtddbjcfdmdbmkaaGreatDoorB40
import Derived.Test.YtddbjcfdmdbmkaaGreatDoorB41
import Derived.Deep.Slices
set_option linter.all false
set_option maxRecDepth 100000
namespace Go.Proofs.YtddbjcfdmdbmkaaGreatDoor
open Go.ChangeShapes Go.WideShapes Go.ChangeAt Go.WideElems Go.RowKit Go Go.Proofs.Tryz
open Go renaming Value->an
variable{a:World}{d j:Nat}{k:Nat->Bool}{c:Bool}{b:List an}
theorem Ty{b:Type}(a:DataW b):1<=Rows.uptoBulk a:=by
 cases a with
 |lit c=>cases c<;>simp[Rows.uptoBulk]
 |nil=>simp[Rows.uptoBulk]
 |ptr a=>simp[Rows.uptoBulk]
 |slice e d=>simp[Rows.uptoBulk]
 |agg f=>simp[Rows.uptoBulk]
 |iface g a=>simp[Rows.uptoBulk]
 |map e=>simp[Rows.uptoBulk]
 |held h=>simp[Rows.uptoBulk]
theorem Qi{b:Type}{qZ:List (DataW b)}(h:∀a∈qZ,2<=Rows.uptoBulk a):2*qZ.length<=Rows.uptoBulkAll qZ:=by
 induction qZ with
 |nil=>exact aN _
 |cons a qZ c=>have f:=h a um;have g:=c (λd e=>h d (uo _ e));show 2*(qZ.length+1)<=Rows.uptoBulk a+Rows.uptoBulkAll qZ;omega
theorem zB:prog.cellsOf 89=8:=by kernel_rfl
theorem GK:prog.cellsOf 44=5:=by kernel_rfl
theorem D6:prog.cellsOf 3=1:=by kernel_rfl
theorem P0:prog.cellsOf 9=1:=by kernel_rfl
theorem O7{bD:Type}{a:List bD}(h:a.length=4):∃b c d e,a=[b,c,d,e]:=by
 match a,h with
 |[b,c,d,e],_=>exact⟨b,c,d,e,rfl⟩
theorem FI{bD:Type}{a:List bD}(h:a.length=5):∃b c d f e,a=[b,c,d,f,e]:=by
 match a,h with
 |[b,c,d,f,e],_=>exact⟨b,c,d,f,e,rfl⟩
theorem S5{bD:Type}{a:List bD}(h:a.length=8):∃b c d f e ah N g,a=[b,c,d,f,e,ah,N,g]:=by
 match a,h with
 |[b,c,d,f,e,ah,N,g],_=>exact⟨b,c,d,f,e,ah,N,g,rfl⟩
theorem OR{g:Type}{r:TypeId×an->g}{s:DataW g×List MemPlace}(h:DataW.trod r prog a d k c j 44 b=some s):∃e:be,b=[.int .i64 e.aS,.int .i64 e.ao,.int .i64 e.bj,.int .i64 e.X,.int .i64 e.aE]/\c1 e.aS:=by
 obtain⟨t,G,rfl,_,i,u,f⟩:=DataW.trod_struct underlying44 h;rw[GK]at i;obtain⟨H,I,J,K,P,rfl⟩:=FI i;obtain⟨gf,gg,gj,gC,gE,rfl⟩:=FI (show t.length=5 from u)
 ·have l:=f 0 _ rfl;have m:=f 1 _ rfl;have o:=f 2 _ rfl;have p:=f 3 _ rfl;have q:=f 4 _ rfl;simp[D6]at l m o p q;obtain⟨v,w,_,x⟩:=tk underlying3 l;obtain⟨y,z,_,_⟩:=tk underlying3 m;obtain⟨A,B,_,_⟩:=tk underlying3 o;obtain⟨C,D,_,_⟩:=tk underlying3 p;obtain⟨E,F,_,_⟩:=tk underlying3 q;cases w;cases z;cases B;cases D;cases F;exact⟨⟨v,y,A,C,E⟩,rfl,F9 x⟩
theorem Sw{i:Type}{t:TypeId×an->i}{l:DataW i×List MemPlace}(h:DataW.trod t prog a d k c j 89 b=some l):∃g:ip,b=(fK g).toList/\(c1 g.ef/\c1 g.a6.aS)/\2<=Rows.uptoBulk l.1:=by
 obtain⟨u,F,rfl,rfl,m,v,f⟩:=DataW.trod_struct underlying89 h;rw[zB]at m;obtain⟨G,H,I,J,K,P,gf,gg,rfl⟩:=S5 m;obtain⟨o,gj,gC,gE,rfl⟩:=O7 (show u.length=4 from v)
 ·have p:=f 0 _ rfl;have q:=f 1 _ rfl;have r:=f 2 _ rfl;have s:=f 3 _ rfl;simp[D6,P0,GK]at p q r s;obtain⟨w,x,_,_⟩:=tk underlying3 p;obtain⟨y,z,_,A⟩:=tk underlying3 q;obtain⟨B,C,_,_⟩:=DataW.trod_string underlying9 r;obtain⟨e,D,E⟩:=OR s;cases x;cases z;cases C;cases D;refine⟨⟨w,y,B,e⟩,rfl,⟨F9 A,E⟩,?_⟩;have:=Ty o.1;show 2<=(Rows.uptoBulk o.1+_)+1;omega
theorem Hs{v:Type}{F:TypeId×an->v}{q:an}{r:DataW v}{w:List MemPlace}(G:an.okWide prog a .any d 33 q)(h:DataW.Trod F prog a 0 (λ_=>true) true 33 q r w)(H:∀I∈w,I.block<a.heap.size):∃x,x_ a q x/\2*x.length<=Rows.uptoBulk r:=by
 obtain⟨hu,k,hE,rfl⟩:=okWide_slice underlying33 G;obtain⟨j,l⟩:=h;rcases Deep.open_slice underlying33 l with⟨m,s⟩|⟨o,hS,hV,J,hZ,t,ih,m,_,iR,iU,y,s,z⟩
 ·simp[an.cells]at m;obtain⟨rfl,rfl,rfl⟩:=m;exact⟨[],⟨⟨none,0,rfl,λh=>by simp at h⟩,λiZ K=>by simp at K⟩,av⟩
 ·simp[an.cells]at m
  obtain⟨rfl,rfl,rfl⟩:=m;simp only[iC]at y;subst y;simp only[B6]at s;obtain⟨rfl,rfl⟩:=s;rw[zB]at z;have:Inhabited ip:=⟨⟨0,0,⟨#[]⟩,⟨0,0,0,0,0⟩⟩⟩;obtain⟨ah,l⟩:=Deep.choose_lt (α:=ip) (n:=k) (p:=λe g=>a.cells? 0 (o.add (e*8)) 8=some (fK g).toList/\(c1 g.ef/\c1 g.a6.aS)/\2<=Rows.uptoBulk (t e)) (λe i=>by
   obtain⟨b,P,gf⟩:=z e T
   obtain⟨g,rfl,gg,gj⟩:=Sw gf
   exact⟨g,P,gg,gj⟩)
  have A:∀e,e<k->∀f,f<8->a.cell? ((o.add (e*8)).add f)=(fK (ah e))[f]?:=λe i f u=>by obtain⟨_,i0,gC⟩:=World.cells?_some (l e i).1;rw[gC f u,Array.getElem?_toList]
  refine⟨(List.range k).map ah,⟨⟨some o,J,av,λB=>?_⟩,λg gE=>?_⟩,?_⟩
  ·rw[c_,FD]at B;obtain⟨C,D,gF⟩:=o;have gL:gF=none:=by have:=A 0 B 0 ak;simp[Addr.add]at this;exact World.cell?_spot this
   subst gL;refine⟨C,D,rfl,H (.cell C D) (oq _ (MemPlace.mem_row.2 ⟨0,by rw[zB];omega,av⟩)),λg1 E f u=>?_⟩;simp at E;rw[yz,List.getElem_range,<-A g1 E f u,ez,ez]
  ·obtain⟨e,i,rfl⟩:=eG.1 gE;exact(l e (m8.1 i)).2.1
  ·rw[c_,FD]
   have:=Qi (qZ:=(List.range k).map t) (λr c=>by
    obtain⟨e,i,rfl⟩:=eG.1 c
    exact(l e (m8.1 i)).2.2)
   rw[c_,FD]at this;show _<=Rows.uptoBulkAll ((List.range k).map t)+_+1;omega
theorem Hv:laidOutB prog=true:=by kernel_rfl
theorem Cv:prog.readableRec 33=true:=by kernel_rfl
theorem FA:33<prog.types.size:=t1 (by kernel_rfl)
