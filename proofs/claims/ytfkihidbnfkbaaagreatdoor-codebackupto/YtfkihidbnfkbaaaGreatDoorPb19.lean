import Derived.Test.YtfkihidbnfkbaaaGreatDoorPb18
set_option linter.all false
set_option maxHeartbeats 1000000
set_option maxRecDepth 100000
open Go.ChangeShapes Go.WideShapes Go.ChangeAt Go.RowKit Go.Joins Go.Deep List
open Inhabited renaming default->ϰ
namespace Go.Proofs.YtfkihidbnfkbaaaGreatDoor
open Go.Proofs.Tryz
namespace bf
open vl
theorem Aaz:Tryz.prog.cellsOf 166=5:=Ϡ
theorem Vt:Tryz.prog.cellsOf 80=1:=Ϡ
theorem Acr:Tryz.prog.cellsOf 4=1:=Ϡ
theorem Vu:Tryz.prog.cellsOf 9=1:=Ϡ
section
variable {H : Type} {enc : TypeId × Value -> H} {w : ϙ} {base : Nat} {spare : Nat -> Bool} {held : Bool}
theorem Hv{v:Value}{y:DataW H×List MemPlace}{fuel:Nat}(h:DataW.trod enc Tryz.prog w base spare held fuel 80 [v]=some y):
 ∃a e f r,v= .slice a e f/\List.length (α:=Cel) r=e/\vl.rowAt w a r/\B9 r/\e<=9223372036854775807:=by
 rcases open_slice underlying80 h with⟨b,_⟩|⟨x,l,c,m,n,D,o,b,_⟩
 ·simp at b;subst b;obtain⟨r,g,i,j,k⟩:=open_row (a:=none) (len:=0) (cap:=0) (d:=y.1) (p:=y.2) ⟨fuel,h⟩;exact⟨_,_,_,r,rfl,g,i,j,k⟩
 ·simp at b;subst b;obtain⟨r,g,i,j,k⟩:=open_row (a:=some x) (len:=l) (cap:=c) (d:=y.1) (p:=y.2) ⟨fuel,h⟩;exact⟨_,_,_,r,rfl,g,i,j,k⟩
structure inE(w:World)(e:EM)(x:Ent):Prop where
 er:ER w e x
 wf:wfE x
 wp:wfP (Bd x)
theorem N9{x:Addr}{f:List Value}{y:DataW H×List MemPlace}{fuel:Nat}(E:w.cells? base x 5=some f)(L:DataW.trod enc Tryz.prog w base spare held fuel 166 f=some y):
 ∃(b a:Nat) (c:EM×Ent),x=⟨b,a,none⟩/\Δ w b a (.string c.1.key)/\Δ w b (a+1) (.int .i64 c.1.time)/\Δ w b (a+2) (.int .i64 c.1.seq)/\Δ w b (a+3) (hdV c.1.row)/\Δ w b (a+4) (.bool c.1.met)/\inE w c.1 c.2:=by
 obtain⟨_,G,d⟩:=World.cells?_some E;obtain⟨T,n,_,_,_,N,e⟩:=DataW.trod_struct underlying166 L
 match T,N with
 |[y0,y1,y2,y3,y4],_=>
  have k:=e 0 _ rfl;have l:=e 1 _ rfl;have m:=e 2 _ rfl;have o:=e 3 _ rfl;have p:=e 4 _ rfl
  match f,G with
  |[a0,a1,a2,a3,a4],_=>
   simp[Vu]at k;simp[Cn]at l m;simp[Vt]at o;simp[Acr]at p;obtain⟨u,e0,_,v⟩:=DataW.trod_string underlying9 k;obtain⟨s,g,_,R⟩:=DataW.trod_int underlying3 l;obtain⟨t,h,_,S⟩:=DataW.trod_int underlying3 m;obtain⟨O,U,P,r,z,F,J,M,I⟩:=Hv o;obtain⟨q,i,_⟩:=DataW.trod_bool underlying4 p;simp only[List.cons.injEq,and_true]at e0 g h i;subst e0 g h z i F;obtain⟨b,a,Q⟩:=x;have j:=d 0 ϝ;have A:=d 1 ϝ;have B:=d 2 ϝ;have C:=d 3 ϝ;have D:=d 4 ϝ;have K:Q=none:=by simpa[Addr.add]using World.cell?_spot j
   subst K;refine⟨b,a,(⟨u,s,t,(O,r.length,P),q⟩,⟨u,s,t,r,q⟩),rfl,?_,?_,?_,?_,?_,⟨⟨rfl,rfl,rfl,rfl,rfl,J⟩,⟨v,M,I⟩,?_⟩⟩
   ·simpa[Addr.add]using j
   ·simpa[Addr.add]using A
   ·simpa[Addr.add]using B
   ·simpa[Addr.add,hdV]using C
   ·simpa[Addr.add]using D
   ·exact⟨v,bounds_i64 R,bounds_i64 S⟩
theorem XQ{v:Value}{y:DataW H×List MemPlace}{fuel:Nat}(M:DataW.trod enc Tryz.prog w base spare held fuel 33 [v]=some y):
 ∃(a:Ϛ) (cap:Nat) (k:List EM) (l:List Ent),v= .slice a k.length cap/\Cm w a k/\k.length=l.length/\k.length<=χ/\∀i,i<l.length->inE w (k.getD i ϰ) (l.getD i ϰ):=by
 rcases open_slice underlying33 M with⟨o,_⟩|⟨x,d,cap,m,n,D,R,o,_,V,N,O,_,B⟩
 ·simp at o;subst o;exact⟨none,0,[],[],rfl,λi h=>absurd h (Nat.not_lt_zero i),rfl,ϟ,λi h=>absurd h (Nat.not_lt_zero i)⟩
 ·simp at o;subst o;have W:d<=m:=by rw[O];split<;>omega
  rw[Aaz]at B;obtain⟨f,E⟩:=choose_lt (α:=EM×Ent) (n:=d) (p:=λi c=> ∃b g,x=⟨b,g,none⟩/\Δ w b (g+i * 5) (.string c.1.key)/\Δ w b (g+i * 5+1) (.int .i64 c.1.time)/\Δ w b (g+i * 5+2) (.int .i64 c.1.seq)/\Δ w b (g+i * 5+3) (hdV c.1.row)/\Δ w b (g+i * 5+4) (.bool c.1.met)/\inE w c.1 c.2) (λi h=>by
   obtain⟨T,K,L⟩:=B i ϝ;obtain⟨b,g,c,e,s,t,u,z,A,C⟩:=N9 K L;obtain⟨U,P,Q⟩:=B 0 ϝ;obtain⟨r,q,S,e0,_⟩:=N9 P Q;have J:x=⟨r,q,none⟩:=by simpa[Addr.add]using e0
   subst J;have I:(⟨r,q,none⟩:Addr).add (i * 5)=⟨r,q+i * 5,none⟩:=by unfold Addr.add;split<;>simp_all
   rw[I]at e
   cases e
   exact⟨c,b,q,rfl,s,t,u,z,A,C⟩)
  refine⟨some x,cap,(List.range d).map λi=>(f i).1,(List.range d).map λi=>(f i).2,ϟ,?_,ϟ,by unfold maxLen at N;simp;omega,?_⟩
  ·intro i h;have j:i<d:=by simpa using h
   obtain⟨b,g,rfl,s,t,u,z,A,_⟩:=E i j;have e:((List.range d).map λi=>(f i).1).getD i ϰ=(f i).1:=by simp[gDe,j]
   rw[e];exact⟨b,g,rfl,s,t,u,z,A⟩
  ·intro i h;have j:i<d:=by simpa using h
   obtain⟨_,_,_,_,_,_,_,_,C⟩:=E i j;have F:((List.range d).map λi=>(f i).1).getD i ϰ=(f i).1:=by simp[gDe,j]
   have G:((List.range d).map λi=>(f i).2).getD i ϰ=(f i).2:=by simp[gDe,j]
   rw[F,G];exact C
end
section
variable {H : Type} {enc : TypeId × Value -> H} {w : ϙ} {base : Nat} {spare : Nat -> Bool} {held : Bool}
end
theorem AdZ{H:Type}(d:DataW H):1<=Rows.uptoBulk d:=by
 cases d with
 |lit l=>cases l<;>simp[Rows.uptoBulk]
 |_=>simp[Rows.uptoBulk]
theorem NA{H:Type}{d:DataW H}:∀{l:List (DataW H)},d∈l->Rows.uptoBulk d<=Rows.uptoBulkAll l
 |[],h=>by cases h
 |x::r,h=>by
  rw[Rows.uptoBulkAll];rcases mem_cons.1 h with e|e
  ·subst e;omega
  ·have:=NA e;omega
theorem Aa0{H:Type}(r:List (DataW H)):∀l:List (DataW H),Rows.uptoBulkAll (l++r)=Rows.uptoBulkAll l+Rows.uptoBulkAll r
 |[]=>by simp[Rows.uptoBulkAll]
 |x::l=>by
  rw[cons_append,Rows.uptoBulkAll,Rows.uptoBulkAll,Aa0 r l];omega
theorem Aa1{H:Type}:∀l:List (DataW H),l.length<=Rows.uptoBulkAll l
 |[]=>by simp
 |x::r=>by
  have a:=AdZ x;have b:=Aa1 r;rw[Rows.uptoBulkAll,length_cons];omega
theorem Vv{H:Type}(g:Nat->List Ent)(D:Nat->DataW H):∀n,(∀i,i<n->(g i).length<=Rows.uptoBulk (D i))->((List.range n).map g).flatten.length<=Rows.uptoBulkAll ((List.range n).map D)
 |0,_=>by simp
 |n+1,h=>by
  have a:=Vv g D n (λi c=>h i ϝ);have b:=h n (Nat.lt_succ_self n);rw[range_succ,map_append,map_append,Aa0,flatten_append,lAp];simp only[map_cons,map_nil,flatten_cons,flatten_nil,append_nil,Rows.uptoBulkAll];omega
section
variable {H : Type} {enc : TypeId × Value -> H} {w : ϙ} {base : Nat} {spare : Nat -> Bool} {held : Bool}
theorem NC{t e:TypeId}{a:Ϛ}{len cap:Nat}{y:DataW H×List MemPlace}{fuel:Nat}(d:Tryz.prog.underlying t=some (.slice e))(h:DataW.trod enc Tryz.prog w base spare held fuel t [.slice a len cap]=some y):len<=Rows.uptoBulk y.1:=by
 rcases open_slice d h with⟨b,_⟩|⟨x,l,c,m,n,D,f,b,_,_,_,_,hy,_⟩
 ·simp at b;omega
 ·simp at b;obtain⟨_,rfl,_⟩:=b;rw[hy];have:=Aa1 ((List.range len).map D);simp only[Rows.uptoBulk];simp at this;omega
theorem Ue{b d:Nat}{c:List Value}{y:DataW H×List MemPlace}{fuel:Nat}{k:ByteArray}{a:Ϛ}{len cap:Nat}(o:w.cells? base ⟨b,d,none⟩ 5=some c)(s:DataW.trod enc Tryz.prog w base spare held fuel 166 c=some y)(p:Δ w b d (.string k))(r:Δ w b (d+3) (.slice a len cap)):k.size<=Rows.uptoBulk y.1/\len<=Rows.uptoBulk y.1:=by
 obtain⟨_,q,j⟩:=World.cells?_some o;obtain⟨u,n,_,hy,_,t,l⟩:=DataW.trod_struct underlying166 s
 match u,t with
 |[y0,y1,y2,y3,y4],_=>
  have h:=l 0 _ rfl;have i:=l 3 _ rfl
  match c,q with
  |[a0,a1,a2,a3,a4],_=>
   simp[Vu]at h;simp[Vt]at i;have f:=j 0 ϝ;have g:=j 3 ϝ;simp[Addr.add,p]at f;simp[Addr.add,r]at g;subst f g;obtain⟨z,e0,m,_⟩:=DataW.trod_string underlying9 h;simp only[List.cons.injEq,and_true,Value.string.injEq]at e0;subst e0;have v:Rows.uptoBulk y0.1=k.data.toList.length+1:=by rw[m];simp[Rows.uptoBulk]
   have x:=NC underlying80 i;have e:k.data.toList.length=k.size:=by rw[Array.length_toList];rfl
   rw[hy];simp only[map_cons,map_nil,Rows.uptoBulk,Rows.uptoBulkAll];omega
theorem OZ{v:Value}{y:DataW H×List MemPlace}{fuel:Nat}(g:DataW.trod enc Tryz.prog w base spare held fuel 33 [v]=some y):
 ∃(q:Part) (l:List Ent),v=hdV q.1/\q.1.2.1=q.2.length/\Cm w q.1.1 q.2/\q.2.length=l.length/\q.2.length<=χ/\(∀i,i<l.length->inE w (q.2.getD i ϰ) (l.getD i ϰ))/\l.length<=Rows.uptoBulk y.1/\∀i,i<l.length->(l.getD i ϰ).key.size<=Rows.uptoBulk y.1/\(l.getD i ϰ).row.length<=Rows.uptoBulk y.1:=by
 obtain⟨a,z,o,l,K,r,e,J,t⟩:=XQ g;subst K;refine⟨((a,o.length,z),o),l,rfl,rfl,r,e,J,t,?_,λi F=>?_⟩
 ·rw[<-e];exact NC underlying33 g
 ·rcases open_slice underlying33 g with⟨d,_⟩|⟨x,h,c,m,n,D,N,d,_,T,W,I,hy,L⟩
  ·simp at d;obtain⟨_,C,_⟩:=d;rw[C]at e;simp at e;omega
  ·simp at d;obtain⟨M,V,_⟩:=d;have U:h<=m:=by rw[I];split<;>omega
   have G:i<h:=ϝ;obtain⟨O,f,E⟩:=L i ϝ;rw[Aaz]at f;obtain⟨b,u,j,B,P,Q,p,R⟩:=r i ϝ;rw[M]at j
   cases j
   have A:(⟨b,u,none⟩:Addr).add (i * 5)=⟨b,u+i * 5,none⟩:=C3 _ _ _;rw[A]at f;have s:=(t i F).er;unfold hdV at p;have k:=Ue f E B p;have S:Rows.uptoBulk (D i)<=Rows.uptoBulk y.1:=by
    rw[hy];have:=NA (l:=(List.range h).map D) (mem_map.2 ⟨i,mem_range.2 G,rfl⟩);simp only[Rows.uptoBulk];omega
   rw[s.key,s.len]at k;dsimp only at k;omega
theorem Acs:Tryz.prog.cellsOf 33=1:=Ϡ
theorem XR{v:Value}{y:DataW H×List MemPlace}{fuel:Nat}(U:DataW.trod enc Tryz.prog w base spare held fuel 34 [v]=some y):
 ∃(K:Ϛ) (rc:Nat) (rs:List Part) (g:List (List Ent)),v= .slice K rs.length rc/\FA w K (rs.map (·.1))/\rs.length=g.length/\rs.length<=χ/\g.flatten.length<=Rows.uptoBulk y.1/\
  ∀i,i<g.length->(rs.getD i ϰ).1.2.1=(rs.getD i ϰ).2.length/\(rs.getD i ϰ).2.length<=χ/\Cm w (rs.getD i ϰ).1.1 (rs.getD i ϰ).2/\(rs.getD i ϰ).2.length=(g.getD i ϰ).length/\(∀j,j<(g.getD i ϰ).length->inE w ((rs.getD i ϰ).2.getD j ϰ) ((g.getD i ϰ).getD j ϰ))/\∀j,j<(g.getD i ϰ).length->((g.getD i ϰ).getD j ϰ).key.size<=Rows.uptoBulk y.1/\((g.getD i ϰ).getD j ϰ).row.length<=Rows.uptoBulk y.1:=by
 rcases open_slice underlying34 U with⟨r,_⟩|⟨x,d,c,m,n,D,Pl,r,_,hl,Y,Z,hy,t⟩
 ·simp at r;subst r;exact⟨none,0,[],[],rfl,λi a=>absurd a (Nat.not_lt_zero i),rfl,ϟ,ϟ,λi a=>absurd a (Nat.not_lt_zero i)⟩
 ·simp at r;subst r;have ac:d<=m:=by rw[Z];split<;>omega
  rw[Acs]at t;obtain⟨f,s⟩:=choose_lt (α:=Part×List Ent) (n:=d) (p:=λi q=> ∃b k,x=⟨b,k,none⟩/\Δ w b (k+i) (hdV q.1.1)/\q.1.1.2.1=q.1.2.length/\Cm w q.1.1.1 q.1.2/\q.1.2.length=q.2.length/\q.1.2.length<=χ/\(∀j,j<q.2.length->inE w (q.1.2.getD j ϰ) (q.2.getD j ϰ))/\q.2.length<=Rows.uptoBulk (D i)/\∀j,j<q.2.length->(q.2.getD j ϰ).key.size<=Rows.uptoBulk (D i)/\(q.2.getD j ϰ).row.length<=Rows.uptoBulk (D i)) (λi a=>by
   obtain⟨M,I,Q⟩:=t i ϝ;obtain⟨_,X,R⟩:=World.cells?_some I
   match M,X with
   |[u],_=>
    obtain⟨q,l,hv,z,A,B,C,E,J,F⟩:=OZ Q;have o:=R 0 ϝ;obtain⟨b,k,L⟩:=x;obtain⟨G,z1,_⟩:=t 0 ϝ;obtain⟨_,W,S⟩:=World.cells?_some z1;obtain⟨u0,ab⟩:∃u0,G=[u0]:=by
     match G,W with
     |[u0],_=>exact⟨u0,rfl⟩
    subst ab;have P:w.cell? ((Addr.mk b k L).add (0 * 1)|>.add 0)=some u0:=S 0 ϝ;have aa:L=none:=by simpa[Addr.add]using World.cell?_spot P
    subst aa;rw[Nat.mul_one,C3]at o;rw[C3]at o;simp at o;subst hv;exact⟨(q,l),b,k,rfl,o,z,A,B,C,E,J,F⟩)
  have T:∀i,i<d->Rows.uptoBulk (D i)<=Rows.uptoBulk y.1:=λi a=>by
   rw[hy];have:=NA (l:=(List.range d).map D) (mem_map.2 ⟨i,mem_range.2 a,rfl⟩);simp only[Rows.uptoBulk];omega
  refine⟨some x,c,(List.range d).map λi=>(f i).1,(List.range d).map λi=>(f i).2,ϟ,λi a=>?_,ϟ,by unfold maxLen at Y;simp;omega,?_,λi a=>?_⟩
  ·have h:i<d:=by simpa using a
   obtain⟨b,k,rfl,o,_⟩:=s i h;refine⟨b,k,rfl,?_⟩;have e:(((List.range d).map λi=>(f i).1).map (·.1)).getD i (none,0,0)=(f i).1.1:=by simp[gDe,h]
   rw[e];exact o
  ·have I:=Vv (λi=>(f i).2) D d (λi a=>(s i a).choose_spec.choose_spec.2.2.2.2.2.2.2.1);rw[hy];simp only[Rows.uptoBulk];omega
  ·have h:i<d:=by simpa using a
   obtain⟨_,_,_,_,z,A,B,C,E,J,F⟩:=s i h;have N:((List.range d).map λi=>(f i).1).getD i ϰ=(f i).1:=by simp[gDe,h]
   have O:((List.range d).map λi=>(f i).2).getD i ϰ=(f i).2:=by simp[gDe,h]
   rw[N,O];exact⟨z,C,A,B,E,λj V=>by have:=F j V;have:=T i h;omega⟩
theorem Acu:Tryz.prog.cellsOf 36=3:=Ϡ
theorem EJ{α:Type}{l:List α}{d y:α}(h:y∈l):∃j,j<l.length/\l.getD j d=y:=by
 obtain⟨j,a,rfl⟩:=getElem_of_mem h;exact⟨j,a,by rw[gDe,gEe a];rfl⟩
theorem XS{o p r:Value}{y0 g h:DataW H×List MemPlace}{A B C:Nat}(s:DataW.trod enc Tryz.prog w base spare held A 3 [o]=some y0)(u:DataW.trod enc Tryz.prog w base spare held B 33 [p]=some g)(v:DataW.trod enc Tryz.prog w base spare held C 34 [r]=some h):
 ∃(b:Buf) (x:BX),o= .int .i64 b.lim/\p=hdV x.m.1/\r= .slice x.ra x.rs.length x.rc/\bufAt w b x/\(Ac b).length<=Rows.uptoBulk g.1+Rows.uptoBulk h.1/\∀y∈Ac b,wfE y/\wfP (Bd y)/\y.key.size<=Rows.uptoBulk g.1+Rows.uptoBulk h.1/\y.row.length<=Rows.uptoBulk g.1+Rows.uptoBulk h.1:=by
 obtain⟨z,e0,_,_⟩:=DataW.trod_int underlying3 s;simp only[List.cons.injEq,and_true]at e0;subst e0;obtain⟨q,l,rfl,D,E,F,G,m,Q,I⟩:=OZ u;obtain⟨J,K,L,M,rfl,N,n,O,R,f⟩:=XR v;refine⟨⟨z,l,M⟩,⟨J,K,q,L⟩,rfl,rfl,rfl,⟨N,λt e=>?_,λt e=>?_,O,⟨F,λi a=>(m i a).er⟩,n,λi a=>⟨(f i a).2.2.2.1,λj c=>((f i a).2.2.2.2.1 j c).er⟩⟩,?_,λy hy=>?_⟩
 ·rcases mem_cons.1 e with rfl|e
  ·exact⟨D,G⟩
  ·obtain⟨i,a,rfl⟩:=EJ (d:=ϰ) e;have:=f i (by rw[<-n];exact a);exact⟨this.1,this.2.1⟩
 ·rcases mem_cons.1 e with rfl|e
  ·exact E
  ·obtain⟨i,a,rfl⟩:=EJ (d:=ϰ) e;exact(f i (by rw[<-n];exact a)).2.2.1
 ·rw[D5,lAp];dsimp only;omega
 ·rw[D5]at hy;dsimp only at hy;rcases mem_append.1 hy with hy|hy
  ·obtain⟨j,c,rfl⟩:=EJ (d:=ϰ) hy;have k:=I j c;exact⟨(m j c).wf,(m j c).wp,ϝ,ϝ⟩
  ·obtain⟨t,e,hy⟩:=mem_flatten.1 hy;obtain⟨i,a,rfl⟩:=EJ (d:=ϰ) e;obtain⟨j,c,rfl⟩:=EJ (d:=ϰ) hy;have k:=f i a;have P:=k.2.2.2.2.2 j c;exact⟨(k.2.2.2.2.1 j c).wf,(k.2.2.2.2.1 j c).wp,ϝ,ϝ⟩
end
end bf
namespace jn
open vl bf
theorem Acv:Tryz.prog.cellsOf 38=9:=Ϡ
theorem Acw:Tryz.prog.cellsOf 33=1:=Ϡ
theorem Acx:Tryz.prog.cellsOf 34=1:=Ϡ
section
variable {H : Type} {enc : TypeId × Value -> H} {w : ϙ} {base : Nat} {spare : Nat -> Bool} {held : Bool}
theorem ND{c d e:Value}{y:DataW H×List MemPlace}{n:Nat}(h:DataW.trod enc Tryz.prog w base spare held n 36 [c,d,e]=some y):
 ∃(b:Buf) (x:BX),c= .int .i64 b.lim/\d=hdV x.m.1/\e= .slice x.ra x.rs.length x.rc/\bufAt w b x/\(Ac b).length<=Rows.uptoBulk y.1/\∀z∈Ac b,wfE z/\wfP (Bd z)/\z.key.size<=Rows.uptoBulk y.1/\z.row.length<=Rows.uptoBulk y.1:=by
 obtain⟨o,m,_,hy,_,k,a⟩:=DataW.trod_struct underlying36 h
 match o,k with
 |[y0,y1,y2],_=>
  have f:=a 0 _ rfl;have g:=a 1 _ rfl;have i:=a 2 _ rfl;simp[Cn]at f;simp[Acw]at g;simp[Acx]at i;have p:Rows.uptoBulk y.1=Rows.uptoBulk y0.1+(Rows.uptoBulk y1.1+Rows.uptoBulk y2.1)+1:=by
   rw[hy];simp only[map_cons,map_nil,Rows.uptoBulk,Rows.uptoBulkAll];omega
  obtain⟨b,x,rfl,rfl,rfl,j,q,l⟩:=XS f g i;exact⟨b,x,rfl,rfl,rfl,j,ϝ,λz h=>by have:=l z h;exact⟨this.1,this.2.1,ϝ,ϝ⟩⟩
end
end jn
end Go.Proofs.YtfkihidbnfkbaaaGreatDoor
