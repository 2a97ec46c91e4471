import Derived.Test.YtfkihidbnfkbaaaGreatDoorPv18
set_option linter.all false
set_option maxHeartbeats 1000000
set_option maxRecDepth 100000
open Go.ChangeShapes Go.WideShapes Go.ChangeAt Go.RowKit Go.Joins Go.Deep List
open Inhabited renaming default->ϰ
namespace Go.Proofs.YtfkihidbnfkbaaaGreatDoor
open Go.Proofs.Tryz
namespace bf
open vl
theorem AaU:Tryz.prog.cellsOf 166=5:=ϧ
theorem WT:Tryz.prog.cellsOf 80=1:=ϧ
theorem Ad6:Tryz.prog.cellsOf 4=1:=ϧ
theorem WU:Tryz.prog.cellsOf 9=1:=ϧ
section
variable {H : Type} {enc : TypeId × Value -> H} {w : Ϡ} {base : Nat} {spare : Nat -> Bool} {held : Bool}
theorem I3{v:Value}{y:DataW H×List MemPlace}{fuel:Nat}(h:DataW.trod enc Tryz.prog w base spare held fuel 80 [v]=some y):
 ∃a e f r,v= .slice a e f/\List.length (α:=Cel) r=e/\vl.rowAt w a r/\Bq r/\e<=9223372036854775807:=by
 rcases open_slice underlying80 h with⟨b,_⟩|⟨x,l,c,m,n,D,o,b,_⟩
 ·simp at b;subst b;obtain⟨r,g,i,j,k⟩:=open_row (a:=none) (len:=0) (cap:=0) (d:=y.1) (p:=y.2) ⟨fuel,h⟩;exact⟨_,_,_,r,rfl,g,i,j,k⟩
 ·simp at b;subst b;obtain⟨r,g,i,j,k⟩:=open_row (a:=some x) (len:=l) (cap:=c) (d:=y.1) (p:=y.2) ⟨fuel,h⟩;exact⟨_,_,_,r,rfl,g,i,j,k⟩
structure inE(w:World)(e:EM)(x:Ent):Prop where
 er:ER w e x
 wf:wfE x
 wp:wfP (AK x)
theorem Nx{x:Addr}{f:List Value}{y:DataW H×List MemPlace}{fuel:Nat}(E:w.cells? base x 5=some f)(ht:DataW.trod enc Tryz.prog w base spare held fuel 166 f=some y):
 ∃(b a:Nat) (c:EM×Ent),x=⟨b,a,none⟩/\Δ w b a (.string c.1.key)/\Δ w b (a+1) (.int .i64 c.1.time)/\Δ w b (a+2) (.int .i64 c.1.seq)/\Δ w b (a+3) (hdV c.1.row)/\Δ w b (a+4) (.bool c.1.met)/\inE w c.1 c.2:=by
 obtain⟨_,G,d⟩:=World.cells?_some E;obtain⟨S,n,_,_,_,M,e⟩:=DataW.trod_struct underlying166 ht
 match S,M with
 |[y0,y1,y2,y3,y4],_=>
  have k:=e 0 _ rfl;have l:=e 1 _ rfl;have m:=e 2 _ rfl;have o:=e 3 _ rfl;have p:=e 4 _ rfl
  match f,G with
  |[a0,a1,a2,a3,a4],_=>
   simp[WU]at k;simp[CR]at l m;simp[WT]at o;simp[Ad6]at p;obtain⟨u,e0,_,v⟩:=DataW.trod_string underlying9 k;obtain⟨s,g,_,Q⟩:=DataW.trod_int underlying3 l;obtain⟨t,h,_,R⟩:=DataW.trod_int underlying3 m;obtain⟨N,T,O,r,z,F,J,L,I⟩:=I3 o;obtain⟨q,i,_⟩:=DataW.trod_bool underlying4 p;simp only[List.cons.injEq,and_true]at e0 g h i;subst e0 g h z i F;obtain⟨b,a,P⟩:=x;have j:=d 0 Ϥ;have A:=d 1 Ϥ;have B:=d 2 Ϥ;have C:=d 3 Ϥ;have D:=d 4 Ϥ;have K:P=none:=by simpa[Addr.add]using World.cell?_spot j
   subst K;refine⟨b,a,(⟨u,s,t,(N,r.length,O),q⟩,⟨u,s,t,r,q⟩),rfl,?_,?_,?_,?_,?_,⟨⟨rfl,rfl,rfl,rfl,rfl,J⟩,⟨v,L,I⟩,?_⟩⟩
   ·simpa[Addr.add]using j
   ·simpa[Addr.add]using A
   ·simpa[Addr.add]using B
   ·simpa[Addr.add,hdV]using C
   ·simpa[Addr.add]using D
   ·exact⟨v,bounds_i64 Q,bounds_i64 R⟩
theorem Yw{v:Value}{y:DataW H×List MemPlace}{fuel:Nat}(M:DataW.trod enc Tryz.prog w base spare held fuel 33 [v]=some y):
 ∃(a:ϡ) (cap:Nat) (k:List EM) (l:List Ent),v= .slice a k.length cap/\BR w a k/\k.length=l.length/\k.length<=ύ/\∀i,i<l.length->inE w (k.getD i ϰ) (l.getD i ϰ):=by
 rcases open_slice underlying33 M with⟨o,_⟩|⟨x,d,cap,m,n,D,R,o,_,V,N,O,_,B⟩
 ·simp at o;subst o;exact⟨none,0,[],[],rfl,λi h=>absurd h (Nat.not_lt_zero i),rfl,Ϧ,λi h=>absurd h (Nat.not_lt_zero i)⟩
 ·simp at o;subst o;have W:d<=m:=by rw[O];split<;>omega
  rw[AaU]at B;obtain⟨f,E⟩:=choose_lt (α:=EM×Ent) (n:=d) (p:=λi c=> ∃b g,x=⟨b,g,none⟩/\Δ w b (g+i * 5) (.string c.1.key)/\Δ w b (g+i * 5+1) (.int .i64 c.1.time)/\Δ w b (g+i * 5+2) (.int .i64 c.1.seq)/\Δ w b (g+i * 5+3) (hdV c.1.row)/\Δ w b (g+i * 5+4) (.bool c.1.met)/\inE w c.1 c.2) (λi h=>by
   obtain⟨T,K,L⟩:=B i Ϥ;obtain⟨b,g,c,e,s,t,u,z,A,C⟩:=Nx K L;obtain⟨U,P,Q⟩:=B 0 Ϥ;obtain⟨r,q,S,e0,_⟩:=Nx P Q;have J:x=⟨r,q,none⟩:=by simpa[Addr.add]using e0
   subst J;have I:(⟨r,q,none⟩:Addr).add (i * 5)=⟨r,q+i * 5,none⟩:=by unfold Addr.add;split<;>simp_all
   rw[I]at e
   cases e
   exact⟨c,b,q,rfl,s,t,u,z,A,C⟩)
  refine⟨some x,cap,(List.range d).map λi=>(f i).1,(List.range d).map λi=>(f i).2,Ϧ,?_,Ϧ,by unfold maxLen at N;simp;omega,?_⟩
  ·intro i h;have j:i<d:=by simpa using h
   obtain⟨b,g,rfl,s,t,u,z,A,_⟩:=E i j;have e:((List.range d).map λi=>(f i).1).getD i ϰ=(f i).1:=by simp[gDe,j]
   rw[e];exact⟨b,g,rfl,s,t,u,z,A⟩
  ·intro i h;have j:i<d:=by simpa using h
   obtain⟨_,_,_,_,_,_,_,_,C⟩:=E i j;have F:((List.range d).map λi=>(f i).1).getD i ϰ=(f i).1:=by simp[gDe,j]
   have G:((List.range d).map λi=>(f i).2).getD i ϰ=(f i).2:=by simp[gDe,j]
   rw[F,G];exact C
end
section
variable {H : Type} {enc : TypeId × Value -> H} {w : Ϡ} {base : Nat} {spare : Nat -> Bool} {held : Bool}
end
theorem Aff{H:Type}(d:DataW H):1<=Rows.uptoBulk d:=by
 cases d with
 |lit l=>cases l<;>simp[Rows.uptoBulk]
 |_=>simp[Rows.uptoBulk]
theorem Ny{H:Type}{d:DataW H}:∀{l:List (DataW H)},d∈l->Rows.uptoBulk d<=Rows.uptoBulkAll l
 |[],h=>by cases h
 |x::r,h=>by
  rw[Rows.uptoBulkAll];rcases mem_cons.1 h with e|e
  ·subst e;omega
  ·have:=Ny e;omega
theorem AaV{H:Type}(r:List (DataW H)):∀l:List (DataW H),Rows.uptoBulkAll (l++r)=Rows.uptoBulkAll l+Rows.uptoBulkAll r
 |[]=>by simp[Rows.uptoBulkAll]
 |x::l=>by
  rw[cons_append,Rows.uptoBulkAll,Rows.uptoBulkAll,AaV r l];omega
theorem AaW{H:Type}:∀l:List (DataW H),l.length<=Rows.uptoBulkAll l
 |[]=>by simp
 |x::r=>by
  have a:=Aff x;have b:=AaW r;rw[Rows.uptoBulkAll,length_cons];omega
theorem WV{H:Type}(g:Nat->List Ent)(D:Nat->DataW H):∀n,(∀i,i<n->(g i).length<=Rows.uptoBulk (D i))->((List.range n).map g).flatten.length<=Rows.uptoBulkAll ((List.range n).map D)
 |0,_=>by simp
 |n+1,h=>by
  have a:=WV g D n (λi c=>h i Ϥ);have b:=h n (Nat.lt_succ_self n);rw[range_succ,map_append,map_append,AaV,flatten_append,lAp];simp only[map_cons,map_nil,flatten_cons,flatten_nil,append_nil,Rows.uptoBulkAll];omega
section
variable {H : Type} {enc : TypeId × Value -> H} {w : Ϡ} {base : Nat} {spare : Nat -> Bool} {held : Bool}
theorem Nz{t e:TypeId}{a:ϡ}{len cap:Nat}{y:DataW H×List MemPlace}{fuel:Nat}(d:Tryz.prog.underlying t=some (.slice e))(h:DataW.trod enc Tryz.prog w base spare held fuel t [.slice a len cap]=some y):len<=Rows.uptoBulk y.1:=by
 rcases open_slice d h with⟨b,_⟩|⟨x,l,c,m,n,D,f,b,_,_,_,_,hy,_⟩
 ·simp at b;omega
 ·simp at b;obtain⟨_,rfl,_⟩:=b;rw[hy];have:=AaW ((List.range len).map D);simp only[Rows.uptoBulk];simp at this;omega
theorem Va{b d:Nat}{c:List Value}{y:DataW H×List MemPlace}{fuel:Nat}{k:ByteArray}{a:ϡ}{len cap:Nat}(o:w.cells? base ⟨b,d,none⟩ 5=some c)(ht:DataW.trod enc Tryz.prog w base spare held fuel 166 c=some y)(p:Δ w b d (.string k))(r:Δ w b (d+3) (.slice a len cap)):k.size<=Rows.uptoBulk y.1/\len<=Rows.uptoBulk y.1:=by
 obtain⟨_,q,j⟩:=World.cells?_some o;obtain⟨t,n,_,hy,_,s,l⟩:=DataW.trod_struct underlying166 ht
 match t,s with
 |[y0,y1,y2,y3,y4],_=>
  have h:=l 0 _ rfl;have i:=l 3 _ rfl
  match c,q with
  |[a0,a1,a2,a3,a4],_=>
   simp[WU]at h;simp[WT]at i;have f:=j 0 Ϥ;have g:=j 3 Ϥ;simp[Addr.add,p]at f;simp[Addr.add,r]at g;subst f g;obtain⟨x,e0,m,_⟩:=DataW.trod_string underlying9 h;simp only[List.cons.injEq,and_true,Value.string.injEq]at e0;subst e0;have u:Rows.uptoBulk y0.1=k.data.toList.length+1:=by rw[m];simp[Rows.uptoBulk]
   have v:=Nz underlying80 i;have e:k.data.toList.length=k.size:=by rw[Array.length_toList];rfl
   rw[hy];simp only[map_cons,map_nil,Rows.uptoBulk,Rows.uptoBulkAll];omega
theorem PV{v:Value}{y:DataW H×List MemPlace}{fuel:Nat}(g:DataW.trod enc Tryz.prog w base spare held fuel 33 [v]=some y):
 ∃(q:Part) (l:List Ent),v=hdV q.1/\q.1.2.1=q.2.length/\BR w q.1.1 q.2/\q.2.length=l.length/\q.2.length<=ύ/\(∀i,i<l.length->inE w (q.2.getD i ϰ) (l.getD i ϰ))/\l.length<=Rows.uptoBulk y.1/\∀i,i<l.length->(l.getD i ϰ).key.size<=Rows.uptoBulk y.1/\(l.getD i ϰ).row.length<=Rows.uptoBulk y.1:=by
 obtain⟨a,z,o,l,K,r,e,J,t⟩:=Yw g;subst K;refine⟨((a,o.length,z),o),l,rfl,rfl,r,e,J,t,?_,λi F=>?_⟩
 ·rw[<-e];exact Nz underlying33 g
 ·rcases open_slice underlying33 g with⟨d,_⟩|⟨x,h,c,m,n,D,N,d,_,T,W,I,hy,L⟩
  ·simp at d;obtain⟨_,C,_⟩:=d;rw[C]at e;simp at e;omega
  ·simp at d;obtain⟨M,V,_⟩:=d;have U:h<=m:=by rw[I];split<;>omega
   have G:i<h:=Ϥ;obtain⟨O,f,E⟩:=L i Ϥ;rw[AaU]at f;obtain⟨b,u,j,B,P,Q,p,R⟩:=r i Ϥ;rw[M]at j
   cases j
   have A:(⟨b,u,none⟩:Addr).add (i * 5)=⟨b,u+i * 5,none⟩:=Dk _ _ _;rw[A]at f;have s:=(t i F).er;unfold hdV at p;have k:=Va f E B p;have S:Rows.uptoBulk (D i)<=Rows.uptoBulk y.1:=by
    rw[hy];have:=Ny (l:=(List.range h).map D) (mem_map.2 ⟨i,mem_range.2 G,rfl⟩);simp only[Rows.uptoBulk];omega
   rw[s.key,s.len]at k;dsimp only at k;omega
theorem Ad7:Tryz.prog.cellsOf 33=1:=ϧ
theorem Yx{v:Value}{y:DataW H×List MemPlace}{fuel:Nat}(U:DataW.trod enc Tryz.prog w base spare held fuel 34 [v]=some y):
 ∃(K:ϡ) (rc:Nat) (rs:List Part) (g:List (List Ent)),v= .slice K rs.length rc/\FH w K (rs.map (·.1))/\rs.length=g.length/\rs.length<=ύ/\g.flatten.length<=Rows.uptoBulk y.1/\
  ∀i,i<g.length->(rs.getD i ϰ).1.2.1=(rs.getD i ϰ).2.length/\(rs.getD i ϰ).2.length<=ύ/\BR w (rs.getD i ϰ).1.1 (rs.getD i ϰ).2/\(rs.getD i ϰ).2.length=(g.getD i ϰ).length/\(∀j,j<(g.getD i ϰ).length->inE w ((rs.getD i ϰ).2.getD j ϰ) ((g.getD i ϰ).getD j ϰ))/\∀j,j<(g.getD i ϰ).length->((g.getD i ϰ).getD j ϰ).key.size<=Rows.uptoBulk y.1/\((g.getD i ϰ).getD j ϰ).row.length<=Rows.uptoBulk y.1:=by
 rcases open_slice underlying34 U with⟨r,_⟩|⟨x,d,c,m,n,D,Pl,r,_,hl,Y,Z,hy,t⟩
 ·simp at r;subst r;exact⟨none,0,[],[],rfl,λi a=>absurd a (Nat.not_lt_zero i),rfl,Ϧ,Ϧ,λi a=>absurd a (Nat.not_lt_zero i)⟩
 ·simp at r;subst r;have ac:d<=m:=by rw[Z];split<;>omega
  rw[Ad7]at t;obtain⟨f,s⟩:=choose_lt (α:=Part×List Ent) (n:=d) (p:=λi q=> ∃b k,x=⟨b,k,none⟩/\Δ w b (k+i) (hdV q.1.1)/\q.1.1.2.1=q.1.2.length/\BR w q.1.1.1 q.1.2/\q.1.2.length=q.2.length/\q.1.2.length<=ύ/\(∀j,j<q.2.length->inE w (q.1.2.getD j ϰ) (q.2.getD j ϰ))/\q.2.length<=Rows.uptoBulk (D i)/\∀j,j<q.2.length->(q.2.getD j ϰ).key.size<=Rows.uptoBulk (D i)/\(q.2.getD j ϰ).row.length<=Rows.uptoBulk (D i)) (λi a=>by
   obtain⟨M,I,Q⟩:=t i Ϥ;obtain⟨_,X,R⟩:=World.cells?_some I
   match M,X with
   |[u],_=>
    obtain⟨q,l,hv,z,A,B,C,E,J,F⟩:=PV Q;have o:=R 0 Ϥ;obtain⟨b,k,L⟩:=x;obtain⟨G,z1,_⟩:=t 0 Ϥ;obtain⟨_,W,S⟩:=World.cells?_some z1;obtain⟨u0,ab⟩:∃u0,G=[u0]:=by
     match G,W with
     |[u0],_=>exact⟨u0,rfl⟩
    subst ab;have P:w.cell? ((Addr.mk b k L).add (0 * 1)|>.add 0)=some u0:=S 0 Ϥ;have aa:L=none:=by simpa[Addr.add]using World.cell?_spot P
    subst aa;rw[Nat.mul_one,Dk]at o;rw[Dk]at o;simp at o;subst hv;exact⟨(q,l),b,k,rfl,o,z,A,B,C,E,J,F⟩)
  have T:∀i,i<d->Rows.uptoBulk (D i)<=Rows.uptoBulk y.1:=λi a=>by
   rw[hy];have:=Ny (l:=(List.range d).map D) (mem_map.2 ⟨i,mem_range.2 a,rfl⟩);simp only[Rows.uptoBulk];omega
  refine⟨some x,c,(List.range d).map λi=>(f i).1,(List.range d).map λi=>(f i).2,Ϧ,λi a=>?_,Ϧ,by unfold maxLen at Y;simp;omega,?_,λi a=>?_⟩
  ·have h:i<d:=by simpa using a
   obtain⟨b,k,rfl,o,_⟩:=s i h;refine⟨b,k,rfl,?_⟩;have e:(((List.range d).map λi=>(f i).1).map (·.1)).getD i (none,0,0)=(f i).1.1:=by simp[gDe,h]
   rw[e];exact o
  ·have I:=WV (λi=>(f i).2) D d (λi a=>(s i a).choose_spec.choose_spec.2.2.2.2.2.2.2.1);rw[hy];simp only[Rows.uptoBulk];omega
  ·have h:i<d:=by simpa using a
   obtain⟨_,_,_,_,z,A,B,C,E,J,F⟩:=s i h;have N:((List.range d).map λi=>(f i).1).getD i ϰ=(f i).1:=by simp[gDe,h]
   have O:((List.range d).map λi=>(f i).2).getD i ϰ=(f i).2:=by simp[gDe,h]
   rw[N,O];exact⟨z,C,A,B,E,λj V=>by have:=F j V;have:=T i h;omega⟩
theorem Ad8:Tryz.prog.cellsOf 36=3:=ϧ
theorem FA{α:Type}{l:List α}{d y:α}(h:y∈l):∃j,j<l.length/\l.getD j d=y:=by
 obtain⟨j,a,rfl⟩:=getElem_of_mem h;exact⟨j,a,by rw[gDe,gEe a];rfl⟩
theorem Yy{o p r:Value}{y0 g h:DataW H×List MemPlace}{v z A:Nat}(h0:DataW.trod enc Tryz.prog w base spare held v 3 [o]=some y0)(h1:DataW.trod enc Tryz.prog w base spare held z 33 [p]=some g)(s:DataW.trod enc Tryz.prog w base spare held A 34 [r]=some h):
 ∃(b:Buf) (x:BX),o= .int .i64 b.lim/\p=hdV x.m.1/\r= .slice x.ra x.rs.length x.rc/\bufAt w b x/\(Ab b).length<=Rows.uptoBulk g.1+Rows.uptoBulk h.1/\∀y∈Ab b,wfE y/\wfP (AK y)/\y.key.size<=Rows.uptoBulk g.1+Rows.uptoBulk h.1/\y.row.length<=Rows.uptoBulk g.1+Rows.uptoBulk h.1:=by
 obtain⟨u,e0,_,_⟩:=DataW.trod_int underlying3 h0;simp only[List.cons.injEq,and_true]at e0;subst e0;obtain⟨q,l,rfl,B,C,D,E,m,O,F⟩:=PV h1;obtain⟨G,I,J,K,rfl,L,n,M,P,f⟩:=Yx s;refine⟨⟨u,l,K⟩,⟨G,I,q,J⟩,rfl,rfl,rfl,⟨L,λt e=>?_,λt e=>?_,M,⟨D,λi a=>(m i a).er⟩,n,λi a=>⟨(f i a).2.2.2.1,λj c=>((f i a).2.2.2.2.1 j c).er⟩⟩,?_,λy hy=>?_⟩
 ·rcases mem_cons.1 e with rfl|e
  ·exact⟨B,E⟩
  ·obtain⟨i,a,rfl⟩:=FA (d:=ϰ) e;have:=f i (by rw[<-n];exact a);exact⟨this.1,this.2.1⟩
 ·rcases mem_cons.1 e with rfl|e
  ·exact C
  ·obtain⟨i,a,rfl⟩:=FA (d:=ϰ) e;exact(f i (by rw[<-n];exact a)).2.2.1
 ·rw[DO,lAp];dsimp only;omega
 ·rw[DO]at hy;dsimp only at hy;rcases mem_append.1 hy with hy|hy
  ·obtain⟨j,c,rfl⟩:=FA (d:=ϰ) hy;have k:=F j c;exact⟨(m j c).wf,(m j c).wp,Ϥ,Ϥ⟩
  ·obtain⟨t,e,hy⟩:=mem_flatten.1 hy;obtain⟨i,a,rfl⟩:=FA (d:=ϰ) e;obtain⟨j,c,rfl⟩:=FA (d:=ϰ) hy;have k:=f i a;have N:=k.2.2.2.2.2 j c;exact⟨(k.2.2.2.2.1 j c).wf,(k.2.2.2.2.1 j c).wp,Ϥ,Ϥ⟩
end
end bf
namespace jn
open vl bf
theorem Ad9:Tryz.prog.cellsOf 38=9:=ϧ
theorem AdA:Tryz.prog.cellsOf 33=1:=ϧ
theorem AdB:Tryz.prog.cellsOf 34=1:=ϧ
section
variable {H : Type} {enc : TypeId × Value -> H} {w : Ϡ} {base : Nat} {spare : Nat -> Bool} {held : Bool}
theorem N0{c d e:Value}{y:DataW H×List MemPlace}{n:Nat}(h:DataW.trod enc Tryz.prog w base spare held n 36 [c,d,e]=some y):
 ∃(b:Buf) (x:BX),c= .int .i64 b.lim/\d=hdV x.m.1/\e= .slice x.ra x.rs.length x.rc/\bufAt w b x/\(Ab b).length<=Rows.uptoBulk y.1/\∀z∈Ab b,wfE z/\wfP (AK z)/\z.key.size<=Rows.uptoBulk y.1/\z.row.length<=Rows.uptoBulk y.1:=by
 obtain⟨o,m,_,hy,_,k,a⟩:=DataW.trod_struct underlying36 h
 match o,k with
 |[y0,y1,y2],_=>
  have f:=a 0 _ rfl;have g:=a 1 _ rfl;have i:=a 2 _ rfl;simp[CR]at f;simp[AdA]at g;simp[AdB]at i;have p:Rows.uptoBulk y.1=Rows.uptoBulk y0.1+(Rows.uptoBulk y1.1+Rows.uptoBulk y2.1)+1:=by
   rw[hy];simp only[map_cons,map_nil,Rows.uptoBulk,Rows.uptoBulkAll];omega
  obtain⟨b,x,rfl,rfl,rfl,j,q,l⟩:=Yy f g i;exact⟨b,x,rfl,rfl,rfl,j,Ϥ,λz h=>by have:=l z h;exact⟨this.1,this.2.1,Ϥ,Ϥ⟩⟩
end
end jn
end Go.Proofs.YtfkihidbnfkbaaaGreatDoor
