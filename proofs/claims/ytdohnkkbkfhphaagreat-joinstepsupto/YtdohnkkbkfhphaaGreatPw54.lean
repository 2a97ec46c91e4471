import Derived.Test.YtdohnkkbkfhphaaGreatPw53
import Derived.Test.YtdohnkkbkfhphaaGreatPw51
set_option linter.all false
set_option maxHeartbeats 8000000
set_option maxRecDepth 100000
open Go.ChangeShapes Go.WideShapes Go.ChangeAt Go.RowKit Go.Joins Go.Deep List
open Inhabited renaming default->ϰ
namespace Go.Proofs.YtdohnkkbkfhphaaGreat
open Go.Proofs.Tryz
namespace bf
open vl
theorem YO:Tryz.prog.cellsOf 63=5:=Ϣ
theorem JG:Tryz.prog.cellsOf 41=1:=Ϣ
theorem AaP:Tryz.prog.cellsOf 4=1:=Ϣ
theorem Vl:Tryz.prog.cellsOf 9=1:=Ϣ
section
variable {H : Type} {enc : TypeId × Value -> H} {w : ϛ} {base : Nat} {spare : Nat -> Bool} {held : Bool}
theorem YP{v:Value}{y:DataW H×List MemPlace}{fuel:Nat}(h:DataW.trod enc Tryz.prog w base spare held fuel 41 [v]=some y):
 ∃a e f r,v= .slice a e f/\List.length (α:=Cel) r=e/\vl.rowAt w a r/\Cj r/\e<=9223372036854775807:=by
 rcases open_slice underlying41 h with⟨b,_⟩|⟨x,l,c,m,n,D,o,b,_⟩
 ·simp at b;subst b;obtain⟨r,g,i,j,k⟩:=open_row (a:=none) (len:=0) (cap:=0) (d:=y.1) (p:=y.2) ⟨fuel,h⟩;exact⟨_,_,_,r,rfl,g,i,j,k⟩
 ·simp at b;subst b;obtain⟨r,g,i,j,k⟩:=open_row (a:=some x) (len:=l) (cap:=c) (d:=y.1) (p:=y.2) ⟨fuel,h⟩;exact⟨_,_,_,r,rfl,g,i,j,k⟩
structure inE(w:World)(e:EM)(x:Ent):Prop where
 er:ER w e x
 wf:wfE x
 wp:wfP (Az x)
theorem M6{x:Addr}{cs:List Value}{y:DataW H×List MemPlace}{fuel:Nat}(F:w.cells? base x 5=some cs)(ht:DataW.trod enc Tryz.prog w base spare held fuel 63 cs=some y):
 ∃(b a:Nat) (c:EM×Ent),x=⟨b,a,none⟩/\Δ w b a (.string c.1.key)/\Δ w b (a+1) (.int .i64 c.1.time)/\Δ w b (a+2) (.int .i64 c.1.seq)/\Δ w b (a+3) (hdV c.1.row)/\Δ w b (a+4) (.bool c.1.met)/\inE w c.1 c.2:=by
 obtain⟨_,I,d⟩:=World.cells?_some F;obtain⟨T,n,_,_,_,N,e⟩:=DataW.trod_struct underlying63 ht
 match T,N with
 |[y0,y1,y2,y3,y4],_=>
  have k:=e 0 _ rfl;have l:=e 1 _ rfl;have m:=e 2 _ rfl;have o:=e 3 _ rfl;have p:=e 4 _ rfl
  match cs,I with
  |[a0,a1,a2,a3,a4],_=>
   simp[Vl]at k;simp[Cw]at l m;simp[JG]at o;simp[AaP]at p;obtain⟨v,f,_,z⟩:=DataW.trod_string underlying9 k;obtain⟨s,g,_,R⟩:=DataW.trod_int underlying3 l;obtain⟨u,h,_,S⟩:=DataW.trod_int underlying3 m;obtain⟨O,U,P,r,A,G,K,M,J⟩:=YP o;obtain⟨q,i,_⟩:=DataW.trod_bool underlying4 p;simp only[List.cons.injEq,and_true]at f g h i;subst f g h A i G;obtain⟨b,a,Q⟩:=x;have j:=d 0 ϟ;have B:=d 1 ϟ;have C:=d 2 ϟ;have D:=d 3 ϟ;have E:=d 4 ϟ;have L:Q=none:=by simpa[Addr.add]using World.cell?_spot j
   subst L;refine⟨b,a,(⟨v,s,u,(O,r.length,P),q⟩,⟨v,s,u,r,q⟩),rfl,?_,?_,?_,?_,?_,⟨⟨rfl,rfl,rfl,rfl,rfl,K⟩,⟨z,M,J⟩,?_⟩⟩
   ·simpa[Addr.add]using j
   ·simpa[Addr.add]using B
   ·simpa[Addr.add]using C
   ·simpa[Addr.add,hdV]using D
   ·simpa[Addr.add]using E
   ·exact⟨z,bounds_i64 R,bounds_i64 S⟩
theorem WG{v:Value}{y:DataW H×List MemPlace}{fuel:Nat}(N:DataW.trod enc Tryz.prog w base spare held fuel 26 [v]=some y):
 ∃(a:Ϝ) (cap:Nat) (es:List EM) (l:List Ent),v= .slice a es.length cap/\BG w a es/\es.length=l.length/\es.length<=χ/\∀i,i<l.length->inE w (es.getD i ϰ) (l.getD i ϰ):=by
 rcases open_slice underlying26 N with⟨k,_⟩|⟨x,d,cap,m,n,D,S,k,_,W,O,P,_,B⟩
 ·simp at k;subst k;exact⟨none,0,[],[],rfl,λi h=>absurd h (Nat.not_lt_zero i),rfl,ϡ,λi h=>absurd h (Nat.not_lt_zero i)⟩
 ·simp at k;subst k;have X:d<=m:=by rw[P];split<;>omega
  rw[YO]at B;obtain⟨f,E⟩:=choose_lt (α:=EM×Ent) (n:=d) (p:=λi c=> ∃b g,x=⟨b,g,none⟩/\Δ w b (g+i * 5) (.string c.1.key)/\Δ w b (g+i * 5+1) (.int .i64 c.1.time)/\Δ w b (g+i * 5+2) (.int .i64 c.1.seq)/\Δ w b (g+i * 5+3) (hdV c.1.row)/\Δ w b (g+i * 5+4) (.bool c.1.met)/\inE w c.1 c.2) (λi h=>by
   obtain⟨U,L,M⟩:=B i ϟ;obtain⟨b,g,c,e,r,s,u,z,A,C⟩:=M6 L M;obtain⟨V,Q,R⟩:=B 0 ϟ;obtain⟨q,o,T,F,_⟩:=M6 Q R;have K:x=⟨q,o,none⟩:=by simpa[Addr.add]using F
   subst K;have J:(⟨q,o,none⟩:Addr).add (i * 5)=⟨q,o+i * 5,none⟩:=by unfold Addr.add;split<;>simp_all
   rw[J]at e
   cases e
   exact⟨c,b,o,rfl,r,s,u,z,A,C⟩)
  refine⟨some x,cap,(List.range d).map λi=>(f i).1,(List.range d).map λi=>(f i).2,ϡ,?_,ϡ,by unfold maxLen at O;simp;omega,?_⟩
  ·intro i h;have j:i<d:=by simpa using h
   obtain⟨b,g,rfl,r,s,u,z,A,_⟩:=E i j;have e:((List.range d).map λi=>(f i).1).getD i ϰ=(f i).1:=by simp[gDe,j]
   rw[e];exact⟨b,g,rfl,r,s,u,z,A⟩
  ·intro i h;have j:i<d:=by simpa using h
   obtain⟨_,_,_,_,_,_,_,_,C⟩:=E i j;have G:((List.range d).map λi=>(f i).1).getD i ϰ=(f i).1:=by simp[gDe,j]
   have I:((List.range d).map λi=>(f i).2).getD i ϰ=(f i).2:=by simp[gDe,j]
   rw[G,I];exact C
end
section
variable {H : Type} {enc : TypeId × Value -> H} {w : ϛ} {base : Nat} {spare : Nat -> Bool} {held : Bool}
end
theorem Ac4{H:Type}(d:DataW H):1<=Rows.uptoBulk d:=by
 cases d with
 |lit l=>cases l<;>simp[Rows.uptoBulk]
 |_=>simp[Rows.uptoBulk]
theorem Tv{H:Type}{d:DataW H}:∀{l:List (DataW H)},d∈l->Rows.uptoBulk d<=Rows.uptoBulkAll l
 |[],h=>by cases h
 |x::r,h=>by
  rw[Rows.uptoBulkAll];rcases mem_cons.1 h with e|e
  ·subst e;omega
  ·have:=Tv e;omega
theorem YQ{H:Type}(r:List (DataW H)):∀l:List (DataW H),Rows.uptoBulkAll (l++r)=Rows.uptoBulkAll l+Rows.uptoBulkAll r
 |[]=>by simp[Rows.uptoBulkAll]
 |x::l=>by
  rw[cons_append,Rows.uptoBulkAll,Rows.uptoBulkAll,YQ r l];omega
theorem YR{H:Type}:∀l:List (DataW H),l.length<=Rows.uptoBulkAll l
 |[]=>by simp
 |x::r=>by
  have a:=Ac4 x;have b:=YR r;rw[Rows.uptoBulkAll,length_cons];omega
theorem Vm{H:Type}(g:Nat->List Ent)(D:Nat->DataW H):∀n,(∀i,i<n->(g i).length<=Rows.uptoBulk (D i))->((List.range n).map g).flatten.length<=Rows.uptoBulkAll ((List.range n).map D)
 |0,_=>by simp
 |n+1,h=>by
  have a:=Vm g D n (λi c=>h i ϟ);have b:=h n (Nat.lt_succ_self n);rw[range_succ,map_append,map_append,YQ,flatten_append,lAp];simp only[map_cons,map_nil,flatten_cons,flatten_nil,append_nil,Rows.uptoBulkAll];omega
section
variable {H : Type} {enc : TypeId × Value -> H} {w : ϛ} {base : Nat} {spare : Nat -> Bool} {held : Bool}
theorem Rc{t e:TypeId}{a:Ϝ}{len cap:Nat}{y:DataW H×List MemPlace}{fuel:Nat}(d:Tryz.prog.underlying t=some (.slice e))(h:DataW.trod enc Tryz.prog w base spare held fuel t [.slice a len cap]=some y):len<=Rows.uptoBulk y.1:=by
 rcases open_slice d h with⟨b,_⟩|⟨x,l,c,m,n,D,g,b,_,_,_,_,f,_⟩
 ·simp at b;omega
 ·simp at b;obtain⟨_,rfl,_⟩:=b;rw[f];have:=YR ((List.range len).map D);simp only[Rows.uptoBulk];simp at this;omega
theorem Tw{b c:Nat}{cs:List Value}{y:DataW H×List MemPlace}{fuel:Nat}{k:ByteArray}{a:Ϝ}{len cap:Nat}(o:w.cells? base ⟨b,c,none⟩ 5=some cs)(ht:DataW.trod enc Tryz.prog w base spare held fuel 63 cs=some y)(p:Δ w b c (.string k))(r:Δ w b (c+3) (.slice a len cap)):k.size<=Rows.uptoBulk y.1/\len<=Rows.uptoBulk y.1:=by
 obtain⟨_,q,j⟩:=World.cells?_some o;obtain⟨v,n,_,u,_,s,l⟩:=DataW.trod_struct underlying63 ht
 match v,s with
 |[y0,y1,y2,y3,y4],_=>
  have h:=l 0 _ rfl;have i:=l 3 _ rfl
  match cs,q with
  |[a0,a1,a2,a3,a4],_=>
   simp[Vl]at h;simp[JG]at i;have f:=j 0 ϟ;have g:=j 3 ϟ;simp[Addr.add,p]at f;simp[Addr.add,r]at g;subst f g;obtain⟨A,d,m,_⟩:=DataW.trod_string underlying9 h;simp only[List.cons.injEq,and_true,Value.string.injEq]at d;subst d;have x:Rows.uptoBulk y0.1=k.data.toList.length+1:=by rw[m];simp[Rows.uptoBulk]
   have z:=Rc underlying41 i;have e:k.data.toList.length=k.size:=by rw[Array.length_toList];rfl
   rw[u];simp only[map_cons,map_nil,Rows.uptoBulk,Rows.uptoBulkAll];omega
theorem OI{v:Value}{y:DataW H×List MemPlace}{fuel:Nat}(g:DataW.trod enc Tryz.prog w base spare held fuel 26 [v]=some y):
 ∃(q:Part) (l:List Ent),v=hdV q.1/\q.1.2.1=q.2.length/\BG w q.1.1 q.2/\q.2.length=l.length/\q.2.length<=χ/\(∀i,i<l.length->inE w (q.2.getD i ϰ) (l.getD i ϰ))/\l.length<=Rows.uptoBulk y.1/\∀i,i<l.length->(l.getD i ϰ).key.size<=Rows.uptoBulk y.1/\(l.getD i ϰ).row.length<=Rows.uptoBulk y.1:=by
 obtain⟨a,A,o,l,L,r,e,K,u⟩:=WG g;subst L;refine⟨((a,o.length,A),o),l,rfl,rfl,r,e,K,u,?_,λi G=>?_⟩
 ·rw[<-e];exact Rc underlying26 g
 ·rcases open_slice underlying26 g with⟨d,_⟩|⟨x,h,c,m,n,D,P,d,_,V,Y,J,O,M⟩
  ·simp at d;obtain⟨_,E,_⟩:=d;rw[E]at e;simp at e;omega
  ·simp at d;obtain⟨N,X,_⟩:=d;have W:h<=m:=by rw[J];split<;>omega
   have I:i<h:=ϟ;obtain⟨Q,f,F⟩:=M i ϟ;rw[YO]at f;obtain⟨b,z,j,C,R,S,p,T⟩:=r i ϟ;rw[N]at j
   cases j
   have B:(⟨b,z,none⟩:Addr).add (i * 5)=⟨b,z+i * 5,none⟩:=Ch _ _ _;rw[B]at f;have s:=(u i G).er;unfold hdV at p;have k:=Tw f F C p;have U:Rows.uptoBulk (D i)<=Rows.uptoBulk y.1:=by
    rw[O];have:=Tv (l:=(List.range h).map D) (mem_map.2 ⟨i,mem_range.2 I,rfl⟩);simp only[Rows.uptoBulk];omega
   rw[s.key,s.len]at k;dsimp only at k;omega
theorem AaQ:Tryz.prog.cellsOf 26=1:=Ϣ
theorem WH{v:Value}{y:DataW H×List MemPlace}{fuel:Nat}(W:DataW.trod enc Tryz.prog w base spare held fuel 27 [v]=some y):
 ∃(M:Ϝ) (rc:Nat) (rs:List Part) (g:List (List Ent)),v= .slice M rs.length rc/\F8 w M (rs.map (·.1))/\rs.length=g.length/\rs.length<=χ/\g.flatten.length<=Rows.uptoBulk y.1/\
  ∀i,i<g.length->(rs.getD i ϰ).1.2.1=(rs.getD i ϰ).2.length/\(rs.getD i ϰ).2.length<=χ/\BG w (rs.getD i ϰ).1.1 (rs.getD i ϰ).2/\(rs.getD i ϰ).2.length=(g.getD i ϰ).length/\(∀j,j<(g.getD i ϰ).length->inE w ((rs.getD i ϰ).2.getD j ϰ) ((g.getD i ϰ).getD j ϰ))/\∀j,j<(g.getD i ϰ).length->((g.getD i ϰ).getD j ϰ).key.size<=Rows.uptoBulk y.1/\((g.getD i ϰ).getD j ϰ).row.length<=Rows.uptoBulk y.1:=by
 rcases open_slice underlying27 W with⟨r,_⟩|⟨x,d,c,m,n,D,Pl,r,_,hl,hm,aa,K,z⟩
 ·simp at r;subst r;exact⟨none,0,[],[],rfl,λi a=>absurd a (Nat.not_lt_zero i),rfl,ϡ,ϡ,λi a=>absurd a (Nat.not_lt_zero i)⟩
 ·simp at r;subst r;have ad:d<=m:=by rw[aa];split<;>omega
  rw[AaQ]at z;obtain⟨f,s⟩:=choose_lt (α:=Part×List Ent) (n:=d) (p:=λi q=> ∃b k,x=⟨b,k,none⟩/\Δ w b (k+i) (hdV q.1.1)/\q.1.1.2.1=q.1.2.length/\BG w q.1.1.1 q.1.2/\q.1.2.length=q.2.length/\q.1.2.length<=χ/\(∀j,j<q.2.length->inE w (q.1.2.getD j ϰ) (q.2.getD j ϰ))/\q.2.length<=Rows.uptoBulk (D i)/\∀j,j<q.2.length->(q.2.getD j ϰ).key.size<=Rows.uptoBulk (D i)/\(q.2.getD j ϰ).row.length<=Rows.uptoBulk (D i)) (λi a=>by
   obtain⟨O,J,S⟩:=z i ϟ;obtain⟨_,Z,T⟩:=World.cells?_some J
   match O,Z with
   |[u],_=>
    obtain⟨q,l,hv,A,B,C,E,F,L,G⟩:=OI S;have o:=T 0 ϟ;obtain⟨b,k,N⟩:=x;obtain⟨I,z1,_⟩:=z 0 ϟ;obtain⟨_,Y,U⟩:=World.cells?_some z1;obtain⟨u0,ac⟩:∃u0,I=[u0]:=by
     match I,Y with
     |[u0],_=>exact⟨u0,rfl⟩
    subst ac;have R:w.cell? ((Addr.mk b k N).add (0 * 1)|>.add 0)=some u0:=U 0 ϟ;have ab:N=none:=by simpa[Addr.add]using World.cell?_spot R
    subst ab;rw[Nat.mul_one,Ch]at o;rw[Ch]at o;simp at o;subst hv;exact⟨(q,l),b,k,rfl,o,A,B,C,E,F,L,G⟩)
  have V:∀i,i<d->Rows.uptoBulk (D i)<=Rows.uptoBulk y.1:=λi a=>by
   rw[K];have:=Tv (l:=(List.range d).map D) (mem_map.2 ⟨i,mem_range.2 a,rfl⟩);simp only[Rows.uptoBulk];omega
  refine⟨some x,c,(List.range d).map λi=>(f i).1,(List.range d).map λi=>(f i).2,ϡ,λi a=>?_,ϡ,by unfold maxLen at hm;simp;omega,?_,λi a=>?_⟩
  ·have h:i<d:=by simpa using a
   obtain⟨b,k,rfl,o,_⟩:=s i h;refine⟨b,k,rfl,?_⟩;have e:(((List.range d).map λi=>(f i).1).map (·.1)).getD i (none,0,0)=(f i).1.1:=by simp[gDe,h]
   rw[e];exact o
  ·have J:=Vm (λi=>(f i).2) D d (λi a=>(s i a).choose_spec.choose_spec.2.2.2.2.2.2.2.1);rw[K];simp only[Rows.uptoBulk];omega
  ·have h:i<d:=by simpa using a
   obtain⟨_,_,_,_,A,B,C,E,F,L,G⟩:=s i h;have P:((List.range d).map λi=>(f i).1).getD i ϰ=(f i).1:=by simp[gDe,h]
   have Q:((List.range d).map λi=>(f i).2).getD i ϰ=(f i).2:=by simp[gDe,h]
   rw[P,Q];exact⟨A,E,B,C,F,λj X=>by have:=G j X;have:=V i h;omega⟩
theorem AaR:Tryz.prog.cellsOf 29=3:=Ϣ
theorem EV{α:Type}{l:List α}{d y:α}(h:y∈l):∃j,j<l.length/\l.getD j d=y:=by
 obtain⟨j,a,rfl⟩:=getElem_of_mem h;exact⟨j,a,by rw[gDe,gEe a];rfl⟩
theorem WI{p r s:Value}{y0 h m:DataW H×List MemPlace}{A B C:Nat}(h0:DataW.trod enc Tryz.prog w base spare held A 3 [p]=some y0)(h1:DataW.trod enc Tryz.prog w base spare held B 26 [r]=some h)(v:DataW.trod enc Tryz.prog w base spare held C 27 [s]=some m):
 ∃(b:Buf) (x:BX),p= .int .i64 b.lim/\r=hdV x.m.1/\s= .slice x.ra x.rs.length x.rc/\bufAt w b x/\(Aa b).length<=Rows.uptoBulk h.1+Rows.uptoBulk m.1/\∀y∈Aa b,wfE y/\wfP (Az y)/\y.key.size<=Rows.uptoBulk h.1+Rows.uptoBulk m.1/\y.row.length<=Rows.uptoBulk h.1+Rows.uptoBulk m.1:=by
 obtain⟨z,u,_,_⟩:=DataW.trod_int underlying3 h0;simp only[List.cons.injEq,and_true]at u;subst u;obtain⟨q,l,rfl,D,E,F,G,n,Q,I⟩:=OI h1;obtain⟨J,K,L,M,rfl,N,o,O,R,g⟩:=WH v;refine⟨⟨z,l,M⟩,⟨J,K,q,L⟩,rfl,rfl,rfl,⟨N,λt e=>?_,λt e=>?_,O,⟨F,λi a=>(n i a).er⟩,o,λi a=>⟨(g i a).2.2.2.1,λj c=>((g i a).2.2.2.2.1 j c).er⟩⟩,?_,λy f=>?_⟩
 ·rcases mem_cons.1 e with rfl|e
  ·exact⟨D,G⟩
  ·obtain⟨i,a,rfl⟩:=EV (d:=ϰ) e;have:=g i (by rw[<-o];exact a);exact⟨this.1,this.2.1⟩
 ·rcases mem_cons.1 e with rfl|e
  ·exact E
  ·obtain⟨i,a,rfl⟩:=EV (d:=ϰ) e;exact(g i (by rw[<-o];exact a)).2.2.1
 ·rw[C3,lAp];dsimp only;omega
 ·rw[C3]at f;dsimp only at f;rcases mem_append.1 f with f|f
  ·obtain⟨j,c,rfl⟩:=EV (d:=ϰ) f;have k:=I j c;exact⟨(n j c).wf,(n j c).wp,ϟ,ϟ⟩
  ·obtain⟨t,e,f⟩:=mem_flatten.1 f;obtain⟨i,a,rfl⟩:=EV (d:=ϰ) e;obtain⟨j,c,rfl⟩:=EV (d:=ϰ) f;have k:=g i a;have P:=k.2.2.2.2.2 j c;exact⟨(k.2.2.2.2.1 j c).wf,(k.2.2.2.2.1 j c).wp,ϟ,ϟ⟩
end
end bf
namespace jn
open vl bf
variable {cs : Array Value}
theorem AaS:Tryz.prog.cellsOf 31=9:=Ϣ
theorem AaT:Tryz.prog.cellsOf 26=1:=Ϣ
theorem AaU:Tryz.prog.cellsOf 27=1:=Ϣ
theorem Ac5(h:cs.size=9):∃a b c d e f g h i,cs=#[a,b,c,d,e,f,g,h,i]:=by
 obtain⟨l⟩:=cs
 match l,h with
 |[a,b,c,d,e,f,g,h,i],_=>exact⟨a,b,c,d,e,f,g,h,i,rfl⟩
section
variable {H : Type} {enc : TypeId × Value -> H} {w : ϛ} {base : Nat} {spare : Nat -> Bool} {held : Bool}
theorem M7{c d e:Value}{y:DataW H×List MemPlace}{n:Nat}(h:DataW.trod enc Tryz.prog w base spare held n 29 [c,d,e]=some y):
 ∃(b:Buf) (x:BX),c= .int .i64 b.lim/\d=hdV x.m.1/\e= .slice x.ra x.rs.length x.rc/\bufAt w b x/\(Aa b).length<=Rows.uptoBulk y.1/\∀z∈Aa b,wfE z/\wfP (Az z)/\z.key.size<=Rows.uptoBulk y.1/\z.row.length<=Rows.uptoBulk y.1:=by
 obtain⟨p,m,_,l,_,k,a⟩:=DataW.trod_struct underlying29 h
 match p,k with
 |[y0,y1,y2],_=>
  have f:=a 0 _ rfl;have g:=a 1 _ rfl;have i:=a 2 _ rfl;simp[Cw]at f;simp[AaT]at g;simp[AaU]at i;have q:Rows.uptoBulk y.1=Rows.uptoBulk y0.1+(Rows.uptoBulk y1.1+Rows.uptoBulk y2.1)+1:=by
   rw[l];simp only[map_cons,map_nil,Rows.uptoBulk,Rows.uptoBulkAll];omega
  obtain⟨b,x,rfl,rfl,rfl,j,r,o⟩:=WI f g i;exact⟨b,x,rfl,rfl,rfl,j,ϟ,λz h=>by have:=o z h;exact⟨this.1,this.2.1,ϟ,ϟ⟩⟩
theorem WJ{r:Reach}{o:Nat}{v:Value}{d:DataW H}{p:List MemPlace}(D:Value.okWide Tryz.prog w r o 31 v)(h:DataW.Trod enc Tryz.prog w base spare held 31 v d p):
 ∃(s:Jn) (x:JX),v=joinV s x/\joinAt w s x/\((Aa s.L).length<=Rows.uptoBulk d/\(Aa s.R).length<=Rows.uptoBulk d)/\(∀z∈Aa s.L++Aa s.R,wfE z/\wfP (Az z)/\z.key.size<=Rows.uptoBulk d/\z.row.length<=Rows.uptoBulk d)/\pl.i64 s.lm/\pl.i64 s.rm/\pl.i64 s.seq:=by
 obtain⟨cs,rfl,C⟩:=okWide_struct underlying31 D;obtain⟨Q,R,S,T,U,V,W,X,Y,rfl⟩:=Ac5 (C.trans AaS);obtain⟨fuel,A⟩:=h;obtain⟨P,n,_,m,_,B,a⟩:=DataW.trod_struct underlying31 A
 match P,B with
 |[y0,y1,y2,y3,y4],_=>
  have g:=a 0 _ rfl;have i:=a 1 _ rfl;have j:=a 2 _ rfl;have k:=a 3 _ rfl;have l:=a 4 _ rfl;simp[Value.cells,AaR]at g i;simp[Value.cells,Cw]at j k l;simp only[Prod.mk.injEq]at m;have Z:Rows.uptoBulk d=Rows.uptoBulk y0.1+(Rows.uptoBulk y1.1+(Rows.uptoBulk y2.1+(Rows.uptoBulk y3.1+Rows.uptoBulk y4.1)))+1:=by
   rw[m.1];simp only[map_cons,map_nil,Rows.uptoBulk,Rows.uptoBulkAll];omega
  obtain⟨bl,N,rfl,rfl,rfl,u,aa,E⟩:=M7 g;obtain⟨q,O,rfl,rfl,rfl,y,ab,F⟩:=M7 i;obtain⟨G,c,_,K⟩:=DataW.trod_int underlying3 j;obtain⟨I,e,_,L⟩:=DataW.trod_int underlying3 k;obtain⟨J,f,_,M⟩:=DataW.trod_int underlying3 l;simp only[List.cons.injEq,and_true]at c e f;subst c e f;refine⟨⟨bl,q,G,I,J⟩,⟨N,O⟩,rfl,⟨u,y⟩,⟨ϥ,ϥ⟩,λz b=>?_,bounds_i64 K,bounds_i64 L,bounds_i64 M⟩;rcases mem_append.1 b with b|b
  ·have:=E z b;exact⟨this.1,this.2.1,ϟ,ϟ⟩
  ·have:=F z b;exact⟨this.1,this.2.1,ϟ,ϟ⟩
end
theorem array4(h:cs.size=4):∃a b c d,cs=#[a,b,c,d]:=by
 obtain⟨l⟩:=cs
 match l,h with
 |[a,b,c,d],_=>exact⟨a,b,c,d,rfl⟩
section
variable {H : Type} {enc : TypeId × Value -> H} {w : ϛ} {base : Nat} {spare : Nat -> Bool} {held : Bool}
theorem Tx{r:Reach}{m:Nat}{v:Value}{d:DataW H}{p:List MemPlace}(z:Value.okWide Tryz.prog w r m 43 v)(h:DataW.Trod enc Tryz.prog w base spare held 43 v d p):
 ∃(e:Ev) (a:Ϝ) (c:Nat),v=evV e a c/\evAt w e a:=by
 obtain⟨cs,rfl,y⟩:=okWide_struct underlying43 z;obtain⟨E,F,G,I,rfl⟩:=array4 (y.trans VZ);obtain⟨fuel,q⟩:=h;obtain⟨N,O,P,Q,n,_,_,j,k,l,b⟩:=trod_struct4 underlying43 q;simp[Value.cells]at j k l b;obtain⟨B,f,_,K⟩:=DataW.trod_int underlying3 j;simp[Cw]at f;subst f;obtain⟨C,g,_,L⟩:=DataW.trod_int underlying3 k;simp[Cw]at g;subst g;obtain⟨D,i,_,M⟩:=DataW.trod_int underlying3 l;simp[Cw]at i;subst i;simp[JG,Cw]at b;obtain⟨a,J,c,rw,o,s,x,A,u⟩:=Wa b;subst o s;exact⟨⟨B,C,D,rw⟩,a,c,rfl,x,A,u⟩
end
end jn
namespace jn
open vl bf
attribute [local go_sem] Oper.semAt_some
variable {w : ϛ} {t : Value}
theorem Vn{base:Nat}{M:List CO}{b:List ch.Chg}(f:M.map CO.chg=b)(h:CG w base t M):∃a c,t=vS a b.length c/\ch.BZ w a b:=by
 obtain⟨d,e⟩:=h.chgs;rw[f]at e;have:M.length=b.length:=by rw[<-f,lMp]
 rw[this]at d;exact⟨_,_,d,e⟩
theorem stepAt.at{W:ϛ}{s:Jn}{y:JX}{L:List CO}(h:stepAt w W s y t L):joinAt W s y:=⟨h.l.at,h.r.at⟩
theorem Ty(p:pl.Pln)(x:pl.PA)(s:Jn)(y:JX)(v:Ev)(r:Ϝ)(E:Nat)(w:ϛ)(hw:pl.wfPlan p)(hp:pl.planAt w p x)(h:joinAt w s y)(O:wfJ s)(hE:∀z∈Aa s.L++Aa s.R,wfE z/\z.key.size<=140737488355328/\z.row.length<=2000000)(N:evAt w v r):
 η 4 #[pl.Ak p x,joinV s y,evV v r E] w (θ w (.bool true)):=by
 have D:=PL (p:=p) (s:=s) (v:=v) (λz l=>by
  rcases mem_append.1 l with l|l
  ·exact O.l.ents z l
  ·exact O.r.ents z l) ⟨N.wf,N.len⟩
 have ar:=Kh p s v;have A:ϝ (∀a,Ϟ w a->CT 16 #[pl.Ak p x,jn.joinV s y,.agg (Θ v r E)] a λe i=>(∃Q t L,e= .returned (.tuple #[.agg (Ψ (stepJ p s v).2.1 Q),t,vI (stepJ p s v).1])/\L.map CO.chg=(stepJ p s v).2.2/\stepAt a i (stepJ p s v).2.1 Q t L)/\Ϟ a i):=λa q=>Ri p x s y v r E a hw (pl.Aj hp q) (h.below q) O (N.below q);have u:ϝ (∀a,Ϟ w a->CT 17 #[pl.Ak p x,jn.joinV s y,.agg (Θ v r E)] a λe i=>(∃Q t L,e= .returned (.tuple #[.agg (Ψ (stepJ p s v).2.1 Q),t,vI (stepJ p s v).1])/\L.map CO.chg=(stepJ p s v).2.2/\stepAt a i (stepJ p s v).2.1 Q t L)/\Ϟ a i):=λa q=>OO p x s y v r E a hw (pl.Aj hp q) (h.below q) O hE (N.below q);obtain⟨ST,al⟩:=nM (stepJ p s v);rw[al]at A u D ar;obtain⟨SE,b,f⟩:=ST;dsimp only at A u D ar;have KJ:ϝ (∀(d g:JX) (a:ϛ),joinAt a b d->joinAt a b g->CT 13 #[jn.joinV b d,jn.joinV b g] a (θ a (.bool true))):=λd g a h1 h2=>Tm b d g a h1 h2 D.1;have KC:ϝ (∀(B C:Ϝ) (T U:Nat) (a:ϛ),ch.BZ a B f->ch.BZ a C f->CT 18 #[vS B f.length T,vS C f.length U] a (θ a (.bool true))):=λB C T U a h1 h2=>by
  have:=ch.Hs B C T U f f a h1 h2 D.2 D.2 ϟ ϟ;rw[decide_eq_true rfl]at this;exact this
 unfold pl.Ak;rw[A0];unfold evV;obtain⟨kd,sd,tv,aw⟩:=v;dsimp only at A u⊢;obtain⟨n,Z⟩:=nM aw.length;rw[Z]at A u;rw[Z];clear hw hp h O hE N al D;go_enter func4,ntmps4;go_upto_region 1 with fail;generalize J:(World.alloc (World.alloc (World.alloc w _) _) _)=V;have W:Ϟ w V:=by rw[<-J];exact(Ϫ.alloc ϡ _).alloc Ϥ _
 have HP:ϝ (boxP V w p x):=by
  subst J;exact Ad (Ad (BL ..) Ϫ) Ϫ
 have HJ:ϝ (AK V (w+1) s y):=by
  subst J;have:=AL (ξ w (Φ p x) 25) s y 31;rw[World.size_alloc]at this;exact Ah this Ϫ
 have HE:ϝ (Hv V (w+1+1) ⟨kd,sd,tv,aw⟩ r E):=by
  subst J;refine⟨?_,?_,?_,?_⟩<;>go_simp
 have HN:=hV0 Z;clear J Z;obtain⟨v0,v1,v2,v3,v4,v5,v6,v7,v8,v9,ad,ae,af⟩:=HP.o;obtain⟨u0,u1,u2,u3,u4,u5,u6,u7,u8⟩:=HJ.o;obtain⟨F,G,I,o⟩:=HE.o;dsimp only at F G I o;rw[HN.o]at o;go_upto_region 2 with(go_at_call 16;refine(A.o _ W).mono ?_;rintro e a ⟨⟨d,t1,R,rfl,aj,au⟩,ao⟩);clear v0 v1 v2 v3 v4 v5 v6 v7 v8 v9 ad ae af u0 u1 u2 u3 u4 u5 u6 u7 u8 F G I o A;have j:=AL a b d 31;have k:Ϟ a (ξ a (Ψ b d) 31):=Ϫ;obtain⟨X1,K⟩:=nM a.heap.size;rw[K]at j⊢;generalize (World.alloc a _)=w2 at j k⊢;clear K;have M:Ϟ V w2:=bT ao k;have S:Ϟ w w2:=bT W M;have ag:=hV0 j;have ab:ϝ (R.map CO.chg=f/\stepAt w w2 b d t1 R):=⟨aj,au.later W k⟩;clear j aj au ao k;obtain⟨v0,v1,v2,v3,v4,v5,v6,v7,v8,v9,ad,ae,af⟩:=Ad HP.o M;obtain⟨u0,u1,u2,u3,u4,u5,u6,u7,u8⟩:=Ah HJ.o M;obtain⟨F,G,I,o⟩:=De HE.o M;dsimp only at F G I o;rw[HN.o]at o;go_upto_region 3 with(go_at_call 17;refine(u.o _ S).mono ?_;rintro e P ⟨⟨g,t2,M2,rfl,ak,av⟩,ap⟩);clear v0 v1 v2 v3 v4 v5 v6 v7 v8 v9 ad ae af u0 u1 u2 u3 u4 u5 u6 u7 u8 F G I o u HP HJ HE;have j:=AL P b g 31;have k:Ϟ P (ξ P (Ψ b g) 31):=Ϫ;obtain⟨X2,K⟩:=nM P.heap.size;rw[K]at j⊢;generalize (World.alloc P _)=c at j k⊢;clear K;have X:Ϟ w2 c:=bT ap k;have ai:Ϟ w c:=bT S X;have aa:ϝ (AK c X1 b d/\AK c X2 b g):=⟨Ah ag.o X,j⟩;have m:ϝ ((R.map CO.chg=f/\stepAt w c b d t1 R)/\(M2.map CO.chg=f/\stepAt w c b g t2 M2)):=⟨⟨ab.o.1,ab.o.2.later bR X⟩,⟨ak,av.later S k⟩⟩;clear j ak av ap k X M W ag ab S;obtain⟨B,T,rfl,am⟩:=Vn m.o.1.1 m.o.1.2.cg;obtain⟨C,U,rfl,an⟩:=Vn m.o.2.1 m.o.2.2.cg;have HA:ϝ (ch.BZ c B f/\ch.BZ c C f):=⟨am,an⟩;have ah:ϝ (joinAt c b d/\joinAt c b g):=⟨m.o.1.2.at,m.o.2.2.at⟩;have ax:ϝ (∀i,Ϟ c i->AK i X1 b d/\AK i X2 b g):=λi l=>⟨Ah aa.o.1 l,Ah aa.o.2 l⟩;clear am an m aa;go_wp2_with (first
  |(go_at_call 12;refine(PG _).mono ?_;rintro e w5 ⟨rfl,Y⟩;obtain⟨⟨d0,d1,d2,d3,d4,d5,d6,d7,d8⟩,e0,e1,e2,e3,e4,e5,e6,e7,e8⟩:=ax.o _ Y)
  |(go_at_call 13;refine(KJ.o _ _ _ (ah.o.1.below Y) (ah.o.2.below Y)).mono ?_;rintro e w6 ⟨rfl,ay⟩;have ac:Ϟ c w6:=bT Y ay)
  |(go_at_call 18;refine(KC.o _ _ _ _ _ (ch.Ct HA.o.1 ac) (ch.Ct HA.o.2 ac)).mono ?_;rintro e w7 ⟨rfl,az⟩))
 have aq:Ϟ c w7:=bT ac az;refine bodyPost_ret (v:=.bool true) (by simp[results,results4,go_sem]) rfl ?_
 first|exact⟨rfl,bT ai aq⟩|exact bT ai aq
end jn
end Go.Proofs.YtdohnkkbkfhphaaGreat
