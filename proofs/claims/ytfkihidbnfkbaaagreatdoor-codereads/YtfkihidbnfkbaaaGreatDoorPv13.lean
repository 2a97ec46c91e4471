import Derived.Test.YtfkihidbnfkbaaaGreatDoorPv12
set_option linter.all false
set_option maxHeartbeats 8000000
set_option maxRecDepth 100000
open Inhabited renaming default->ϰ
open List renaming length->ϲ
namespace Go.Proofs.YtfkihidbnfkbaaaGreatDoor
open ChangeShapes WideShapes ChangeAt RowKit Maps WideMaps List
namespace ch
open vl
end ch
namespace bt
open vl
variable {w w' w2 : ϟ} {base : Nat}
structure Own1 where
 v:Value
 e:TypeId
 s:Nat
 n:Nat
 xs:List Value
def Own1.here(x:Own1)(w:World)(base:Nat):Prop:=w.ownsRow base x.e x.s x.v x.n x.xs
def apart(x y:Own1):Prop:=∀g,x.v.ownBlock=some g->y.v.ownBlock≠some g
def W7{x y:Own1}(h:apart x y):apart y x:=λg b d=>h g d b
structure Est(w:World)(base:Nat)(E:List Own1):Prop where
 low:base<=w.heap.size
 own:∀x∈E,x.here w base
 two:E.Pairwise apart
def Hz{E b:List Own1}(h:Est w base E)(d:E.Perm b):Est w base b:=
 ⟨h.low,λx e=>h.own x (d.mem_iff.2 e),d.pairwise h.two (λh=>W7 h)⟩
def H4{E:List Own1}(h:Est w base E)(b:Ϣ w w'):Est w' base E:=
 ⟨B0 h.low b.size,λx d=>ch.own_below (h.own x d) b,h.two⟩
def ZL{x x':Own1}{E:List Own1}(h:Est w base (x::E))(n:w.heap.size<=w2.heap.size)(m:∀b,b<w.heap.size->x.v.ownBlock≠some b->w2.heap[b]? =w.heap[b]?)(o:x'.here w2 base)
 (l:∀g,x'.v.ownBlock=some g->x.v.ownBlock=some g\/w.heap.size<=g):Est w2 base (x'::E):=by
 have f:=WF.1 h.two;refine⟨B0 h.low n,λy hy=>?_,WF.2 ⟨λy hy g d=>?_,f.2⟩⟩
 ·rcases E3.1 hy with rfl|hy
  ·exact o
  ·have j:=h.own y (EQ _ hy);exact ch.A4 j (λg d=>m g (ch.AL j d).2 (λe=>f.1 y hy g e d))
 ·rcases l g d with i|i
  ·exact f.1 y hy g i
  ·intro e;have:=(ch.AL (h.own y (EQ _ hy)) e).2;omega
def TW{x x':Own1}{E:List Own1}(h:Est w base (x::E))(d:w.grownBy w2 x.v.ownBlock)(l:x'.here w2 base)(f:∀g,x'.v.ownBlock=some g->x.v.ownBlock=some g\/w.heap.size<=g):Est w2 base (x'::E):=
 ZL h d.size (λb i j=>d.block b i (λe=>j e.symm)) l f
def Sf{x:Own1}{E:List Own1}(h:Est w base E)(d:Ϣ w w')(j:x.here w' base)(i:∀g,x.v.ownBlock=some g->w.heap.size<=g):Est w' base (x::E):=by
 have b:=H4 h d;refine⟨b.low,λy hy=>?_,WF.2 ⟨λy hy g f e=>?_,h.two⟩⟩
 ·rcases E3.1 hy with rfl|hy
  ·exact j
  ·exact b.own y hy
 ·have:=(ch.AL (h.own y hy) e).2;have:=i g f;omega
end bt
namespace pl
open vl
variable {c : List Int}
def Ac0{a:Int×Int}(h:a.1<=2):Fb c a=2:=AC ϣ
def ZM{a:Int×Int}(h:2<a.1)(b:a.1<=4):Fb c a=c.getD a.2.toNat 0:=AE ϣ
theorem ZN(p:Pln)(x:PA)(w:ϟ)(hw:wfPlan p)(hp:planAt w p x)(h0:Ag p=0):
 χ 64 #[Ai p x] w λe w'=>(∃N ak,e= .returned (vS N (ϲ (Cc p)) ak)/\Au w' N (Cc p))/\Ϣ w w':=by
 have W:=Bt h0;have hm:=Dm W.2.2.1;have E:=hIz (λ(w1:ϟ) (hb:Ϣ w w1)=>Gr p x w1 (Ae hp hb) ϣ ϣ ϣ ϣ);have ae:ϡ (∀j,j<ϲ p.group->0<=p.group.getD j 0/\p.group.getD j 0<(ϲ (A5 p):Int)):=Wm W.2.2.2.2;have ao:ϲ p.group<=8:=ϣ;have a3:ϲ p.aggs<=4:=ϣ;have a4:ϲ (A5 p)<=8:=by unfold A5;rw[lAp];omega
 have K:yes p.grouped (∀j,j<ϲ p.aggs->CR (A5 p) (p.aggs.getD j (0,0))/\(1<=(p.aggs.getD j (0,0)).1/\(p.aggs.getD j (0,0)).1<=4)):=λhg j hj=>⟨Wn W.2.2.2.2 j hj,W.1.2.2 hg _ (CS hj)⟩;have D:yes p.grouped (Cc p=p.group.map (λi=>(A5 p).getD i.toNat 0)++p.aggs.map (Fb (A5 p))):=λh=>AE h;have C:yes (!p.grouped) (Cc p=A5 p):=λh=>AC (by simpa using h);have az:ϡ (Au w x.g p.group):=hp.g;have ay:ϡ (DK w x.a p.aggs):=hp.a;obtain⟨d,a1⟩:=nM (A5 p);rw[a1]at E ae K D C a4;obtain⟨Z,a6⟩:=nM (Cc p);rw[a6]at D C⊢;clear a1 a6 hw hp W hm h0;obtain⟨on,ar⟩:=nM (ϲ Z);have ax:=hV0 ar;rw[ar];clear ar;obtain⟨br,bw,bv,bq,b0,bs,left,right,bi,bj,a0,s,q⟩:=p;obtain⟨l,lc,r,rc,lk,bu,rk,bx,g,gc,a,ac⟩:=x;unfold Ai at E⊢;dsimp only at E ae K D C az ay ao a3⊢;obtain⟨n6,h6⟩:∃n,ϲ left=n:=⟨_,rfl⟩;obtain⟨n7,h7⟩:∃n,ϲ right=n:=⟨_,rfl⟩;obtain⟨n8,h8⟩:∃n,ϲ bi=n:=⟨_,rfl⟩;obtain⟨n9,h9⟩:∃n,ϲ bj=n:=⟨_,rfl⟩;obtain⟨Y,F⟩:∃n,ϲ s=n:=⟨_,rfl⟩;obtain⟨J,Q⟩:∃n,ϲ q=n:=⟨_,rfl⟩;obtain⟨P,T⟩:∃n,ϲ d=n:=⟨_,rfl⟩;have aa:=hV0 F;have ah:=hV0 Q;have ab:=hV0 T;rw[h6,h7,h8,h9,F,Q,T]at E;rw[F,T]at ae;rw[Q]at K a3;rw[F]at ao;rw[T]at a4;rw[h6,h7,h8,h9,F,Q];clear h6 h7 h8 h9 F Q T;go_enter Tryz.func64,Tryz.ntmps64;go_wp2_with fail;refine(E.o _ Ϯ).mono ?_;rintro e w2 ⟨⟨N,ak,rfl,ho⟩,R⟩;have am:=Ϯ.trans (R.mono ϥ);have ai:ϡ (Au w2 N d):=(Eg ho).1;have bz:Δ w2 w 10 (.bool a0):=by rw[(Cx R).1 _ _ ϥ];go_simp
 have bk:Δ w2 w 11 (vS g Y gc):=by rw[(Cx R).1 _ _ ϥ];go_simp
 have bm:Δ w2 w 12 (vS a J ac):=by rw[(Cx R).1 _ _ ϥ];go_simp
 clear R ho E
 cases a0 with
 |false=>
  have M:ϡ (Z=d):=C rfl;have bb:ϡ (P=on):=by show P=on;rw[<-ax.o,M.o,ab.o]
  clear D C;go_wp2;go_ret;exact⟨⟨N,ak,by rw[<-bb.o];rfl,by rw[M.o];exact ai.o⟩,am⟩
 |true=>
  have M:ϡ (Z=s.map (λi=>d.getD i.toNat 0)++q.map (Fb d)):=D rfl;have ba:ϡ (∀j,j<J->CR d (q.getD j (0,0))/\(1<=(q.getD j (0,0)).1/\(q.getD j (0,0)).1<=4)):=K rfl;clear K D C;go_wp2
  go_loopw [4,5] (λv i wr=> ∃k:Nat,k<=Y/\i=vI k/\Cm wr w2.heap.size v ((s.take k).map (λi=>d.getD i.toNat 0))/\Ϣ w2 wr) (λ_ i _=>Y - (intOf i).toNat)
  case atStart=>exact⟨0,At _,rfl,KX _ _ _ _,bR⟩
  case round=>
   obtain⟨k,hk,rfl,a7,H⟩:=hrel;have L:=hV0 a7;have a9:=H.size;have be:=bT am H;have bn:=cLz H bk;clear a7;by_cases ap:k<Y
   ·obtain⟨b,o,e,xk⟩:=az.o k (by rw[aa.o];exact ap);subst e;have au:=ae.o k ap;have f:ϡ ((s.take (k+1)).map (λi=>d.getD i.toNat 0)=(s.take k).map (λi=>d.getD i.toNat 0)++[d.getD (s.getD k 0).toNat 0]):=by
     show(s.take (k+1)).map _=_;rw[Iw s k (by rw[aa.o];exact ap),DQ];rfl
    have aj:ϲ ((s.take k).map (λi=>d.getD i.toNat 0))<=8:=by rw[lMp,DA];omega
    obtain⟨z,hz⟩:=nM (s.getD k 0);rw[hz]at xk au f;obtain⟨t,rfl⟩:=SK au.1;rw[SM]at f;obtain⟨b1,o1,e1,x1⟩:=ai.o t (by rw[ab.o];omega);subst e1;have qk:=cLz be xk;have q1:=cLz H x1;obtain⟨cv,U⟩:=nM (d.getD t 0);rw[U]at q1 f;obtain⟨pr,X⟩:=nM ((s.take k).map (λi=>d.getD i.toNat 0));rw[X]at L f aj;have i1:=nn0 k;have i2:(k:Int)<(Y:Int):=ϣ;have i3:=nn0 t;have i4:(t:Int)<(P:Int):=ϣ;clear xk x1 hz U au X;go_wp2_with (at_builtin;refine F9 rfl (.tmp 20) (.tmp 29) rfl w2.heap.size u4 pr rfl wr L.o cv wr.heap.size rfl rfl ϣ a9 ?_;intro v2 w3 y V);obtain⟨O,c2,A,_⟩:=Bo y;have S:=DD H a9 L.o V;subst A;go_roundw;exact⟨k+1,ϣ,by go_num,by rw[f.o];exact y,S⟩;simp[intOf];omega
   ·have f:ϡ (s.take k=s):=KI (by rw[aa.o];omega);have av:ϡ (Cm wr w2.heap.size u4 (s.map (λi=>d.getD i.toNat 0))):=by
     have:=L.o;rw[f.o]at this;exact this
    have bh:ϲ (s.map (λi=>d.getD i.toNat 0))<=8:=by rw[lMp,aa.o];exact ao
    obtain⟨u,a5⟩:=nM (s.map (λi=>d.getD i.toNat 0));rw[a5]at av M bh;clear L f a5;go_wp2
    go_loopw [4,6] (λv i wr=> ∃k:Nat,k<=J/\i=vI k/\Cm wr w2.heap.size v (u++(q.take k).map (Fb d))/\Ϣ w2 wr) (λ_ i _=>J - (intOf i).toNat)
    case atStart=>exact⟨0,At _,rfl,by simpa using av.o,H⟩
    case round=>
     obtain⟨m,hm,rfl,a8,I⟩:=hrel;have B:=hV0 a8;have ag:=I.size;have an:=bT am I;have bo:=cLz I bm;clear a8;by_cases aq:m<J
     ·obtain⟨b,o,e,xa,xb⟩:=ay.o m (by rw[ah.o];exact aq);subst e;have qa:=cLz an xa;have qb:=cLz an xb;have al:=ba.o m aq;have f:ϡ (u++(q.take (m+1)).map (Fb d)=u++(q.take m).map (Fb d)++[Fb d (q.getD m (0,0))]):=by
       show u++(q.take (m+1)).map (Fb d)=_;rw[takeA q m (by rw[ah.o];exact aq),DQ,<-Bx];rfl
      have aj:ϲ (u++(q.take m).map (Fb d))<=100:=by rw[lAp,lMp,DA];omega
      obtain⟨⟨fv,kv⟩,a2⟩:∃z,q.getD m (0,0)=z:=⟨_,rfl⟩;rw[a2]at qa qb al f;dsimp only at qa qb al;obtain⟨G,bp,bd⟩:=al;obtain⟨pr,X⟩:=nM (u++(q.take m).map (Fb d));rw[X]at B f aj;have i1:=nn0 m;have i2:(m:Int)<(J:Int):=ϣ;clear xa xb a2 X;by_cases bg:fv<=2
      ·have af:ϡ (u++(q.take (m+1)).map (Fb d)=pr++[2]):=by
        have:=f.o;rw[Ac0 (c:=d) (a:=(fv,kv)) bg]at this;exact this
       clear f G;go_wp2_with (at_builtin;refine F9 rfl (.tmp 45) (.tmp 46) rfl w2.heap.size u4 pr rfl wr B.o 2 wr.heap.size rfl rfl ϣ ag ?_;intro v2 w3 y V);obtain⟨O,c2,A,_⟩:=Bo y;have S:=DD I ag B.o V;subst A;go_roundw;exact⟨m+1,ϣ,by go_num,by rw[af.o];exact y,S⟩;simp[intOf];omega
      ·have hk:0<=kv/\kv<(P:Int):=by
        unfold CR at G;dsimp only at G;rw[AC ϣ,ab.o]at G;exact G.1
       obtain⟨t,rfl⟩:=SK hk.1;obtain⟨b1,o1,e1,x1⟩:=ai.o t (by rw[ab.o];omega);subst e1;have q1:=cLz I x1;have af:ϡ (u++(q.take (m+1)).map (Fb d)=pr++[d.getD t 0]):=by
        have:=f.o;rw[ZM (c:=d) (a:=(fv,(t:Int))) ϩ bd]at this;exact this
       obtain⟨cv,U⟩:=nM (d.getD t 0);rw[U]at q1 af;have i3:=nn0 t;have i4:(t:Int)<(P:Int):=ϣ;clear f G hk U x1;go_wp2_with (at_builtin;refine F9 rfl (.tmp 48) (.tmp 58) rfl w2.heap.size u4 pr rfl wr B.o cv wr.heap.size rfl rfl ϣ ag ?_;intro v2 w3 y V);obtain⟨O,c2,A,_⟩:=Bo y;have S:=DD I ag B.o V;subst A;go_roundw;exact⟨m+1,ϣ,by go_num,by rw[af.o];exact y,S⟩;simp[intOf];omega
     ·have f:ϡ (q.take m=q):=KI (by rw[ah.o];omega);have aw:ϡ (Cm wr w2.heap.size u4 Z):=by
       have:=B.o;rw[f.o,<-M.o]at this;exact this
      obtain⟨O,c2,A,_⟩:=Bo aw.o;rw[ax.o]at A;subst A;have bc:ϡ (Au wr O Z):=(Eg aw.o).1;clear B f;go_wp2;go_ret;exact⟨⟨O,c2,rfl,bc.o⟩,an⟩
end pl
namespace bt
open vl pl
variable {w : ϟ}
def Ac1(c:Cel):Value:=.agg #[vI c.k,vI c.n,.string c.s]
abbrev Tal:=Cel×Int
def GW(w:World)(a:Option Addr)(l:List Tal):Prop:=∀i,i<ϲ l->∃b o,a=some ⟨b,o,none⟩/\Δ w b (o+i * 4) (vI (l.getD i ϰ).1.k)/\Δ w b (o+i * 4+1) (vI (l.getD i ϰ).1.n)/\Δ w b (o+i * 4+2) (.string (l.getD i ϰ).1.s)/\Δ w b (o+i * 4+3) (vI (l.getD i ϰ).2)
def GY{w':ϟ}{a:Ϡ}{l:List Tal}(h:GW w a l)(d:Ϣ w w'):GW w' a l:=λi f=>by
 obtain⟨b,o,e,g,j,m,n⟩:=h i f;exact⟨b,o,e,cLz d g,cLz d j,cLz d m,cLz d n⟩
def Gu(l:List Tal):List Value:=l.flatMap λt=>[vI t.1.k,vI t.1.n,.string t.1.s,vI t.2]
theorem MV:∀(l:List Tal) (i:Nat),i<ϲ l->(Gu l)[i * 4]? =some (vI (l.getD i ϰ).1.k)/\(Gu l)[i * 4+1]? =some (vI (l.getD i ϰ).1.n)/\(Gu l)[i * 4+2]? =some (.string (l.getD i ϰ).1.s)/\(Gu l)[i * 4+3]? =some (vI (l.getD i ϰ).2)
 |[],i,h=>absurd h (CA i)
 |t::l,0,_=>⟨rfl,rfl,rfl,rfl⟩
 |t::l,i+1,h=>by
  have d:=MV l i (by simpa using h);have b:Gu (t::l)=vI t.1.k::vI t.1.n:: .string t.1.s::vI t.2::Gu l:=rfl;rw[b,show(i+1) * 4=i * 4+1+1+1+1 by omega,show i * 4+1+1+1+1+1=(i * 4+1)+1+1+1+1 by omega,show i * 4+1+1+1+1+2=(i * 4+2)+1+1+1+1 by omega,show i * 4+1+1+1+1+3=(i * 4+3)+1+1+1+1 by omega];simp only[getElem?_cons_succ,cB];exact d
def AeM(w:World)(base:Nat)(v:Value)(l:List Tal):Prop:=w.ownsRow base 121 4 v (ϲ l) (Gu l)
def AeN{base:Nat}{ad:Ϡ}{n cap:Nat}{l:List Tal}(h:AeM w base (vS ad n cap) l):GW w ad l/\n=ϲ l:=by
 obtain⟨r,s,j,d⟩:=Bo h;injection j with ha f b
 subst ha b;refine⟨λi e=>?_,f⟩;obtain⟨g,rfl⟩:=d ϣ;obtain⟨m,o,p,q⟩:=MV l i e;refine⟨g,0,rfl,?_,?_,?_,?_⟩
 ·have:=RT h (g:=g) rfl _ _ m;rwa[I4]at this
 ·have:=RT h (g:=g) rfl _ _ o;rw[I4]at this;rw[cU];exact this
 ·have:=RT h (g:=g) rfl _ _ p;rw[I4]at this;rw[cU];exact this
 ·have:=RT h (g:=g) rfl _ _ q;rw[I4]at this;rw[cU];exact this
def AfN:(Tryz.prog.info? 121).map (λi=>(i.zero,i.size,i.bytes))=some (some (.agg #[Ϗ,Ϗ,ϐ,Ϗ]),4,40):=Ϧ
end bt
namespace gr
open vl pl bt
variable {w w' : ϟ} {a : Ϡ} {col rest : Int} {k : Nat}
structure Grp where
 row:List Cel
 n:Int
 bags:List (List Tal)
instance:Inhabited Grp:=⟨⟨[],0,[]⟩⟩
structure GX where
 r:Option Addr
 rc:Nat
 b:Option Addr
 bc:Nat
 hs:List (Option Addr×Nat×Nat)
instance:Inhabited GX:=⟨⟨none,0,none,0,[]⟩⟩
def Jf(x:GX)(g:Grp):Value:=.agg #[vS x.r (ϲ g.row) x.rc,vI g.n,vS x.b (ϲ g.bags) x.bc]
structure gAt(w:World)(x:GX)(g:Grp):Prop where
 row:vl.rowAt w x.r g.row
 hs:M8 w x.b x.hs
 len:ϲ x.hs=ϲ g.bags
 hl:∀i,i<ϲ g.bags->(x.hs.getD i (none,0,0)).2.1=ϲ (g.bags.getD i [])
 bag:∀i,i<ϲ g.bags->GW w (x.hs.getD i (none,0,0)).1 (g.bags.getD i [])
def TX{r:List Cel}(h:vl.rowAt w a r)(b:Ϣ w w'):vl.rowAt w' a r:=vl.Ac h b
def L3{l:List (Option Addr×Nat×Nat)}(h:M8 w a l)(d:Ϣ w w'):M8 w' a l:=λi f=>by
 obtain⟨b,o,e,x⟩:=h i f;exact⟨b,o,e,cLz d x⟩
def gAt.below{x:GX}{g:Grp}(h:gAt w x g)(b:Ϣ w w'):gAt w' x g:=
 ⟨TX h.row b,L3 h.hs b,h.len,h.hl,λi d=>GY (h.bag i d) b⟩
structure gsAt(w:World)(a:Option Addr)(xs:List GX)(gs:List Grp):Prop where
 len:ϲ xs=ϲ gs
 cells:∀i,i<ϲ gs->∃b o,a=some ⟨b,o,none⟩/\Δ w b (o+i * 3) (vS (xs.getD i ϰ).r (ϲ (gs.getD i ϰ).row) (xs.getD i ϰ).rc)/\Δ w b (o+i * 3+1) (vI (gs.getD i ϰ).n)/\Δ w b (o+i * 3+2) (vS (xs.getD i ϰ).b (ϲ (gs.getD i ϰ).bags) (xs.getD i ϰ).bc)
 each:∀i,i<ϲ gs->gAt w (xs.getD i ϰ) (gs.getD i ϰ)
def gsAt.below{j:List GX}{g:List Grp}(h:gsAt w a j g)(d:Ϣ w w'):gsAt w' a j g:=
 ⟨h.len,λi f=>by
  obtain⟨b,o,e,l,m,n⟩:=h.cells i f;exact⟨b,o,e,cLz d l,cLz d m,cLz d n⟩,λi f=>(h.each i f).below d⟩
structure wfG(g:Grp):Prop where
 row:B8 g.row
 rl:ϲ g.row<=ύ
 n:i64 g.n
 bl:ϲ g.bags<=ύ
 tl:∀l∈g.bags,ϲ l<=ύ/\∀t∈l,t.1.s.size<=maxLen/\i64 t.1.n/\i64 t.2
def PV(c:Cel)(col:Int):Bool:=decide (chk c.k c.n c.s=0)&&(decide (c.k=0)||decide (c.k=col))
def Jg(col rest:Int)(prev:Option Cel)(t:Tal):Bool:=PV t.1 col&&decide (1<=t.2)&&decide (t.2<=rest)&&(match prev with|none=>true|some c=>decide (FI c t.1<0))
def Dp(col:Int):Int->Option Cel->List Tal->Bool
 |rest,_,[]=>decide (rest=0)
 |rest,prev,t::l=>Jg col rest prev t&&Dp col (rest - t.2) (some t.1) l
def BR(l:List Tal)(k:Nat):Option Cel:=if k=0 then none else some (l.getD (k - 1) ϰ).1
def Q9{l:List Tal}(h:k<ϲ l):Dp col rest (BR l k) (l.drop k)=(Jg col rest (BR l k) (l.getD k ϰ)&&Dp col (rest - (l.getD k ϰ).2) (BR l (k+1)) (l.drop (k+1))):=by
 have e:l.drop k=l.getD k ϰ::l.drop (k+1):=by
  rw[cM h,gDe,gEe h];rfl
 rw[e,Dp];unfold BR;simp
def TY{l:List Tal}(h:ϲ l<=k):Dp col rest (BR l k) (l.drop k)=decide (rest=0):=by
 rw[aN h,Dp]
def Jh(c:List Int)(a:Int×Int)(n:Int)(l:List Tal):Bool:=if a.1=1 then decide (ϲ l=0)else Dp (c.getD a.2.toNat 0) n none l
def Kd(c:List Int)(aggs:List (Int×Int))(g:Grp):Bool:=decide (ϲ g.bags=ϲ aggs)&&allB (ϲ g.bags) (λi=>Jh c (aggs.getD i (0,0)) g.n (g.bags.getD i []))
def AW(p:Pln):List Int:=p.group.map λat1=>(A5 p).getD at1.toNat 0
def Gb(p:Pln)(gs:List Grp)(i:Nat):Bool:=
 decide (Aq (gs.getD i ϰ).row=0)&&BQ (gs.getD i ϰ).row (AW p)&&(decide (1<=(gs.getD i ϰ).n)&&decide ((gs.getD i ϰ).n<=1073741824))&&(decide (i=0)||decide (AH (gs.getD (i - 1) ϰ).row (gs.getD i ϰ).row<0))&&Kd (A5 p) p.aggs (gs.getD i ϰ)
noncomputable def CP(p:Pln)(gs:List Grp):Int:=if Ag p≠0 then Ag p else if p.grouped=false then 1 else if 4096<ϲ gs then 2 else if allB (ϲ gs) (Gb p gs)=false then 1 else 0
end gr
namespace bt
open vl pl
def pr(a b:Nat):Nat:=(a+b) * (a+b)+a
end bt
