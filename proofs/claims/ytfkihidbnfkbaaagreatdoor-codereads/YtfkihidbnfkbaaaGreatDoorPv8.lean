import Derived.Test.YtfkihidbnfkbaaaGreatDoorPv7
set_option linter.all false
set_option maxHeartbeats 8000000
set_option maxRecDepth 100000
open Inhabited renaming default->ϰ
open List renaming length->ϲ
namespace Go.Proofs.YtfkihidbnfkbaaaGreatDoor
open ChangeShapes WideShapes ChangeAt RowKit Shelf List Proofs.Tryz
namespace bf
attribute [local go_sem] Oper.semAt_some
variable {Pr : Nat -> Obj -> Prop} {W W' : ϟ} {b i o : Nat} {v : Value}
def Aw(Pr:Nat->Obj->Prop)(W W':World):Prop:=∀b o,W.heap[b]? =some o->o.isCells=true->Pr b o->W'.heap[b]? =some o
def Aw.refl(Pr:Nat->Obj->Prop)(W:ϟ):Aw Pr W W:=λ_ _ h _ _=>h
def Aw.trans{A B C:ϟ}(h:Aw Pr A B)(k:Aw Pr B C):Aw Pr A C:=λb o e c d=>k b o (h b o e c d) c d
def names(Pr:Nat->Obj->Prop)(W:World)(b:Nat):Prop:=∀o,W.heap[b]? =some o->Pr b o
theorem Abc(c:Δ W b o v):∃x,W.heap[b]? =some x/\x.isCells=true:=by
 unfold World.cell? at c
 cases ho:W.heap[b]? with
 |none=>simp[ho]at c
 |some x=>exact⟨x,rfl,by cases x<;>simp_all [Obj.isCells]⟩
def Aw.block(h:Aw Pr W W')(e:names Pr W b)(f:Δ W b o v):W'.heap[b]? =W.heap[b]? :=by
 obtain⟨x,c,d⟩:=Abc f;rw[h b x c d (e x c),c]
def Aw.cell(h:Aw Pr W W')(d:names Pr W b)(c:Δ W b o v):Δ W' b o v:=
 (cOb (w:=W) (a:=⟨b,o,none⟩) (h.block d c)).trans c
def Aw.grown{V:ϟ}{j:Option Nat}(h:Aw Pr V W)(m:W.grownBy W' j)(q:∀r,j=some r->∃o:Obj,W.heap[r]? =some o/\o.isCells=false):Aw Pr V W':=λb o k d l=>by
 have c:=h b o k d l;refine(m.block b (GS.1 c).1 (λe=>?_)).trans c;obtain⟨s,f,g⟩:=q b e.symm;rw[c]at f;cases f;rw[d]at g;cases g
def Aw.put(W:ϟ)(l:Nat)(o g:Obj)(h:W.heap[l]? =some o)(f:o.isCells=false):Aw Pr W (W.putObj l g):=λb x c d _=>by
 by_cases e:b=l
 ·subst e;rw[h]at c;cases c;rw[f]at d;cases d
 ·exact(Ts e).trans c
def Aw.alloc(W:ϟ)(o:Obj):Aw Pr W (W.alloc o):=λb x c _ _=>(LE W o b (GS.1 c).1).trans c
def GL{n:Nat}(h:Below n W W')(d:b<n)(c:names Pr W b):names Pr W' b:=λx e=>c x (by rw[<-h.block b d];exact e)
abbrev Hdr:=Option Addr×Nat×Nat
def hdV(h:Hdr):Value:=.slice h.1 h.2.1 h.2.2
def Gj(w:World)(a:Option Addr)(l:List Hdr):Prop:=
 ∀i,i<ϲ l->∃b off,a=some ⟨b,off,none⟩/\Δ w b (off+i) (hdV (l.getD i (none,0,0)))
theorem NJ(BX:Nat)(lim:Int)(m:Hdr)(f:Ϡ)(rc:Nat)(rs:List Hdr)(Pr:Nat->Obj->Prop)(w:ϟ)(hl:ϲ rs<=ύ)
 (h1:Δ w BX 1 (hdV m)) (D:Δ w BX 2 (.slice f (ϲ rs) rc)) (t:Gj w f rs) (F:names Pr w BX) (G:∀x,0<ϲ rs->f=some x->names Pr w x.block):
 Acy prog 268 #[ω BX] ((m::rs).map λh=>#[hdV h]) (Aw Pr) w:=by
 intro l J Jx W c hJ an q j;obtain⟨R,T,U⟩:=m;have N:=cLz c h1;have O:=cLz c D;have K:Gj W f rs:=λi hi=>by obtain⟨b,o,e,x⟩:=t i hi;exact⟨b,o,e,cLz c x⟩
 unfold hdV at N;dsimp only at N;have Y:=hV0 q;have X:=hV0 K;have C:ϡ (names Pr W BX/\∀x,0<ϲ rs->f=some x->names Pr W x.block):=⟨GL c (bLt _ _ h1) F,λx j L=>by
  obtain⟨b,o,e,y⟩:=t 0 j;rw[L]at e;cases e;exact GL c (bLt _ _ y) (G _ j L)⟩
 have A:ϡ (ϲ (((((R,T,U):Hdr)::rs).map λh=>#[hdV h]))=ϲ rs+1):=by show _=_;simp
 have ah:=q 0 #[.slice R T U] W (by simp[hdV]) j;clear q t K F G h1 D c;obtain⟨n,s⟩:∃n,ϲ rs=n:=⟨_,rfl⟩;have g:=hV0 s;rw[s]at O hl A;clear s;rw[A.o];refine callsIn_of_wp func268 rfl trivial ?_ rfl;simp only[ntmps268,St,DP,NS,Nat.reduceAdd,Nat.reduceSub,aU,aV,aW,aX,JV,KY];obtain⟨fn,ap,ai,ak,hy,hR⟩:=ah
 gi_wp2
 refine⟨rfl,hR.mono ?_⟩;rintro e W1 ⟨_,(⟨rfl,Z,H⟩|⟨rfl,ab⟩)⟩
 ·have c2:=H.cell C.o.1 O
  gi_wp2
  gi_loopw [13] (λi wr=> ∃k:Nat,k<=n/\i= .int .i64 k/\J (k+1) wr/\Aw Pr W wr) (λi _=>n - (intOf i).toNat)
  case atStart=>exact⟨0,At _,rfl,Z,H⟩
  case round=>
   obtain⟨k,hk,rfl,E,I⟩:=hrel;by_cases r:k<n
   ·obtain⟨b,o,e,V⟩:=X.o k (by rw[g.o];exact r);subst e;have u:=I.cell (C.o.2 _ (by rw[g.o];omega) rfl) V;obtain⟨⟨z1,z2,z3⟩,d⟩:∃z,rs.getD k (none,0,0)=z:=⟨_,rfl⟩;have ag:=Y.o (k+1) #[.slice z1 z2 z3] wr (by
     rw[P3,getElem?_cons_succ,L7,gEe (by rw[g.o];exact r)];rw[gDe,gEe (by rw[g.o];exact r)]at d;simp at d;simp[d,hdV]) E
    rw[d]at u;unfold hdV at u;dsimp only at u;clear d V;obtain⟨am,aq,aj,al,ao,ad⟩:=ag;have i1:=nn0 k;have i2:(k:Int)<(n:Int):=ϣ
    gi_wp2
    refine⟨rfl,ad.mono ?_⟩;rintro e W2 ⟨_,(⟨rfl,aa,ae⟩|⟨rfl,ac⟩)⟩
    ·gi_wp2
     go_roundw;exact⟨k+1,ϣ,by go_num,aa,I.trans ae⟩;simp[intOf];omega
    ·gi_wp2
     refine CD (fO rfl _ _ _) rfl ?_;exact⟨⟨_,rfl⟩,.inr ac⟩
   ·have af:k=n:=ϣ;subst af
    gi_wp2
    go_end0
    exact⟨⟨_,rfl⟩,.inl E⟩
 ·gi_wp2
  refine CD (fO rfl _ _ _) rfl ?_;exact⟨⟨_,rfl⟩,.inr ab⟩
structure EM where
 key:ByteArray
 time:Int
 seq:Int
 row:Hdr
 met:Bool
instance:Inhabited EM:=⟨⟨⟨#[]⟩,0,0,(none,0,0),false⟩⟩
def EM.val(e:EM):Value:=.agg #[.string e.key,.int .i64 e.time,.int .i64 e.seq,hdV e.row,.bool e.met]
def Cn(w:World)(a:Option Addr)(l:List EM):Prop:=
 ∀i,i<ϲ l->∃b off,a=some ⟨b,off,none⟩/\Δ w b (off+i * 5) (.string (l.getD i ϰ).key)/\Δ w b (off+i * 5+1) (.int .i64 (l.getD i ϰ).time)/\
  ϙ w b (off+i * 5+1+1) (.int .i64 (l.getD i ϰ).seq) (hdV (l.getD i ϰ).row) (.bool (l.getD i ϰ).met)
def Ch{w w':ϟ}{a:Ϡ}{l:List EM}(h:Cn w a l)(c:Ϣ w w'):Cn w' a l:=by
 intro i d;obtain⟨b,o,e,f,g,j,k,m⟩:=h i d;exact⟨b,o,e,cLz c f,cLz c g,cLz c j,cLz c k,cLz c m⟩
abbrev Part:=Hdr×List EM
def ems(p:List Part):List EM:=p.flatMap (·.2)
def GH(p:List Part)(i:Nat):Nat:=ϲ (ems (p.take i))
def Rk(p q:List Part):ems (p++q)=ems p++ems q:=by unfold ems;rw[SN]
def Vo{p:List Part}(h:i<ϲ p):p=p.take i++(p[i]::p.drop (i+1)):=by
 rw[getElem_cons_drop];exact(PP i p).symm
def Qh{p:List Part}(h:i<ϲ p):GH p (i+1)=GH p i+ϲ (p[i]).2:=by
 unfold GH;rw[M1 h,Rk,lAp];simp[ems]
def NL(p:List Part):GH p (ϲ p)=ϲ (ems p):=by unfold GH;rw[Ok]
def AfT{p:List Part}{k:Nat}(h:i<ϲ p)(c:k<ϲ (p[i]).2):(ems p)[GH p i+k]? =some ((p[i]).2.getD k ϰ):=by
 have e:ems p=ems (p.take i)++((p[i]).2++ems (p.drop (i+1))):=by
  have d:ems p=ems (p.take i++(p[i]::p.drop (i+1))):=by rw[<-Vo h]
  rw[d,Rk];rfl
 rw[e];unfold GH;rw[bB ϣ,fq,aM c,gEe c,gDe,gEe c];rfl
def Jv(c d f:Value)(h1:c.oneCell'=true)(g:d.oneCell'=true)(h:f.oneCell'=true)(w:ϟ):
 χ 233 #[.agg #[c,d,f]] w λe w'=>e= .returned (.func (.func 268) #[] #[ω w])/\w'=w.alloc (.cells #[c,d,f] 36):=by
 go_enter func233,ntmps233;go_wp2;go_ret;exact⟨rfl,rfl⟩
def Jw(c d f:Value)(h1:c.oneCell'=true)(g:d.oneCell'=true)(h:f.oneCell'=true)(w:ϟ):
 χ 237 #[.agg #[c,d,f]] w λe w'=>e= .returned (.func (.func 276) #[] #[ω w])/\w'=w.alloc (.cells #[c,d,f] 36):=by
 go_enter func237,ntmps237;go_wp2;go_ret;exact⟨rfl,rfl⟩
structure boxAt(w:World)(BX:Nat)(lim:Int)(ra:Option Addr)(rc:Nat)(m:Part)(rs:List Part):Prop where
 lim:Δ w BX 0 (.int .i64 lim)
 mem:Δ w BX 1 (hdV m.1)
 runs:Δ w BX 2 (.slice ra (ϲ rs) rc)
 hds:Gj w ra (rs.map (·.1))
 len:∀p∈m::rs,p.1.2.1=ϲ p.2/\(ϲ p.2)<=ύ
 ems:∀p∈m::rs,Cn w p.1.1 p.2
 few:ϲ rs<=ύ
theorem Abd(BX:Nat)(lim:Int)(C:Ϡ)(T:Nat)(m:Part)(rs:List Part)(Pr:Nat->Obj->Prop)(w:ϟ)(h:boxAt w BX lim C T m rs)
 (hS:names Pr w BX) (av:∀x,0<ϲ rs->C=some x->names Pr w x.block) (aw:∀p∈m::rs,∀x,0<ϲ p.2->p.1.1=some x->names Pr w x.block)
 (aj:∀b c f,w.heap.size<=b->Pr b (.cells c 36 f)) (ak:∀b c f,w.heap.size<=b->Pr b (.cells c 247 f)):
 Acy prog 276 #[ω BX] ((ems (m::rs)).map λe=>#[e.val]) (Aw Pr) w:=by
 intro l J Jx W hb hJ au hY L;obtain⟨k0,k1,k2⟩:=lk3 hb h.lim h.mem h.runs;obtain⟨⟨g,s,A⟩,ml⟩:=m;unfold hdV at k1;dsimp only at k1;have lX:BX<W.heap.size:=bLt _ _ k0;obtain⟨n,I⟩:∃n,ϲ rs=n:=⟨_,rfl⟩;have HN:=hV0 I;rw[I]at k2;clear I;obtain⟨xs,ao⟩:=nM ((ems ((((g,s,A):Hdr),ml)::rs)).map (λe=>#[e.val]));have HX:=hV0 ao;rw[ao]at hY⊢;clear ao;refine bH func276 rfl trivial ?_ rfl;simp only[ntmps276,St,DP,NS,Nat.reduceAdd,Nat.reduceSub,aU,aV,aW,aX,JV,KY]
 gi_wp2_with (refine⟨trivial,rfl,?_⟩;gi_at_call 233;refine(DM.2 (Jv _ _ _ rfl rfl rfl _)).mono ?_;rintro e w' ⟨rfl,rfl⟩)
 have E:ϡ (boxAt w BX lim C T ((g,s,A),ml) rs/\names Pr w BX/\(∀x,0<ϲ rs->C=some x->names Pr w x.block)/\(∀p∈((g,s,A),ml)::rs,∀x,0<ϲ p.2->p.1.1=some x->names Pr w x.block)):=⟨h,hS,av,aw⟩;have HP:ϡ ((∀b c f,w.heap.size<=b->Pr b (.cells c 36 f))/\(∀b c f,w.heap.size<=b->Pr b (.cells c 247 f))):=⟨aj,ak⟩;have HJ:ϡ (OwnFrom W.heap.size J/\OwnFrom W.heap.size Jx):=⟨hJ,au⟩;have HY:=hV0 hY;generalize G:((W.alloc (.cells #[.func (.yield l) #[] #[]] 247)).alloc (.cells (τ lim g s A C n T) 36))=V at *;have c2:Δ V W 0 (.func (.yield l) #[] #[]):=by subst G;go_simp
 have d1:Δ V (W+1) 1 (.slice g s A):=by subst G;go_simp
 have d2:Δ V (W+1) 2 (.slice C n T):=by subst G;go_simp
 have bd:Ϣ W V:=by subst G;exact Ϯ.alloc ϥ _
 have bs:V.heap.size=W.heap.size+2:=by subst G;simp
 have nB:names Pr V (W.heap.size+1):=by
  subst G;exact λo U=>by
   have h:=DE (ϊ W #[.func (.yield l) #[] #[]] 247) (.cells (τ lim g s A C n T) 36);rw[D0]at h;rw[h]at U;cases U;exact aj _ _ _ (by have:=hb.size;omega)
 have nY:names Pr V W.heap.size:=by
  subst G;exact λo U=>by
   have h:=(LE (ϊ W #[.func (.yield l) #[] #[]] 247) (.cells (τ lim g s A C n T) 36) W.heap.size ϥ).trans (DE W _);rw[h]at U;cases U;exact ak _ _ _ hb.size
 have ba:J 0 V:=by subst G;exact hJ.alloc _ (hJ.alloc _ L)
 clear hY hJ au h hS av aw aj ak k0 k1 k2 L;clear G;have af:Ϣ w V:=bT hb bd;obtain⟨P,hP⟩:∃z:List Part,(((g,s,A),ml)::rs)=z:=⟨_,rfl⟩;have bk:ϡ (ϲ P=n+1):=by show _=_;rw[<-hP,DP,HN.o]
 have a7:ϡ (∀p∈P,p.1.2.1=ϲ p.2/\(ϲ p.2)<=ύ/\Cn V p.1.1 p.2/\∀x,0<ϲ p.2->p.1.1=some x->names Pr V x.block):=λp Z=>by
  rw[<-hP]at Z;refine⟨(E.o.1.len p Z).1,(E.o.1.len p Z).2,Ch (E.o.1.ems p Z) af,λx L d=>?_⟩;obtain⟨b,o,e,y,_⟩:=E.o.1.ems p Z 0 L;rw[d]at e;cases e;exact GL af (bLt _ _ y) (E.o.2.2.2 p Z _ L d)
 have a8:ϡ ((((g,s,A):Hdr)::rs.map (·.1)).map (λh=>#[hdV h])=P.map λp=>#[hdV p.1]):=by
  show _=_;rw[<-hP];simp
 have HE:ϡ ((ems P).map (λe=>#[e.val])=xs):=by show _=_;rw[<-hP];exact HX.o
 have a6:ϲ (rs.map (·.1))=n:=by rw[lMp,HN.o]
 have a0:=NJ (W.heap.size+1) lim (g,s,A) C T (rs.map (·.1)) Pr V (by rw[a6,<-HN.o];exact E.o.1.few) d1 (by rw[a6];exact d2) (λi H=>by obtain⟨b,o,e,x⟩:=E.o.1.hds i H;exact⟨b,o,e,cLz af x⟩) nB (λx L d=>by
  obtain⟨b,o,e,y⟩:=E.o.1.hds 0 L;rw[d]at e;cases e;exact GL af (bLt _ _ y) (E.o.2.2.1 _ (by simpa using L) d))
 rw[a8.o]at a0;refine DF (gf:=268) (lb:=#[.pointer (some ⟨W+1,0,none⟩)]) rfl (IB func268 Ϧ rfl) a0 bR (λx d=>by obtain⟨p,_,rfl⟩:=DS.1 d;rfl) (λh k=>Aw.trans h k) (λW l o o' _ h U=>Aw.put W l o o' h U)
  (λi X=>J (GH P i) X/\Aw Pr V X) (λc X=>c= .ret/\Jx () X)
  (λi X X' ah Y hg hr=>⟨(Acz HJ.o.1 ϣ) _ X X' ah Y.1 hg hr,Y.2.grown hg (λr e=>(hr r e).2)⟩)
  (λc X X' ah Y hg hr=>⟨Y.1,(Acz HJ.o.2 ϣ) _ X X' ah Y.2 hg hr⟩)
  ⟨ba,Aw.refl _ _⟩
  (λi a' X=>a'={tmps:=#[.func (.yield l) #[] #[],.pointer (some ⟨BX,0,none⟩),.pointer (some ⟨W,0,none⟩),hdV (P.getD i ϰ).1,undef,undef,.agg #[.int .i64 lim,.slice g s A,.slice C n T],.func (.func 268) #[] #[.pointer (some ⟨W+1,0,none⟩)],hdV (P.getD i ϰ).1,undef,undef,undef,undef,undef,undef,undef,undef,undef,undef,undef],defers:=[]})
  (λi a' u X X' ah Y hg hr=>Y) ?assign ?body ?done ?stop
 case assign=>
  intro l' k x X K d H N;obtain⟨hk,ag⟩:=JT.1 d;rw[lMp]at hk;rw[aP]at ag;subst ag;have hd:P.getD k ϰ=P[k]:=by rw[gDe,gEe hk];rfl
  have ac:=λW' h1 h2 h3=>N _ W' h1 h2 h3 rfl;rw[hd]at ac;clear N hd d;obtain⟨⟨⟨z1,z2,z3⟩,zl⟩,hz⟩:∃z,P[k]=z:=⟨_,rfl⟩;rw[hz]at ac⊢;unfold hdV at ac⊢;dsimp only at ac⊢
  gi_wp2
  exact ac X (cV _ _) (Aw.refl _ _) H
 case body=>
  intro l' i x a' X d bq br a9 ax;obtain⟨aq,a2⟩:=a9;obtain⟨H,ag⟩:=JT.1 d;rw[lMp]at H;have hd:P.getD i ϰ=P[i]:=by rw[gDe,gEe H];rfl
  rw[hd]at ax;subst ax;have an:=a7.o P[i] (GE H);have aa:ϡ (∀j,j<ϲ (P[i]).2->xs[GH P i+j]? =some #[((P[i]).2.getD j ϰ).val]):=λj hj=>by
   rw[<-HE.o,L7,AfT H hj];rfl
  have ab:ϡ (GH P (i+1)=GH P i+ϲ (P[i]).2):=Qh H;clear d ag hd;obtain⟨⟨⟨z1,z2,z3⟩,zl⟩,hz⟩:∃z,P[i]=z:=⟨_,rfl⟩;rw[hz]at an aa ab⊢;dsimp only at an aa ab⊢;obtain⟨bi,bj,ay,a5⟩:=an;subst bi;have ap:ϡ (Cn V z1 zl/\∀x,0<ϲ zl->z1=some x->names Pr V x.block):=⟨ay,a5⟩;obtain⟨q,hq⟩:∃q,ϲ zl=q:=⟨_,rfl⟩;have HQ:=hV0 hq;rw[hq]at bj aa ab;unfold hdV;dsimp only;rw[hq];clear hz ay a5 hq;obtain⟨O,hO⟩:∃O,GH P i=O:=⟨_,rfl⟩;rw[hO]at aq aa ab;have lV:W.heap.size<X.heap.size:=by
   have:=bLt _ _ (a2.cell nY c2);exact this
  gi_wp2
  gi_loopw [11] (λt wr=> ∃j:Nat,j<=q/\t= .int .i64 j/\J (O+j) wr/\Aw Pr V wr/\Aw Pr X wr/\KeepsFrom V.heap.size X wr) (λt _=>q - (intOf t).toNat)
  case atStart=>exact⟨0,At _,rfl,aq,a2,Aw.refl _ _,cV _ _⟩
  case round=>
   obtain⟨j,hj,rfl,ar,R,a3,am⟩:=hrel;have y2:=R.cell nY c2;have ly:W.heap.size<wr.heap.size:=bLt _ _ y2;by_cases a4:j<q
   ·obtain⟨b,o,e,x1,x2,x3,x4,x5⟩:=ap.o.1 j (by rw[HQ.o];exact a4);subst e;have I:=ap.o.2 _ (by rw[HQ.o];omega) rfl;have q1:=R.cell I x1;have q2:=R.cell I x2;have q3:=R.cell I x3;have q4:=R.cell I x4;have q5:=R.cell I x5;have ad:=aa.o j a4;obtain⟨⟨ek,et,es,⟨r1,r2,r3⟩,em⟩,he⟩:∃z,zl.getD j ϰ=z:=⟨_,rfl⟩;rw[he]at q1 q2 q3 q4 q5 ad;unfold hdV at q4;unfold EM.val hdV at ad;dsimp only at q1 q2 q3 q4 q5 ad;have lb:b<wr.heap.size:=bLt _ _ q1;have i1:=nn0 j;have i2:(j:Int)<(q:Int):=ϣ;have bh:=HY.o (O+j) _ (ϊ wr (φ ek et es r1 r2 r3 em) 166) ad (HJ.o.1.alloc _ ar);obtain⟨bo,bv,bm,bn,bu,bc⟩:=bh;clear he x1 x2 x3 x4 x5 ad
    gi_wp2
    refine⟨rfl,RoundIn.mono (F:=Fence.wide.inRound l') bc ?_⟩;rintro e W2 ⟨az,(⟨rfl,ae,bg⟩|⟨rfl,bb⟩)⟩
    ·have a1:Aw Pr wr W2:=(Aw.alloc wr _).trans bg;have al:KeepsFrom V.heap.size X W2:=am.trans (((bQ _ _).from _).trans (Iz az ϣ))
     gi_wp2
     go_roundw;exact⟨j+1,ϣ,by go_num,ae,R.trans a1,a3.trans a1,al⟩;simp[intOf];omega
    ·have al:KeepsFrom V.heap.size X W2:=am.trans (((bQ _ _).from _).trans (Iz az ϣ))
     gi_wp2
     exact⟨al,rfl,bb⟩
   ·have be:j=q:=ϣ;subst be
    gi_wp2
    exact⟨am,a3,by rw[ab.o];exact ar,R⟩
 case done=>
  rintro D X hD ⟨ai,bp⟩ N
  gi_wp2
  refine⟨ϥ,.inl ⟨_,_,rfl,RM N,?_⟩⟩;have ae:=HJ.o.1.putObj (.deferred none) ai ϣ N rfl;rw[lMp,NL,<-lMp (f:=λe:EM=>#[e.val]),HE.o]at ae;exact⟨_,fO rfl _ _ _,⟨_,rfl⟩,.inl ae⟩
 case stop=>
  rintro D c X hD ⟨rfl,ai⟩ N
  gi_wp2
  refine⟨ϥ,.inl ⟨_,_,rfl,RM N,?_⟩⟩;exact⟨_,fO rfl _ _ _,⟨_,rfl⟩,.inr (HJ.o.2.putObj (.deferred none) ai ϣ N rfl)⟩
end bf
namespace bf
open vl
variable {w w' : ϟ} {i : Nat}
structure Ent where
 key:ByteArray
 time:Int
 seq:Int
 row:List Cel
 met:Bool
deriving DecidableEq
instance:Inhabited Ent:=⟨⟨⟨#[]⟩,0,0,[],false⟩⟩
structure ER(w:World)(e:EM)(x:Ent):Prop where
 key:e.key=x.key
 time:e.time=x.time
 seq:e.seq=x.seq
 met:e.met=x.met
 len:e.row.2.1=ϲ x.row
 row:vl.rowAt w e.row.1 x.row
def ER.below{e:EM}{x:Ent}(h:ER w e x)(c:Ϣ w w'):ER w' e x:=⟨h.key,h.time,h.seq,h.met,h.len,vl.Ac h.row c⟩
def ERs(w:World)(es:List EM)(l:List Ent):Prop:=ϲ es=ϲ l/\∀i,i<ϲ l->ER w (es.getD i ϰ) (l.getD i ϰ)
def ERs.below{es:List EM}{l:List Ent}(h:ERs w es l)(c:Ϣ w w'):ERs w' es l:=⟨h.1,λi d=>(h.2 i d).below c⟩
def AdL(w:ϟ):ERs w [] []:=⟨rfl,λi c=>absurd c (CA i)⟩
def Ba{α:Type}{l m:List α}{d:α}(h:i<ϲ l):(l++m).getD i d=l.getD i d:=by
 simp[gDe,aM h]
def Bf{α:Type}{l m:List α}{d:α}(h:ϲ l<=i):(l++m).getD i d=m.getD (i - ϲ l) d:=by
 simp[gDe,bB h]
def AdM{es d:List EM}{l f:List Ent}(h:ERs w es l)(e:ERs w d f):ERs w (es++d) (l++f):=by
 refine⟨by rw[lAp,lAp,h.1,e.1],λi g=>?_⟩;rw[lAp]at g;by_cases c:i<ϲ l
 ·rw[Ba (by rw[h.1];exact c),Ba c];exact h.2 i c
 ·rw[Bf (by rw[h.1];omega),Bf ϣ,h.1];exact e.2 _ ϣ
def bl(b:ByteArray):List UInt8:=b.data.toList
def Vp{a b:ByteArray}(h:bl a=bl b):a=b:=bN (dX h)
def ltP(a b:Ent):Prop:=bl a.key<bl b.key\/(a.key=b.key/\(a.time<b.time\/(a.time=b.time/\a.seq<b.seq)))
instance(a b:Ent):Decidable (ltP a b):=by unfold ltP;exact inferInstance
def Er(a b:Ent):Prop:=a.key=b.key/\a.time=b.time/\a.seq=b.seq
instance(a b:Ent):Decidable (Er a b):=by unfold Er;exact inferInstance
def Fw(a b:Ent):Int:=if ltP a b then -1 else if Er a b then 0 else 1
theorem GM:∀(a b:List UInt8),Op.bytesLess a b=decide (a<b)
 |[],[]=>by simp[Op.bytesLess]
 |_::_,[]=>by simp[Op.bytesLess]
 |[],_::_=>by simp[Op.bytesLess]
 |a::x,b::y=>by
  rw[Op.bytesLess,GM x y];simp only[gH];by_cases c:a<b<;>by_cases d:a=b<;>by_cases e:x<y<;>simp[c,d,e]
def Nr(a b:List UInt8):Lib.compareBytes a b=if a<b then -1 else if a=b then 0 else 1:=by
 rw[IP,GM];by_cases c:a<b<;>by_cases d:a=b<;>simp[c,d]
def Ih(a:List UInt8):¬a<a:=gI a
def Qi{a b c:List UInt8}(h1:a<b)(d:b<c):a<c:=List.lt_trans h1 d
def lt_tri(a b:List UInt8):a<b\/a=b\/b<a:=by
 by_cases c:a<b
 ·exact .inl c
 ·by_cases d:b<a
  ·exact .inr (.inr d)
  ·exact .inr (.inl (List.le_antisymm (List.not_lt.1 d) (List.not_lt.1 c)))
def EA(a:Ent):¬ltP a a:=by
 unfold ltP;rintro (h|⟨_,h|⟨_,h⟩⟩)
 ·exact Ih _ h
 ·omega
 ·omega
def CF{a b c:Ent}(h1:ltP a b)(d:ltP b c):ltP a c:=by
 unfold ltP at *;rcases h1 with h1|⟨f,h1⟩
 ·rcases d with d|⟨e,d⟩
  ·exact .inl (Qi h1 d)
  ·rw[<-e];exact .inl h1
 ·rcases d with d|⟨e,d⟩
  ·rw[f];exact .inl d
  ·exact .inr ⟨f.trans e,ϣ⟩
def ltP_tri(a b:Ent):ltP a b\/Er a b\/ltP b a:=by
 unfold ltP Er;rcases lt_tri (bl a.key) (bl b.key)with h|h|h
 ·exact .inl (.inl h)
 ·have e:=Vp h;by_cases d:a.time<b.time
  ·exact .inl (.inr ⟨e,.inl d⟩)
  ·by_cases f:b.time<a.time
   ·exact .inr (.inr (.inr ⟨e.symm,.inl f⟩))
   ·have c:a.time=b.time:=ϣ;by_cases g:a.seq<b.seq
    ·exact .inl (.inr ⟨e,.inr ⟨c,g⟩⟩)
    ·by_cases j:b.seq<a.seq
     ·exact .inr (.inr (.inr ⟨e.symm,.inr ⟨c.symm,j⟩⟩))
     ·exact .inr (.inl ⟨e,c,ϣ⟩)
 ·exact .inr (.inr (.inl h))
def Vq(a:Ent):Er a a:=⟨rfl,rfl,rfl⟩
def Kh{a b:Ent}(h:Er a b):Er b a:=⟨h.1.symm,h.2.1.symm,h.2.2.symm⟩
def NM{a b c:Ent}(h:ltP a b)(k:Er b c):ltP a c:=by
 unfold ltP at *;rw[<-k.1,<-k.2.1,<-k.2.2];exact h
def Abe{a b c:Ent}(h:Er a b)(k:ltP b c):ltP a c:=by
 unfold ltP at *;rw[h.1,h.2.1,h.2.2];exact k
def NN{a b:Ent}(h:ltP a b):¬Er a b:=λk=>EA _ (NM h (Kh k))
def Ho{a b:Ent}:Fw a b<0↔ltP a b:=by
 unfold Fw;by_cases h:ltP a b
 ·simp[h]
 ·by_cases c:Er a b<;>simp[h,c]
def Md{a b:Ent}:Fw a b=0↔Er a b:=by
 unfold Fw;by_cases h:ltP a b
 ·simp[h,NN h]
 ·by_cases c:Er a b<;>simp[h,c]
theorem Ki(a b:Ent):AY [Lib.compareBytes (bl a.key) (bl b.key),CN a.time b.time,CN a.seq b.seq]=Fw a b:=by
 have g:=Nr (bl a.key) (bl b.key);rw[g];unfold AY AY AY AY CN Fw;unfold ltP Er;rcases lt_tri (bl a.key) (bl b.key)with h|h|h
 ·simp[h]
 ·have e:=Vp h;simp only[h,Ih,bK,bE,e,false_or,true_and];by_cases d:a.time<b.time
  ·simp[d]
  ·by_cases f:b.time<a.time
   ·have c:¬a.time=b.time:=ϣ;simp[d,f,c]
   ·have j:a.time=b.time:=ϣ;simp only[j,Int.lt_irrefl,bK,false_or,true_and];by_cases c:a.seq<b.seq
    ·simp[c]
    ·by_cases m:b.seq<a.seq
     ·have q:¬a.seq=b.seq:=ϣ;simp[c,m,q]
     ·have l:a.seq=b.seq:=ϣ;simp[l]
 ·have d:¬bl a.key<bl b.key:=λk=>Ih _ (Qi k h);have f:¬bl a.key=bl b.key:=λk=>by rw[k]at h;exact Ih _ h
  have c:¬a.key=b.key:=λk=>f (by rw[k]);simp[d,f,c]
def A8(n a b:Int):Bool:=decide (a<=n/\n<=b)
def Bg(n a b:Int):A8 n a b=true↔(a<=n/\n<=b):=by simp[A8]
def CC(n a b:Int):A8 n a b=false↔ ¬(a<=n/\n<=b):=by unfold A8;exact cP
def An(n a b:Int)(w:ϟ):
 χ 83 #[.int .i64 n,.int .i64 a,.int .i64 b] w λe w'=>e= .returned (.bool (A8 n a b))/\w'=w:=by
 by_cases c:a<=n
 ·by_cases d:n<=b
  ·rw[(Bg n a b).2 ⟨c,d⟩];go_enter func83,ntmps83;go_wp2;go_ret;exact⟨rfl,rfl⟩
  ·rw[(CC n a b).2 ϣ];go_enter func83,ntmps83;go_wp2;go_ret;exact⟨rfl,rfl⟩
 ·rw[(CC n a b).2 ϣ];go_enter func83,ntmps83;go_wp2;go_ret;exact⟨rfl,rfl⟩
def IJ(n:Int)(w:ϟ):
 χ 166 #[.int .i64 n] w λe w'=>e= .returned (.bool (A8 n 1 64))/\w'=w:=by
 by_cases c:1<=n
 ·by_cases d:n<=64
  ·rw[(Bg n 1 64).2 ⟨c,d⟩];go_enter func166,ntmps166;go_wp2;go_ret;exact⟨rfl,rfl⟩
  ·rw[(CC n 1 64).2 ϣ];go_enter func166,ntmps166;go_wp2;go_ret;exact⟨rfl,rfl⟩
 ·rw[(CC n 1 64).2 ϣ];go_enter func166,ntmps166;go_wp2;go_ret;exact⟨rfl,rfl⟩
theorem AfU(b:Nat)(zs:List Int)(w:ϟ)(C:ϲ zs<=100)
 (m:∀i,i<ϲ zs->Δ w b i (.int .i64 (zs[i]?.getD 0))):
 χ 293 #[.slice (ϋ b) (ϲ zs) (ϲ zs)] w λe w'=>e= .returned (.int .i64 (AY zs))/\w'=w:=by
 go_enter func293,ntmps293;go_wp2
 go_loop [8] (λi=> ∃k:Nat,k<=ϲ zs/\i= .int .i64 k/\∀i,i<k->zs[i]?.getD 0=0) (λi=>ϲ zs - (intOf i).toNat)
 case atStart=>exact⟨0,At _,rfl,λi g=>absurd g (CA i)⟩
 case round=>
  obtain⟨k,A,rfl,l⟩:=hrel;have c:=hV0 l;clear l;by_cases r:k<ϲ zs
  ·have t:=m k r;obtain⟨z,j⟩:=nM (zs[k]?.getD 0);rw[j]at t;have d:=hV0 j;clear m j;by_cases f:(z==0)=true
   ·have q:z=0:=by simpa using f
    have s:ϡ (z=0):=q;clear q;go_wp2
    go_round
    case rel=>exact⟨k+1,ϣ,by go_num,λi g=>by
     rcases Fm.1 g with h|h
     ·exact c.o i h
     ·rw[h,d.o];exact s.o⟩
    case measure=>simp[intOf];omega
   ·have y:(z==0)=false:=by simpa using f
    have u:ϡ (AY zs=z):=by
     show AY zs=z;rw[OO zs k c.o r (by rw[d.o];simpa using f)];exact d.o
    go_wp2;go_ret;exact⟨Ad (by rw[u.o]),rfl⟩
  ·have x:ϡ (AY zs=0):=by
    show AY zs=0;rw[Iy zs k c.o,aN ϣ];rfl
   go_wp2;go_ret;exact⟨Ad (by rw[x.o]),rfl⟩
theorem or3(b:Nat)(x y z:Int)(w:ϟ)(h0:Δ w b 0 (.int .i64 x))(h1:Δ w b 1 (.int .i64 y))(c:Δ w b 2 (.int .i64 z)):
 χ 293 #[.slice (ϋ b) 3 3] w λe w'=>e= .returned (.int .i64 (AY [x,y,z]))/\w'=w:=
 AfU b [x,y,z] w ϥ (λi d=>by
  match i,d with
  |0,_=>exact h0
  |1,_=>exact h1
  |2,_=>exact c)
def EM.ent(e:EM):Ent:=⟨e.key,e.time,e.seq,[],e.met⟩
def K6{e f:EM}{x y:Ent}(h:ER w e x)(k:ER w f y):Fw e.ent f.ent=Fw x y:=by
 unfold Fw ltP Er EM.ent;simp only[h.key,h.time,h.seq,k.key,k.time,k.seq]
attribute [local go_sem ↓] Go.wp_at_zero Go.wp_at_succ
theorem SS(e f:EM)(w:ϟ):
 χ 272 #[e.val,f.val] w (ψ w (.int .i64 (Fw e.ent f.ent))):=by
 have c:ϡ (AY [Lib.compareBytes e.key.data.toList f.key.data.toList,CN e.time f.time,CN e.seq f.seq]=Fw e.ent f.ent):=Ki e.ent f.ent;obtain⟨d,k,h,⟨m,r,t⟩,x⟩:=e;obtain⟨g,l,j,⟨q,s,u⟩,y⟩:=f;rw[<-c.o];clear c;unfold EM.val hdV;dsimp only;go_enter func272,ntmps272;go_wp2
 go_region_held3 (λw'=>Ϙ w' w (.string d) (.int .i64 k) (.int .i64 h) (ϗ w' (w+1) (.string g) (.int .i64 l) (.int .i64 j))) (go_keep)
  (first
   |(go_at_call 263;refine(Kt _ _ _).mono ?_;rintro e w' ⟨rfl,rfl⟩)
   |(go_at_call 283;refine(Ks _ _ _).mono ?_;rintro e w' ⟨rfl,rfl⟩)
   |(go_at_call 293;refine(or3 _ (Lib.compareBytes d.data.toList g.data.toList) (CN k l) (CN h j) _ ?_ ?_ ?_).mono ?_;(go_simp);(go_simp);(go_simp);rintro e w' ⟨rfl,rfl⟩))
 all_goals
  go_wp2;go_ret;refine⟨rfl,?_⟩
  repeat (first|exact bR|apply KD|(refine DH ?_ Ϫ _))
def IK(e:EM)(w:ϟ):
 χ 275 #[e.val] w (ψ w (.agg #[.string e.key,.int .i64 e.time,.int .i64 e.seq])):=by
 obtain⟨c,f,d,⟨g,h,j⟩,k⟩:=e;unfold EM.val hdV;dsimp only;go_enter func275,ntmps275;go_wp2;refine CD (v:=.agg #[.string c,.int .i64 f,.int .i64 d]) (by simp[results,results275,go_sem]) rfl ⟨rfl,?_⟩
 repeat (first|exact bR|apply KD|(refine KZ ?_ ϥ _)|(refine DH ?_ Ϫ _))
def isKey(k:ByteArray):Prop:=∃r,rowOk r/\encR r=k.data.toList
structure wfE(x:Ent):Prop where
 key:x.key.size<=maxLen
 row:B8 x.row
 len:ϲ x.row<=ύ
def EK(x:Ent):Prop:=isKey x.key/\Aq x.row=0/\tm.Br x.time=true/\0<=x.seq/\x.seq<=1099511627776
noncomputable def Du(x:Ent):Bool:=@decide (EK x) (Classical.propDecidable _)
def Ge{x:Ent}(h:EK x):Du x=true:=by unfold Du;exact @decide_eq_true _ (Classical.propDecidable _) h
def NO{x:Ent}(h:¬EK x):Du x=false:=by unfold Du;exact @decide_eq_false _ (Classical.propDecidable _) h
def Me{x:Ent}:Du x=true↔EK x:=by
 by_cases h:EK x
 ·simp[Ge h,h]
 ·simp[NO h,h]
def Abf{k:ByteArray}(h:¬isKey k):IW k.data.toList:=λr c e=>h ⟨r,c,e⟩
theorem IL(e:EM)(x:Ent)(w:ϟ)(h:ER w e x)(hw:wfE x):
 χ 271 #[e.val] w (ψ w (.bool (Du x))):=by
 obtain⟨f,m,l,⟨C,b1,E⟩,I⟩:=e;obtain⟨h1,h2,h3,h4,h5,L⟩:=h;obtain⟨xk,xt,xs,q,xm⟩:=x;obtain⟨c,Y,Z⟩:=hw;dsimp only at h1 h2 h3 h4 h5 L c Y Z;subst h1 h2 h3 h4 h5;obtain⟨R,G⟩:=nM (Du ⟨f,m,l,q,I⟩);have ag:ϡ (EK ⟨f,m,l,q,I⟩->true=R):=λh=>by rw[<-G,Ge h]
 have u:ϡ (¬EK ⟨f,m,l,q,I⟩->false=R):=λh=>by rw[<-G,NO h]
 have A:=hIz (λ(c:ϟ) (N:Ϣ w c)=>J2 C E q c (vl.Ac L N) Y Z);rw[G];obtain⟨ke,T⟩:=nM (Aq q);obtain⟨ks,ae⟩:=nM (FY q);rw[T,ae]at A;have aa:=hV0 T;obtain⟨n,U⟩:=nM (ϲ q);rw[U]at A;unfold EM.val hdV;dsimp only;rw[U];clear G T ae U L Y Z;have ac:Ϣ w (ϊ w (φ f m l C n E I) 166):=Ϯ;by_cases H:isKey f
 ·obtain⟨J,V,O⟩:=H;have z:ϡ (∀c,CT 145 #[.string f] c λe w'=>(∃D F,e= .returned (.tuple #[.slice D (ϲ J) F,.int .i64 0]))/\Ϣ c w'):=λX=>(UE f J X c V O).mono (λe w' ⟨⟨D,F,he,_⟩,N⟩=>⟨⟨D,F,he⟩,N⟩);have HK:ϡ (isKey f):=⟨J,V,O⟩;obtain⟨rl,af⟩:=nM (ϲ J);rw[af]at z;clear O V af;go_enter func271,ntmps271;go_wp2_with fail;refine(z.o _).mono ?_;rintro e t ⟨⟨D,F,rfl⟩,g⟩;have c0:Δ t w 0 (.string f):=by rw[g.cell (p:=⟨w,0,none⟩) ϥ];go_simp
  have ab:Δ t w 1 (.int .i64 m):=by rw[g.cell (p:=⟨w,1,none⟩) ϥ];go_simp
  have c2:Δ t w 2 (.int .i64 l):=by rw[g.cell (p:=⟨w,2,none⟩) ϥ];go_simp
  have c3:Δ t w 3 (.slice C n E):=by rw[g.cell (p:=⟨w,3,none⟩) ϥ];go_simp
  have y:=bT ac g;clear g;go_wp2_with fail;refine(A.o _ y).mono ?_;rintro e wb ⟨rfl,s⟩;have d1:=cLz s ab;have d2:=cLz s c2;have j:=bT y s;clear s c0 ab c2 c3;by_cases K:ke=0
  ·subst K;have r:=hIz (λ(c:ϟ)=>tm.Dn m c)
   cases hf:tm.Br m with
   |false=>
    have d:ϡ (false=R):=u.o (λh=>by have:=h.2.2.1;rw[hf]at this;cases this);rw[hf]at r;go_wp2_with (go_at_call 197;refine(r.o _).mono ?_;rintro e w' ⟨rfl,k⟩;subst k);go_ret;exact⟨Aa d.o,j⟩
   |true=>
    rw[hf]at r;by_cases s0:0<=l
    ·by_cases s2:l<=1099511627776
     ·have d:ϡ (true=R):=ag.o ⟨HK.o,aa.o,hf,s0,s2⟩;go_wp2_with (go_at_call 197;refine(r.o _).mono ?_;rintro e w' ⟨rfl,k⟩;subst k);go_ret;exact⟨Aa d.o,j⟩
     ·have d:ϡ (false=R):=u.o (λh=>s2 h.2.2.2.2);go_wp2_with (go_at_call 197;refine(r.o _).mono ?_;rintro e w' ⟨rfl,k⟩;subst k);go_ret;exact⟨Aa (by rw[<-d.o];exact BP ϣ),j⟩
    ·have d:ϡ (false=R):=u.o (λh=>s0 h.2.2.2.1);go_wp2_with (go_at_call 197;refine(r.o _).mono ?_;rintro e w' ⟨rfl,k⟩;subst k);go_ret;exact⟨Aa d.o,j⟩
  ·have ah:(ke==0)=false:=by simpa using K
   have d:ϡ (false=R):=u.o (λh=>K (by rw[<-aa.o];exact h.2.1));go_wp2;go_ret;exact⟨Aa d.o,j⟩
 ·have z:ϡ (∀c,CT 145 #[.string f] c (ψ c (.tuple #[.slice none 0 0,.int .i64 1]))):=λX=>Afo f X c (Abf H);have d:ϡ (false=R):=u.o (λh=>H h.1);clear H;go_enter func271,ntmps271;go_wp2_with fail;refine(z.o _).mono ?_;rintro e t ⟨rfl,g⟩;have c3:Δ t w 3 (.slice C n E):=by rw[g.cell (p:=⟨w,3,none⟩) ϥ];go_simp
  have y:=bT ac g;clear g;go_wp2_with fail;refine(A.o _ y).mono ?_;rintro e wb ⟨rfl,s⟩;have j:=bT y s;go_wp2;go_ret;exact⟨Aa d.o,j⟩
attribute [local go_sem] Oper.semAt_some
variable {W w w' : ϟ} {B n : Nat}
structure Buf where
 lim:Int
 mem:List Ent
 runs:List (List Ent)
structure BX where
 ra:Option Addr
 rc:Nat
 m:Part
 rs:List Part
def Bh(b:Buf)(x:BX):Value:=.agg #[.int .i64 b.lim,hdV x.m.1,.slice x.ra (ϲ x.rs) x.rc]
structure bufAt(w:World)(b:Buf)(x:BX):Prop where
 hds:Gj w x.ra (x.rs.map (·.1))
 len:∀p∈x.m::x.rs,p.1.2.1=ϲ p.2/\(ϲ p.2)<=ύ
 ems:∀p∈x.m::x.rs,Cn w p.1.1 p.2
 few:ϲ x.rs<=ύ
 mem:ERs w x.m.2 b.mem
 rlen:ϲ x.rs=ϲ b.runs
 runs:∀i,i<ϲ b.runs->ERs w (x.rs.getD i ϰ).2 (b.runs.getD i ϰ)
def IM{a:Ϡ}{l:List Hdr}(h:Gj w a l)(c:Ϣ w w'):Gj w' a l:=λi d=>by
 obtain⟨b,o,e,x⟩:=h i d;exact⟨b,o,e,cLz c x⟩
def Ao{b:Buf}{x:BX}(h:bufAt w b x)(c:Ϣ w w'):bufAt w' b x:=
 ⟨IM h.hds c,h.len,λp e=>Ch (h.ems p e) c,h.few,h.mem.below c,h.rlen,λi d=>(h.runs i d).below c⟩
def partsB(b:Buf):List (List Ent):=b.mem::b.runs
def Ab(b:Buf):List Ent:=(partsB b).flatten
theorem SU{w:ϟ}:∀{p:List Part} {l:List (List Ent)},ϲ p=ϲ l->(∀i,i<ϲ l->ERs w (p.getD i ϰ).2 (l.getD i ϰ))->ERs w (ems p) l.flatten
 |[],[],_,_=>AdL w
 |[],_::_,h,_=>by cases h
 |_::_,[],h,_=>by cases h
 |p::ps,x::xs,h,k=>by
  have c:=k 0 ϥ;have d:=SU (p:=ps) (l:=xs) (by simpa using h) (λi e=>by have:=k (i+1) (by simpa using e);simpa using this);exact AdM (by simpa using c) d
theorem EC{b:Buf}{x:BX}(h:bufAt w b x):ERs w (ems (x.m::x.rs)) (Ab b):=
 SU (by simp[partsB,h.rlen]) (λi c=>by
  cases i with
  |zero=>exact h.mem
  |succ i=>
   have d:i<ϲ b.runs:=by simpa[partsB]using c
   simpa[partsB]using h.runs i d)
def AfV{b:Buf}{x:BX}(h:bufAt w b x)(h0:Δ w B 0 (.int .i64 b.lim))(h1:Δ w B 1 (hdV x.m.1))(c:Δ w B 2 (.slice x.ra (ϲ x.rs) x.rc)):boxAt w B b.lim x.ra x.rc x.m x.rs:=
 ⟨h0,h1,c,h.hds,h.len,h.ems,h.few⟩
def Dy{W':ϟ}{c:Option Nat}(h:Below n w W)(g:n<=w.heap.size)(d:n<=B)(f:W.grownBy W' c)(j:∀r,c=some r->B<=r/\∃x:Obj,W.heap[r]? =some x/\x.isCells=false):Below n w W':=
 h.grown f (B0 g h.size) (λr e=>B0 d (j r e).1)
def CI{D:Nat}{o:Obj}(h:Below n w W)(f:n<=D)(d:W.heap[D]? =some o)(c:Obj):Below n w (W.putObj D c):=
 h.trans ⟨rfl,rfl,rfl,ϥ,λk e=>Ts ϣ⟩
def Vr(B:Nat):Nat->Obj->Prop:=λb _=>b≠B
def Qj{b:Nat}(h:b≠B):names (Vr B) W b:=λ_ _=>h
def AdN(W:ϟ)(o:Nat)(v:Value):Aw (Vr B) W (ό W B o v):=λb x c _ d=>(CB W ⟨B,o,none⟩ b v d).trans c
def Kj{V:ϟ}{b:Buf}{x:BX}(h:bufAt w b x)(k:Ϣ w V)(c:Nat)(Pr:Nat->Obj->Prop)(h1:Δ V c 1 (hdV x.m.1))(f:Δ V c 2 (.slice x.ra (ϲ x.rs) x.rc))(g:names Pr V c)(j:∀a,0<ϲ x.rs->x.ra=some a->names Pr V a.block):
 Acy prog 268 #[ω c] ((x.m::x.rs).map λp=>#[hdV p.1]) (Aw Pr) V:=by
 have d:ϲ (x.rs.map (·.1))=ϲ x.rs:=lMp ..;have:=NJ c 0 x.m.1 x.ra x.rc (x.rs.map (·.1)) Pr V (by rw[d];exact h.few) h1 (by rw[d];exact f) (IM h.hds k) g (λa e ha=>j a (by rw[d]at e;exact e) ha);rw[show((x.m::x.rs).map λp=>#[hdV p.1])=((x.m.1::x.rs.map (·.1)).map λh=>#[hdV h]) by simp];exact this
def Af9{b:Buf}{x:BX}(h:bufAt w b x){a:Addr}(h0:0<ϲ x.rs)(ha:x.ra=some a):a.block<w.heap.size:=by
 obtain⟨c,o,e,y⟩:=h.hds 0 (by simpa using h0);rw[ha]at e;cases e;exact bLt _ _ y
def AdO(p:List Part)(i:Nat):GH p i<=ϲ (ems p):=by
 have h:ems p=ems (p.take i)++ems (p.drop i):=by rw[<-Rk,PP]
 unfold GH;rw[h,lAp];omega
theorem NP(b:Buf)(x:BX)(w:ϟ)(h:bufAt w b x)(d:ϲ (Ab b)<=4611686018427387904):
 χ 232 #[Bh b x] w (ψ w (.int .i64 (ϲ (Ab b)))):=by
 have U:=hV0 h;obtain⟨N,Z⟩:=nM (ϲ (Ab b));have C:ϡ (GH (x.m::x.rs) (ϲ (x.m::x.rs))=N):=by show _=_;rw[NL,(EC h).1,Z]
 rw[Z]at d⊢;clear Z h;obtain⟨I,J,⟨⟨t,y,A⟩,ml⟩,rs⟩:=x;obtain⟨T,ao,ap⟩:=b;unfold Bh hdV;dsimp only at C⊢;obtain⟨n,hn⟩:∃n,ϲ rs=n:=⟨_,rfl⟩;have HN:=hV0 hn;rw[hn];clear hn;refine(DM (n:=0)).1 ?_;refine bH func232 rfl trivial ?_ rfl;simp only[ntmps232,St,DP,NS,Nat.reduceAdd,Nat.reduceSub,aU,aV,aW,aX,JV,KY]
 gi_wp2_with (refine⟨trivial,rfl,?_⟩;gi_at_call 233;refine(DM.2 (Jv _ _ _ rfl rfl rfl _)).mono ?_;rintro e w' ⟨rfl,rfl⟩)
 generalize f:((((w.alloc (.cells (τ T t y A I n J) 36)).alloc (.cells #[.int .i64 0] 3)).alloc (.cells (τ T t y A I n J) 36)))=V at *;have V0:Δ V (w+1) 0 (.int .i64 0):=by subst f;go_simp
 have V1:Ξ V (w+1) 0:=by subst f;go_simp
 have V2:Δ V (w+1+1) 1 (.slice t y A):=by subst f;go_simp
 have V3:Δ V (w+1+1) 2 (.slice I n J):=by subst f;go_simp
 have V4:Ϣ w V:=by
  subst f
  repeat (first|exact bR|(refine DH ?_ Ϫ _))
 have V5:V.heap.size=w.heap.size+1+1+1:=by subst f;simp
 clear f;have ab:=Kj U.o V4 (w.heap.size+1+1) (Vr (w.heap.size+1)) V2 (by rw[HN.o];exact V3) (Qj ϣ) (λa h0 ha=>Qj (by have:=Af9 U.o h0 ha;omega));obtain⟨P,hP⟩:∃z:List Part,(((t,y,A),ml)::rs)=z:=⟨_,rfl⟩;dsimp only at ab;rw[hP]at ab C;have ag:ϡ (∀p∈P,p.1.2.1=ϲ p.2/\(ϲ p.2)<=ύ):=λp hp=>U.o.len p (by rw[<-hP]at hp;exact hp);clear hP;refine DF (gf:=268) (lb:=#[.pointer (some ⟨w+1+1,0,none⟩)]) rfl (IB func268 Ϧ rfl) ab bR (λx g=>by obtain⟨p,_,rfl⟩:=DS.1 g;rfl) (λh k=>Aw.trans h k) (λW l o o' _ h ho=>Aw.put W l o o' h ho)
  (λi X=>Δ X (w+1) 0 (.int .i64 (GH P i))/\Ξ X (w+1) 0/\Ϣ w X) (λc X=>False)
  (λi X X' af d G H=>⟨Do d.1 G (λr e=>(H r e).2),(aY d.1 G (λr e=>(H r e).2)).trans d.2.1,Dy d.2.2 nR ϣ G H⟩)
  (λc X X' af d G H=>d)
  ⟨V0,V1,V4⟩
  (λi Y X=>Y={tmps:=#[.agg #[.int .i64 T,.slice t y A,.slice I n J],.pointer (some ⟨w,0,none⟩),.int .i64 0,.pointer (some ⟨w+1,0,none⟩),hdV (P.getD i ϰ).1,.agg #[.int .i64 T,.slice t y A,.slice I n J],.func (.func 268) #[] #[.pointer (some ⟨w+1+1,0,none⟩)],hdV (P.getD i ϰ).1,undef,undef,undef,undef,undef],defers:=[]})
  (λi Y u X X' af d G H=>d) ?assign ?body ?done ?stop
 case assign=>
  intro l' k x X K g m j;obtain⟨hk,L⟩:=JT.1 g;rw[lMp]at hk;rw[aP]at L;subst L;have F:P.getD k ϰ=P[k]:=by rw[gDe,gEe hk];rfl
  have E:=λW' h1 h2 h3=>j _ W' h1 h2 h3 rfl;rw[F]at E;clear j F g;obtain⟨⟨⟨z1,z2,z3⟩,zl⟩,hz⟩:∃z,P[k]=z:=⟨_,rfl⟩;rw[hz]at E⊢;unfold hdV at E⊢;dsimp only at E⊢
  gi_wp2
  exact E X (cV _ _) (Aw.refl _ _) m
 case body=>
  intro l' i x Y X g al am ah ae;obtain⟨R,i2,i3⟩:=ah;obtain⟨m,L⟩:=JT.1 g;rw[lMp]at m;have F:P.getD i ϰ=P[i]:=by rw[gDe,gEe m];rfl
  rw[F]at ae;subst ae;have ac:=ag.o P[i] (GE m);have s:GH P (i+1)=GH P i+ϲ (P[i]).2:=Qh m;have ai:GH P (i+1)<=N:=by have:=AdO P (i+1);rw[NL]at C;have h2:=C.o;omega
  clear g L F;obtain⟨⟨⟨z1,z2,z3⟩,zl⟩,hz⟩:∃z,P[i]=z:=⟨_,rfl⟩;rw[hz]at ac s⊢;dsimp only at ac s⊢;obtain⟨aj,ak⟩:=ac;subst aj;obtain⟨q,hq⟩:∃q,ϲ zl=q:=⟨_,rfl⟩;rw[hq]at s ak;unfold hdV;dsimp only;rw[hq];obtain⟨O,hO⟩:∃O,GH P i=O:=⟨_,rfl⟩;obtain⟨O2,aa⟩:∃O,GH P (i+1)=O:=⟨_,rfl⟩;rw[hO]at R s;rw[aa]at s ai;have ad:ϡ (GH P (i+1)=O2/\O2=O+q):=⟨aa,s⟩;clear hO aa hq;have an:IntKind.i64.wrap ((O:Int)+(q:Int))=(O:Int)+(q:Int):=by rw[RW];omega
  gi_wp2
  refine⟨(Rg _ _ _).from _,AdN _ _ _,?_,by simpa using i2,i3.setCell ϥ _⟩;rw[ad.o.1,ad.o.2];have:=JR X ⟨w+1,0,none⟩ (.int .i64 ((O:Int)+(q:Int))) R;rw[dN];exact this
 case done=>
  rintro D X hD ⟨R,i2,i3⟩ j;rw[lMp,C.o]at R
  gi_wp2
  refine⟨ϥ,.inl ⟨_,_,rfl,RM j,?_⟩⟩;exact⟨_,results_tmp rfl _ _ _,rfl,CI i3 ϣ j _⟩
 case stop=>
  rintro D c X hD h j;exact h.elim
end bf
def Ω(B:bf.Buf)(X:bf.BX):Mmz (#[.int .i64 B.lim,.slice X.m.1.1 X.m.1.2.1 X.m.1.2.2,.slice X.ra (ϲ X.rs) X.rc]:Array Value):=⟨⟩
namespace bf
open vl
variable {P : Program} {md : Region.Mode} {ops : Array Oper} {Q : Exit -> Act -> World -> Prop} {S : World -> Prop} {fuel i n : Nat} {listed : Array Bool} {a : Act} {w : ϟ} {oi : Oper}
def AfA(i:Nat)(d:Option Tmp)(k:ops[i]? =some oi)
 (m:Region.noSelect ops=true) (j:Region.free md ops listed i=true) (l:(Region.ready md ops listed).contains i=true) (e:∀c a w,Q (.panic c) (a.put oi.dst undef) w->Q (.panic c) a w) (g:oi.dst=d)
 (q:Region.wanted oi (yielded ops a.tmps)=false) (f:S w) (h:wpAnyH P md ops Q S fuel (listed.setIfInBounds i true) (a.put d undef) w):wpAnyH P md ops Q S (fuel+1) listed a w:=
 aS k m j l e (dJ ⟨q,rfl⟩) f (by rw[g];exact h)
def AfB{v:Value}(i:Nat)(d:Option Tmp)(k:ops[i]? =some oi)
 (m:Region.noSelect ops=true) (j:Region.free md ops listed i=true) (l:(Region.ready md ops listed).contains i=true) (e:∀c a w,Q (.panic c) (a.put oi.dst v) w->Q (.panic c) a w) (g:oi.dst=d)
 (q:Region.wanted oi (yielded ops a.tmps)=true) (hy:∀w,S w->(execOp a.eval oi).run P w= .ok (.value v) w) (f:S w) (h:wpAnyH P md ops Q S fuel (listed.setIfInBounds i true) (a.put d v) w):wpAnyH P md ops Q S (fuel+1) listed a w:=
 aS k m j l e (dK ⟨q,hy⟩) f (by rw[g];exact h)
def allB(n:Nat)(P:Nat->Bool):Bool:=(List.range n).all P
def AA{P:Nat->Bool}:allB n P=true↔ ∀i,i<n->P i=true:=by simp[allB]
def CK{P:Nat->Bool}(d:i<n)(h:P i=false):allB n P=false:=by
 rcases eK (allB n P)with c|c
 ·have:=AA.1 c i d;rw[h]at this;cases this
 ·exact c
theorem Rl(d:FuncId)(Y:∀C w,(callFunc d C).run prog w= .ok (.enter d C) w)(j:Array Value)(P:Nat->Bool)(a:Ϡ)(cap:Nat)(l:List EM)(w:ϟ)(X:ϲ l<=ύ)(ha:Cn w a l)
 (H:∀i c,i<ϲ l->Ϣ w c->Calls prog d (#[.int .i64 (i:Nat),(l.getD i ϰ).val]++j) c (ψ c (.bool (P i)))):
 χ 269 #[.slice a (ϲ l) cap,.func (.func d) #[] j] w (ψ w (.bool (allB (ϲ l) P))):=by
 have U:ϡ (∀i c,i<ϲ l->Ϣ w c->CT d (#[.int .i64 (i:Nat),(l.getD i ϰ).val]++j) c (ψ c (.bool (P i)))):=H;clear H;obtain⟨n,u⟩:∃n,ϲ l=n:=⟨_,rfl⟩;have A:=hV0 u;rw[u]at X⊢;clear u;go_enter func269,ntmps269;go_wp2
 go_loopw [9] (λi wr=> ∃k:Nat,k<=n/\i= .int .i64 k/\Ϣ w wr/\∀i,i<k->P i=true) (λi _=>n - (intOf i).toNat)
 case atStart=>exact⟨0,At _,rfl,bR,λi m=>absurd m (CA i)⟩
 case round=>
  obtain⟨k,hk,rfl,g,D⟩:=hrel;have y:=hV0 D;clear D;by_cases t:k<n
  ·obtain⟨b,o,e,L,N,O,R,T⟩:=ha k (by rw[A.o];exact t);subst e;obtain⟨G,I,J,x,K⟩:=lk5 g L N O R T;clear L N O R T ha;have i1:=nn0 k;have i2:(k:Int)<(n:Int):=ϣ;have f:ϡ (∀c,Ϣ wr c->CT d (#[.int .i64 (k:Nat),(l.getD k ϰ).val]++j) c (ψ c (.bool (P k)))):=λc V=>U.o k c (by rw[A.o];exact t) (bT g V);obtain⟨⟨Z,et,es,⟨r1,r2,r3⟩,em⟩,F⟩:∃z,l.getD k ϰ=z:=⟨_,rfl⟩;rw[F]at G I J x K f;unfold EM.val hdV at f;unfold hdV at x;dsimp only at G I J x K f;clear F;have E:=g.size
   cases hp:P k with
   |true=>
    rw[hp]at f;go_wp2_with (go_at_fn d;refine(f.o _ Ϯ).mono ?_;rintro e c ⟨rfl,r⟩;have s:=(g.alloc E _).trans (r.mono Ϩ));go_roundw;exact⟨k+1,ϣ,by go_num,s,λi m=>by
     rcases Fm.1 m with h|h
     ·exact y.o i h
     ·rw[h];exact hp⟩
    simp[intOf];omega
   |false=>
    have q:ϡ (allB n P=false):=CK t hp;rw[hp]at f;go_wp2_with (go_at_fn d;refine(f.o _ Ϯ).mono ?_;rintro e c ⟨rfl,r⟩;have s:=(g.alloc E _).trans (r.mono Ϩ));go_ret;exact⟨Aa q.o.symm,s⟩
  ·have q:ϡ (allB n P=true):=AA.2 (λi m=>y.o i ϣ);go_wp2;go_ret;exact⟨Aa q.o.symm,g⟩
theorem Rn(d:FuncId)(J:∀A w,(callFunc d A).run prog w= .ok (.enter d A) w)(j:Array Value)(P:Nat->Bool)(a:Ϡ)(cap:Nat)(l:List Hdr)(w:ϟ)(I:ϲ l<=ύ)(ha:Gj w a l)
 (H:∀i c,i<ϲ l->Ϣ w c->Calls prog d (#[.int .i64 (i:Nat),hdV (l.getD i (none,0,0))]++j) c (ψ c (.bool (P i)))):
 χ 273 #[.slice a (ϲ l) cap,.func (.func d) #[] j] w (ψ w (.bool (allB (ϲ l) P))):=by
 have G:ϡ (∀i c,i<ϲ l->Ϣ w c->CT d (#[.int .i64 (i:Nat),hdV (l.getD i (none,0,0))]++j) c (ψ c (.bool (P i)))):=H;clear H;obtain⟨n,t⟩:∃n,ϲ l=n:=⟨_,rfl⟩;have y:=hV0 t;rw[t]at I⊢;clear t;go_enter func273,ntmps273;go_wp2
 go_loopw [9] (λi wr=> ∃k:Nat,k<=n/\i= .int .i64 k/\Ϣ w wr/\∀i,i<k->P i=true) (λi _=>n - (intOf i).toNat)
 case atStart=>exact⟨0,At _,rfl,bR,λi m=>absurd m (CA i)⟩
 case round=>
  obtain⟨k,K,rfl,g,C⟩:=hrel;have x:=hV0 C;clear C;by_cases s:k<n
  ·obtain⟨b,o,e,F⟩:=ha k (by rw[y.o];exact s);subst e;have u:=cLz g F;clear F ha;have L:=nn0 k;have N:(k:Int)<(n:Int):=ϣ;have f:ϡ (CT d (#[.int .i64 (k:Nat),hdV (l.getD k (none,0,0))]++j) wr (ψ wr (.bool (P k)))):=G.o k wr (by rw[y.o];exact s) g;obtain⟨⟨O,R,T⟩,E⟩:∃z,l.getD k (none,0,0)=z:=⟨_,rfl⟩;rw[E]at u f;unfold hdV at u f;dsimp only at u f;clear E;have D:=g.size
   cases hp:P k with
   |true=>
    rw[hp]at f;go_wp2_with (go_at_fn d;refine f.o.mono ?_;rintro e c ⟨rfl,r⟩);go_roundw;exact⟨k+1,ϣ,by go_num,g.trans (r.mono D),λi m=>by
     rcases Fm.1 m with h|h
     ·exact x.o i h
     ·rw[h];exact hp⟩
    simp[intOf];omega
   |false=>
    have q:ϡ (allB n P=false):=CK s hp;rw[hp]at f;go_wp2_with (go_at_fn d;refine f.o.mono ?_;rintro e c ⟨rfl,r⟩);go_ret;exact⟨Aa q.o.symm,g.trans (r.mono D)⟩
  ·have q:ϡ (allB n P=true):=AA.2 (λi m=>x.o i ϣ);go_wp2;go_ret;exact⟨Aa q.o.symm,g⟩
def Vs(i:Int)(h:Hdr)(w:ϟ):χ 274 #[.int .i64 i,hdV h] w (ψ w (.bool (decide (0<h.2.1)))):=by
 obtain⟨f,d,g⟩:=h;unfold hdV;dsimp only;by_cases e:0<d
 ·have c:ϡ (decide (0<d)=true):=DB e;go_enter func274,ntmps274;go_wp2;go_ret;exact⟨Aa (by rw[c.o]),bR⟩
 ·have c:ϡ (decide (0<d)=false):=BP e;go_enter func274,ntmps274;go_wp2;go_ret;exact⟨Aa (by rw[c.o]),bR⟩
noncomputable def Gk(l:List Ent)(i:Nat):Bool:=Du (l.getD i ϰ)&&(decide (i=0)||decide (ltP (l.getD (i - 1) ϰ) (l.getD i ϰ)))
def YQ{l:List Ent}(h:Du (l.getD i ϰ)=false):Gk l i=false:=by unfold Gk;rw[h];rfl
def Vt{l:List Ent}(h:Du (l.getD 0 ϰ)=true):Gk l 0=true:=by unfold Gk;rw[h];rfl
def Vu{l:List Ent}(h:Du (l.getD i ϰ)=true)(c:i≠0):Gk l i=decide (ltP (l.getD (i - 1) ϰ) (l.getD i ϰ)):=by
 unfold Gk;rw[h,BP c];rfl
theorem YR(a:Ϡ)(cap:Nat)(es:List EM)(l:List Ent)(i:Nat)(L:Nat)(w:ϟ)(hi:i<ϲ l)(hl:ϲ l<=ύ)(hP:Δ w L 0 (.slice a (ϲ l) cap))(ha:Cn w a es)(hr:ERs w es l)(ah:∀x∈l,wfE x):
 χ 270 #[.int .i64 i,(es.getD i ϰ).val,ω L] w (ψ w (.bool (Gk l i))):=by
 have ag:l.getD i ϰ∈l:=by simp[gDe,hi]
 have f:ϡ (∀A,Ϣ w A->CT 271 #[(es.getD i ϰ).val] A (ψ A (.bool (Du (l.getD i ϰ))))):=λA hb=>IL _ _ A ((hr.2 i hi).below hb) (ah _ ag);have lP:L<w.heap.size:=bLt _ _ hP;obtain⟨n,hn⟩:=nM (ϲ l);rw[hn]at hP hl hi;have Y:=hV0 hn;have J:ϡ (Cn w a es/\ERs w es l):=⟨ha,hr⟩;obtain⟨e,he⟩:=nM (es.getD i ϰ);have aj:=hV0 he;rw[he]at f⊢;clear hn ha hr ah ag he;obtain⟨R,hR⟩:=nM (Gk l i);have Z:=hV0 hR;rw[hR];clear hR
 cases hf:Du (l.getD i ϰ)with
 |false=>
  have X:ϡ (false=R):=by show _=_;rw[<-Z.o,YQ hf]
  rw[hf]at f;obtain⟨s,y,u,⟨m,q,r⟩,t⟩:=e;unfold EM.val hdV at f⊢;dsimp only at f⊢;have k:Ϣ w (ϊ w (φ s y u m q r t) 166):=Ϯ;go_enter func270,ntmps270;go_wp2;refine aJ (S:=(λw'=>ϖ w' w (.string s) (.int .i64 y) (.int .i64 u) (.slice m q r) (.bool t))) Ϧ ⟨ϧ,ϧ,ϧ,ϧ,ϧ⟩ (λc=>?_);refine tkz 0 6 c ?_;refine rD 1 λK F=>?_;go_simp;refine(f.o _ k.drew).mono ?_;rintro e w2 ⟨rfl,d⟩;go_wp2_with fail;refine F.out _ _ ⟨cLz d c.1,cLz d c.2.1,cLz d c.2.2.1,cLz d c.2.2.2.1,cLz d c.2.2.2.2⟩ (λc=>?_);clear F K
  try simp only[Act.put,sI,sZ,sSz]
  refine tkz 2 8 c ?_;refine sk 3 9 c ?_;refine sk 4 10 c ?_;refine sk 5 11 c ?_;refine sk 6 12 c ?_;refine sk 7 13 c ?_;refine sk 8 14 c ?_;refine sk 9 15 c ?_;refine sk 10 16 c ?_;refine sk 11 17 c ?_;refine sk 12 18 c ?_;refine sk 13 19 c ?_;refine sk 14 20 c ?_;refine tkz 15 21 c ?_;refine tkz 16 5 c ?_;refine GT Ϧ ?_ _;go_wp2;go_ret;exact⟨Aa X.o,k.drew.trans (d.mono k.drew.size)⟩
 |true=>
  rw[hf]at f;by_cases h0:i=0
  ·subst h0;have X:ϡ (true=R):=by show _=_;rw[<-Z.o,Vt hf]
   obtain⟨s,y,u,⟨m,q,r⟩,t⟩:=e;unfold EM.val hdV at f⊢;dsimp only at f⊢;have k:Ϣ w (ϊ w (φ s y u m q r t) 166):=Ϯ;go_enter func270,ntmps270;go_wp2;refine aJ (S:=(λw'=>ϖ w' w (.string s) (.int .i64 y) (.int .i64 u) (.slice m q r) (.bool t))) Ϧ ⟨ϧ,ϧ,ϧ,ϧ,ϧ⟩ (λc=>?_);refine tkz 0 6 c ?_;refine rD 1 λK F=>?_;go_simp;refine(f.o _ k.drew).mono ?_;rintro e w2 ⟨rfl,d⟩;go_wp2_with fail;refine F.out _ _ ⟨cLz d c.1,cLz d c.2.1,cLz d c.2.2.1,cLz d c.2.2.2.1,cLz d c.2.2.2.2⟩ (λc=>?_);clear F K
   try simp only[Act.put,sI,sZ,sSz]
   refine tkz 2 8 c ?_;refine tkz 3 9 c ?_;refine tkz 4 10 c ?_;refine tkz 5 11 c ?_;refine sk 6 12 c ?_;refine sk 7 13 c ?_;refine sk 8 14 c ?_;refine sk 9 15 c ?_;refine sk 10 16 c ?_;refine sk 11 17 c ?_;refine sk 12 18 c ?_;refine sk 13 19 c ?_;refine tkz 14 20 c ?_;refine tkz 15 21 c ?_;refine tkz 16 5 c ?_;refine GT Ϧ ?_ _;go_wp2;go_ret;exact⟨Aa X.o,k.drew.trans (d.mono k.drew.size)⟩
  ·obtain⟨b,o,ea,G,O,T,H,U⟩:=J.o.1 (i - 1) (by rw[J.o.2.1,Y.o];omega);have E:ϡ (∀A,CT 272 #[(es.getD (i - 1) ϰ).val,e.val] A (ψ A (.int .i64 (Fw (l.getD (i - 1) ϰ) (l.getD i ϰ))))):=λA=>by
    have h1:=J.o.2.2 (i - 1) (by rw[Y.o];omega);have h2:=J.o.2.2 i (by rw[Y.o];omega);rw[aj.o]at h2;have:=SS (es.getD (i - 1) ϰ) e A;rwa[K6 h1 h2]at this
   have aa:decide (Fw (l.getD (i - 1) ϰ) (l.getD i ϰ)<0)=R:=by
    rw[<-Z.o,Vu hf h0];exact decide_eq_decide.2 Ho
   obtain⟨C,hC⟩:=nM (Fw (l.getD (i - 1) ϰ) (l.getD i ϰ));rw[hC]at E aa;subst ea;obtain⟨⟨k2,t2,s2,⟨a2,b2,c2⟩,m2⟩,hz⟩:∃z,es.getD (i - 1) ϰ=z:=⟨_,rfl⟩;rw[hz]at G O T H U E;obtain⟨j,hj⟩:∃j,i=j+1:=⟨i - 1,ϣ⟩;subst hj;have af:j+1 - 1=j:=ϣ;rw[af]at G O T H U;obtain⟨s,y,u,⟨m,q,r⟩,t⟩:=e;unfold EM.val hdV at f E⊢;unfold hdV at H;dsimp only at f E G O T H U⊢;have ai:=hV0 aa;obtain⟨I,N⟩:∃I:Int,((j+1:Nat):Int)=I:=⟨_,rfl⟩;have am:IntKind.i64.wrap (I - 1)=(j:Int):=by rw[<-N,RW];omega
   have an:(I==0)=false:=by rw[<-N];simp;omega
   rw[N];have i1:=nn0 j;have i2:(j:Int)<(n:Int):=ϣ;have lb:b<w.heap.size:=bLt _ _ G;clear hz hC aa h0 af N;have k:Ϣ w (ϊ w (φ s y u m q r t) 166):=Ϯ;go_enter func270,ntmps270;go_wp2;generalize D:(w.alloc (.cells (φ s y u m q r t) 166))=V at *;have b0:Δ V w 0 (.string s):=by subst D;go_simp
   have ab:Δ V w 1 (.int .i64 y):=by subst D;go_simp
   have ac:Δ V w 2 (.int .i64 u):=by subst D;go_simp
   have ad:Δ V w 3 (.slice m q r):=by subst D;go_simp
   have ae:Δ V w 4 (.bool t):=by subst D;go_simp
   obtain⟨p0,y1,y2,y3,y4,y5⟩:=lk6 k hP G O T H U;clear D
   go_region_held3 (λw'=>ϕ w' w (.string s) (.int .i64 y) (.int .i64 u) (.slice m q r) (.bool t) (Δ w' L 0 (.slice (some ⟨b,o,none⟩) n cap)/\ϒ w' b (o+j * 5) (.string k2) (.int .i64 t2) (.int .i64 s2) (.slice a2 b2 c2) (.bool m2)))
    (first|go_keep|exact⟨cLz g b0,cLz g ab,cLz g ac,cLz g ad,cLz g ae,cLz g p0,cLz g y1,cLz g y2,cLz g y3,cLz g y4,cLz g y5⟩|exact⟨cLz h b0,cLz h ab,cLz h ac,cLz h ad,cLz h ae,cLz h p0,cLz h y1,cLz h y2,cLz h y3,cLz h y4,cLz h y5⟩)
    (first
     |(go_at_call 271;refine(f.o V.drew k.drew).mono ?_;rintro e wA ⟨rfl,ak⟩;have g:Ϣ V wA:=bR.drew.trans ak)
     |(go_at_call 272;refine(E.o wA).mono ?_;rintro e wF ⟨rfl,al⟩;have h:Ϣ V wF:=bT g al))
   all_goals
    go_wp2;go_ret;exact⟨Aa ai.o,bT k h⟩
end bf
namespace bf
variable {W : ϟ} {M : Nat}
abbrev Plc:=ByteArray×Int×Int
def BM(p:Plc):Value:=.agg #[.string p.1,.int .i64 p.2.1,.int .i64 p.2.2]
def bytes_beq(a b:ByteArray):(a.toList==b.toList)=decide (a=b):=by
 by_cases h:a=b
 ·subst h;simp
 ·rw[BP h,K5];intro e;exact h (bN (dX (by rwa[aF,aF]at e)))
theorem Vv(a b:Plc)(w:ϟ):(Op.equal 340 (BM a) (BM b)).run prog w= .ok (decide (a=b)) w:=by
 obtain⟨c,k,g⟩:=a;obtain⟨d,l,j⟩:=b;show(Op.equalIn 10000 340 (BM (c,k,g)) (BM (d,l,j))).run prog w=_;unfold BM;have h:(binOp .eql 340 (.agg #[.string c,.int .i64 k,.int .i64 g]) (.agg #[.string d,.int .i64 l,.int .i64 j])).run prog w= .ok (.bool (decide ((c,k,g)=(d,l,j)))) w:=by
  by_cases f:c.toList=d.toList
  ·have q:c=d:=by have:=bytes_beq c d;rw[f]at this;simpa using this.symm
   subst q;by_cases m:k=l
   ·subst m;by_cases r:g=j
    ·subst r;go_simp
    ·have t:(g==j)=false:=by simpa using r
     go_simp
   ·have s:(k==l)=false:=by simpa using m
    go_simp
  ·have q:c≠d:=λe=>f (by rw[e]);go_simp
 rw[run_eql_struct]at h
 cases hh:(Op.equalIn 10000 340 (.agg #[.string c,.int .i64 k,.int .i64 g]) (.agg #[.string d,.int .i64 l,.int .i64 j])).run prog w with
 |ok b w'=>
  rw[hh]at h;simp only[Result.andThen]at h;injection h with f m
  injection f with f
  rw[f,m]
 |_=>rw[hh]at h;simp[Result.andThen]at h
structure wfP(a:Plc):Prop where
 key:a.1.size<=maxLen
 time: -9223372036854775808<=a.2.1/\a.2.1<=9223372036854775807
 seq: -9223372036854775808<=a.2.2/\a.2.2<=9223372036854775807
def Ro{n:Int}(h: -9223372036854775808<=n/\n<=9223372036854775807):(Lit.int .i64 n).wf=true:=by
 show(decide (IntKind.i64.min<=n)&&decide (n<=IntKind.i64.max))=true;have c:IntKind.i64.min= -9223372036854775808:=Ϥ;have d:IntKind.i64.max=9223372036854775807:=Ϥ;rw[c,d,DB h.1,DB h.2];rfl
def Vw(a b c:Value):prog.keyLits 3 340 [a,b,c]=([prog.keyLits 2 9 [a],prog.keyLits 2 3 [b],prog.keyLits 2 3 [c]].mapM id).map List.flatten:=Ϧ
def Abg(k:ByteArray)(h:k.size<=maxLen):prog.keyLits 2 9 [.string k]=some [.string k.data.toList]:=by
 have e:prog.keyLits 2 9 [.string k]=if k.size<=maxLen then some [.string k.data.toList]else none:=by
  unfold Program.keyLits;rw[underlying9]
 rw[e,AE h]
def SV(n:Int)(h:(Lit.int .i64 n).wf=true):prog.keyLits 2 3 [.int .i64 n]=some [.int .i64 n]:=by
 have e:prog.keyLits 2 3 [.int .i64 n]=if IntKind.i64=IntKind.i64/\(Lit.int .i64 n).wf=true then some [.int .i64 n]else none:=by
  unfold Program.keyLits;rw[underlying3]
 rw[e,AE ⟨rfl,h⟩]
def Jy(c:Bool)(a:Plc)(w:ϟ)(h:wfP a):(Instr.checkKey c 10000 340 (BM a)).run prog w= .ok () w:=by
 have:=run_checkKey_deep (P:=prog) c 9997 3 340 Ϧ w 3 (BM a) [.string a.1.data.toList,.int .i64 a.2.1,.int .i64 a.2.2] Ϧ (by
  show prog.keyLits 3 340 [.string a.1,.int .i64 a.2.1,.int .i64 a.2.2]=_;rw[Vw,Abg _ h.key,SV _ (Ro h.time),SV _ (Ro h.seq)];rfl)
 exact this
section
variable {p : Plc} {w : ϟ}
theorem Mf:∀(es:List MapEntry) (i:Nat),(∀e∈es,∃q,e.key=BM q/\q≠p)->(Instr.findAsking 340 (BM p) es i).run prog w= .ok none w
 |[],i,_=>by simp[Instr.findAsking]
 |e::es,i,h=>by
  obtain⟨q,f,d⟩:=h e (E0 ..);have j:=Mf es (i+1) (λx g=>h x (EQ _ g));have c:decide (p=q)=false:=BP (λh=>d h.symm);simp only[Instr.findAsking,bC,f,Vv,bD,c,dE,bK];exact j
theorem Mg{e:MapEntry}(c:e.key=BM p)(B:List MapEntry):∀(A:List MapEntry) (i:Nat),(∀e∈A,∃q,e.key=BM q/\q≠p)->(Instr.findAsking 340 (BM p) (A++e::B) i).run prog w= .ok (some (i+ϲ A,e.val)) w
 |[],i,_=>by
  simp only[JV,Instr.findAsking,bC,c,Vv,bD,decide_true,bE];simp
 |x::A,i,h=>by
  obtain⟨q,g,f⟩:=h x (E0 ..);have k:=Mg c B A (i+1) (λx j=>h x (EQ _ j));have d:decide (p=q)=false:=BP (λh=>f h.symm);simp only[KY,Instr.findAsking,bC,g,Vv,bD,d,dE,bK];rw[k,DP]
  congr 3
  omega
theorem K7(es:List MapEntry):(Instr.findKey 340 (BM p) es).run prog w=(Instr.findAsking 340 (BM p) es 0).run prog w:=by
 unfold Instr.findKey;simp only[bC,aC underlying340,bD]
 cases es with
 |nil=>simp[Instr.findNow,Instr.findAsking]
 |cons e es=>
  have h:∀c,Instr.findNow (.struct c) (BM p) (e::es) 0=none:=λc=>by
   simp[Instr.findNow,Instr.sameNow]
  rw[h]
variable {M clock : Nat} {es : Array MapEntry}
def K8(h:w.heap[M]? =some (.map es clock)):(getObj M).run prog w= .ok (.map es clock) w:=by simp[getObj,Sem.run,h]
def Rp(c:Obj)(h:w.heap[M]? =some (.map es clock)):(setObj M c).run prog w= .ok () (w.putObj M c):=by simp[setObj,Sem.run,h,World.putObj]
def AfC(w:ϟ):(zeroValue 3).run prog w= .ok (.int .i64 0) w:=Tryz.zeroValue3 w
def YT(c:w.heap[M]? =some (.map es clock))(f:wfP p)(d:∀e∈es.toList,∃q,e.key=BM q/\q≠p):
 (Instr.lookup 338 (.map (some M)) (BM p) false).run prog w= .ok (.int .i64 0) w:=by
 unfold Instr.lookup;simp only[bC,aC underlying338,bD,K8 c,dA,Jy _ p w f,K7,Mf _ _ d,AfC,dE,bK]
def Hp{A B:List MapEntry}{e:MapEntry}(d:w.heap[M]? =some (.map (A++e::B).toArray clock))(g:wfP p)(f:∀e∈A,∃q,e.key=BM q/\q≠p)(c:e.key=BM p):
 (Instr.lookup 338 (.map (some M)) (BM p) false).run prog w= .ok e.val w:=by
 unfold Instr.lookup;simp only[bC,aC underlying338,bD,K8 d,dA,Jy _ p w g,K7,Mg c B A 0 f,dE,bK]
def Vx(c:w.heap[M]? =some (.map es clock))(f:wfP p)(d:∀e∈es.toList,∃q,e.key=BM q/\q≠p):
 (Instr.mapEntry 338 (.map (some M)) (BM p)).run prog w= .ok (.tuple #[.int .i64 0,.int .i64 clock]) (w.putObj M (.map (es.push ⟨BM p,.int .i64 0,clock⟩) (clock+1))):=by
 unfold Instr.mapEntry;simp only[bC,aC underlying338,bD,K8 c,dA,Jy _ p w f,K7,Mf _ _ d,AfC,Rp _ c,goInt]
def YU:(Instr.sameBits 10000 (BM p) (BM p))=true:=by
 have c:(p.1==p.1)=true:=by
  obtain⟨⟨⟨x⟩⟩,t⟩:=p;show((⟨x⟩:Array UInt8)==⟨x⟩)=true;simp
 unfold BM;simp[Instr.sameBits,c]
theorem Vy{A B:List MapEntry}{e:MapEntry}(d:w.heap[M]? =some (.map (A++e::B).toArray clock))(k:wfP p)(j:∀e∈A,∃q,e.key=BM q/\q≠p)(c:e.key=BM p):
 (Instr.mapEntry 338 (.map (some M)) (BM p)).run prog w= .ok (.tuple #[e.val,.int .i64 e.born]) (w.putObj M (.map (A++e::B).toArray clock)):=by
 have f:(A++e::B).toArray[0+ϲ A]? =some e:=ϥ;have g:((A++e::B).toArray.modify (0+ϲ A) λx=>{x with key:=BM p})=(A++e::B).toArray:=by
  refine eZ ϥ (λi l m=>?_);rw[fy];split
  ·rename_i h;subst h;have:(A++e::B).toArray[0+ϲ A]=e:=ϥ;rw[this,<-c]
  ·rfl
 unfold Instr.mapEntry;simp only[bC,aC underlying338,bD,K8 d,dA,Jy _ p w k,K7,Mg c B A 0 j,f,cT,bF,c,Instr.keyThatStays,YU,bE,g,Rp _ d,goInt]
def SX{i:Nat}{v:Value}{c:Int}(d:w.heap[M]? =some (.map es clock))(f:es.findIdx? (λe=>(e.born:Int)==c)=some i):
 (Instr.entryStore 338 (.map (some M)) (.int .i64 c) v).run prog w= .ok () (w.putObj M (.map (es.modify i λe=>{e with val:=v}) clock)):=by
 unfold Instr.entryStore;simp only[bC,bD,K8 d,dA,asInt,asIntOf,f,Rp _ d]
end
def BH:Nat->List Plc->List MapEntry
 |_,[]=>[]
 |i,p::ps=>⟨BM p,.int .i64 1,i⟩::BH (i+1) ps
theorem Kk(i:Nat)(ps c:List Plc):BH i (ps++c)=BH i ps++BH (i+ϲ ps) c:=by
 induction ps generalizing i with
 |nil=>rfl
 |cons p ps ih=>rw[KY,BH,ih,BH,DP,show i+(ϲ ps+1)=i+1+ϲ ps by omega];rfl
theorem Vz(i:Nat)(ps:List Plc):ϲ (BH i ps)=ϲ ps:=by
 induction ps generalizing i with
 |nil=>rfl
 |cons p ps ih=>rw[BH,DP,ih,DP]
theorem Gl{i:Nat}{ps:List Plc}{e:MapEntry}(h:e∈BH i ps):(∃q,q∈ps/\e.key=BM q)/\i<=e.born/\e.born<i+ϲ ps:=by
 induction ps generalizing i with
 |nil=>cases h
 |cons p ps ih=>
  rw[BH]at h;rcases E3.1 h with rfl|h
  ·exact⟨⟨p,E0 ..,rfl⟩,HU _,ϥ⟩
  ·obtain⟨⟨q,d,c⟩,f,g⟩:=ih h;exact⟨⟨q,EQ _ d,c⟩,ϣ,by rw[DP];omega⟩
def DN(W:World)(M:Nat)(ps:List Plc):Prop:=W.heap[M]? =some (.map (BH 0 ps).toArray (ϲ ps))
def Hq{ps:List Plc}(h:DN W M ps):M<W.heap.size:=(GS.1 h).1
def find_born{A B:List MapEntry}{e:MapEntry}{n:Nat}(d:∀x∈A,x.born≠n)(f:e.born=n):(A++e::B).toArray.findIdx? (λx=>(x.born:Int)==(n:Int))=some (ϲ A):=by
 rw[findIdx?_toArray,findIdx?_append];have c:A.findIdx? (λx=>(x.born:Int)==(n:Int))=none:=by
  rw[findIdx?_eq_none_iff];intro x g;have:=d x g;rw[K5];omega
 rw[c];simp[findIdx?_cons,f]
def Qk{A B:List MapEntry}{e:MapEntry}(f:MapEntry->MapEntry):(A++e::B).toArray.modify (ϲ A) f=(A++f e::B).toArray:=by
 refine eZ ϥ (λi d g=>?_);rw[fy];simp only[getElem_toArray];split
 ·rename_i c;subst c;simp
 ·rename_i c;rcases RN i (ϲ A) with h|h
  ·rw[getElem_append_left h,getElem_append_left h]
  ·rw[getElem_append_right h,getElem_append_right h];have:i - ϲ A=(i - ϲ A - 1)+1:=ϣ;simp only[getElem_cons];rw[dif_neg ϣ,dif_neg ϣ]
theorem SY{ps:List Plc}{p:Plc}(h:p∈ps):∃A B,ps=A++p::B/\p ∉ A:=by
 induction ps with
 |nil=>cases h
 |cons q ps ih=>
  by_cases e:q=p
  ·subst e;exact⟨[],ps,rfl,ϥ⟩
  ·obtain⟨A,B,c,d⟩:=ih ((E3.1 h).resolve_left (λk=>e k.symm));exact⟨q::A,B,by rw[c];rfl,λk=>(E3.1 k).elim (λk=>e k.symm) d⟩
theorem AdP{ps:List Plc}{p:Plc}(m:DN W M ps)(t:wfP p)(C:p ∉ ps):∃c d,
 (Instr.lookup 338 (.map (some M)) (BM p) false).run prog W= .ok (.int .i64 0) W/\
 (Instr.mapEntry 338 (.map (some M)) (BM p)).run prog W= .ok (.tuple #[.int .i64 0,.int .i64 (ϲ ps)]) c/\
 (Instr.lookup 338 (.map (some M)) (BM p) false).run prog c= .ok (.int .i64 0) c/\
 (Instr.entryStore 338 (.map (some M)) (.int .i64 (ϲ ps)) (.int .i64 1)).run prog c= .ok () d/\
 DN d M (ps++[p])/\W.grownBy d (some M):=by
 have s:∀e∈BH 0 ps,∃q,e.key=BM q/\q≠p:=λe A=>by
  obtain⟨⟨q,D,f⟩,_⟩:=Gl A;exact⟨q,f,λh=>C (by rw[<-h];exact D)⟩
 have y:=YT m t (by simpa using s);have u:=Vx m t (by simpa using s);obtain⟨c,j⟩:=nM (W.putObj M (.map ((BH 0 ps).toArray.push ⟨BM p,.int .i64 0,ϲ ps⟩) (ϲ ps+1)));rw[j]at u;have r:c.heap[M]? =some (.map (BH 0 ps++(⟨BM p,.int .i64 0,ϲ ps⟩:MapEntry)::[]).toArray (ϲ ps+1)):=by
  rw[<-j,cO (Hq m)];simp
 have z:=Hp r t s rfl;have g:=SX (v:=.int .i64 1) r (find_born (n:=ϲ ps) (λx E=>by have:=(Gl E).2.2;omega) rfl);rw[Qk]at g;obtain⟨d,l⟩:=nM (c.putObj M (.map (BH 0 ps++{(⟨BM p,.int .i64 0,ϲ ps⟩:MapEntry)with val:=.int .i64 1}::[]).toArray (ϲ ps+1)));rw[l]at g;refine⟨c,d,y,u,z,g,?_,?_⟩
 ·show d.heap[M]? =_;rw[<-l,cO (GS.1 r).1,Kk,lAp];simp[BH]
 ·rw[<-l,<-j];exact⟨rfl,rfl,rfl,ϥ,λk _ f=>(Ts (λe=>f (by rw[e]))).trans (Ts (λe=>f (by rw[e])))⟩
theorem AdQ{ps:List Plc}{p:Plc}(y:DN W M ps)(l:wfP p)(I:p∈ps):∃(b:Nat) (c d:ϟ),
 (Instr.lookup 338 (.map (some M)) (BM p) false).run prog W= .ok (.int .i64 1) W/\
 (Instr.mapEntry 338 (.map (some M)) (BM p)).run prog W= .ok (.tuple #[.int .i64 1,.int .i64 b]) c/\
 (Instr.lookup 338 (.map (some M)) (BM p) false).run prog c= .ok (.int .i64 1) c/\
 (Instr.entryStore 338 (.map (some M)) (.int .i64 b) (.int .i64 2)).run prog c= .ok () d/\
 (∀f:World,f.heap[M]? =d.heap[M]? ->(Instr.lookup 338 (.map (some M)) (BM p) false).run prog f= .ok (.int .i64 2) f)/\W.grownBy d (some M):=by
 obtain⟨A,B,rfl,F⟩:∃A B,ps=A++p::B/\p ∉ A:=SY I;have z:W.heap[M]? =some (.map (BH 0 A++(⟨BM p,.int .i64 1,ϲ A⟩:MapEntry)::BH (ϲ A+1) B).toArray (ϲ (A++p::B))):=by
  have:=y;unfold DN at this;rw[Kk,Fr,BH]at this;exact this
 have j:∀e∈BH 0 A,∃q,e.key=BM q/\q≠p:=λe G=>by
  obtain⟨⟨q,J,g⟩,_⟩:=Gl G;exact⟨q,g,λh=>F (by rw[<-h];exact J)⟩
 have C:=Hp z l j rfl;have u:=Vy z l j rfl;obtain⟨c,r⟩:=nM (W.putObj M (.map (BH 0 A++(⟨BM p,.int .i64 1,ϲ A⟩:MapEntry)::BH (ϲ A+1) B).toArray (ϲ (A++p::B))));rw[r]at u;have t:c.heap[M]? =some (.map (BH 0 A++(⟨BM p,.int .i64 1,ϲ A⟩:MapEntry)::BH (ϲ A+1) B).toArray (ϲ (A++p::B))):=by
  rw[<-r,cO (Hq y)]
 have D:=Hp t l j rfl;have L:ϲ (BH 0 A)=ϲ A:=Vz 0 A;have m:=SX (v:=.int .i64 2) t (find_born (n:=ϲ A) (λx K=>by have:=(Gl K).2.2;omega) rfl);rw[Qk]at m;obtain⟨d,s⟩:=nM (c.putObj M (.map (BH 0 A++{(⟨BM p,.int .i64 1,ϲ A⟩:MapEntry)with val:=.int .i64 2}::BH (ϲ A+1) B).toArray (ϲ (A++p::B))));rw[s]at m;refine⟨ϲ A,c,d,C,u,D,m,λf E=>?_,?_⟩
 ·have H:f.heap[M]? =some (.map (BH 0 A++{(⟨BM p,.int .i64 1,ϲ A⟩:MapEntry)with val:=.int .i64 2}::BH (ϲ A+1) B).toArray (ϲ (A++p::B))):=by
   rw[E,<-s,cO (GS.1 t).1]
  exact Hp H l j rfl
 ·rw[<-s,<-r];exact⟨rfl,rfl,rfl,ϥ,λk _ g=>(Ts (λe=>g (by rw[e]))).trans (Ts (λe=>g (by rw[e])))⟩
def Abh{ps:List Plc}{p:Plc}(c:DN W M (ps++[p]))(k:wfP p)(g:p ∉ ps):(Instr.lookup 338 (.map (some M)) (BM p) false).run prog W= .ok (.int .i64 1) W:=by
 have j:∀e∈BH 0 ps,∃q,e.key=BM q/\q≠p:=λe d=>by
  obtain⟨⟨q,l,f⟩,_⟩:=Gl d;exact⟨q,f,λh=>g (by rw[<-h];exact l)⟩
 unfold DN at c;rw[Kk]at c;exact Hp c k j rfl
end bf
