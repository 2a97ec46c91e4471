import Derived.Test.YtfkihidbnfkbaaaGreatDoorPv38
set_option linter.all false
set_option maxHeartbeats 8000000
set_option maxRecDepth 100000
open List renaming length->ϲ
namespace Go.Proofs.YtfkihidbnfkbaaaGreatDoor
open ChangeShapes WideShapes ChangeAt RowKit List Proofs.Tryz
namespace cd
open vl bf bt jn
variable {w : ϟ} {e : Egg} {x : GGX} {b : Nat} {r : List Cel}
def zE:List Value:=[Ϗ,ώ,ώ,Ϗ,ώ,ώ,Ϗ,Ϗ,Ϗ,ώ,ώ]
def RdE(R EB:Nat)(lim:Int)(s:List UInt8)(w:World)(o:Ending)(w':World):Prop:=
 (∃e x st su t,Fv lim e/\s=C0 e++t/\o= .returned (.tuple #[])/\SB w' EB (egC e x)/\x.xs=st.map (·.1)/\OE1 x st su e w' w.heap.size/\RR w' R t/\Below 0 w w'/\∀g,g<w.heap.size->g≠R->g≠EB->w'.heap[g]? =w.heap[g]?)\/(Bad C0 (Fv lim) s/\PAN o/\Ah R w w')
theorem AeO(R p a:Nat)(lim:Int)(s:List UInt8)(w:ϟ)(h:RQ w R s)(J:ϲ s<=2000000)(K:Δ w p 5 (vI lim))(q:SB w a zE)(u:Am w a 42)(y:a≠R):
 χ 34 #[ω R,ω p,ω a] w (RdE R a lim s w):=by
 have E:=hy (Vi R lim s w h J);have j:ϡ (SB w a zE/\Am w a 42):=⟨q,u⟩;clear h q u;go_enter func34,ntmps34;go_wp2_with fail;refine E.o.mono ?_;rintro o c ⟨d,⟨e,t,v,B,rfl,rfl,⟨x,i,m,rfl,C,z⟩,A⟩|⟨I,v,rfl⟩⟩
 rotate_left
 ·exact⟨rfl,.inr ⟨I,⟨_,rfl⟩,d⟩⟩
 have l:c.heap[a]? =w.heap[a]? :=d.2 a j.o.1.lt y;have k:ϡ (SB c a zE/\Am c a 42):=⟨j.o.1.same l d.1.size,A1 j.o.2 l⟩;have f:ϡ (SB (World.setCells c a 0 (egC e x)) a (egC e x)/\OE1 x i m e (World.setCells c a 0 (egC e x)) w.heap.size/\RR (World.setCells c a 0 (egC e x)) R t/\Below 0 w (World.setCells c a 0 (egC e x))/\∀g,g<w.heap.size->g≠R->g≠a->(World.setCells c a 0 (egC e x)).heap[g]? =w.heap[g]?):=
  ⟨SB.sets (egC e x) 0 c zE k.o.1 (by simp[zE,egC]),(I8 x i m e).sets (T:=42) Ϥ _ 0 c z k.o.2,A.sets y _ _,below_setCells (At _) _ 0 _ d.1,λg F G H=>(BA H _ _ _).trans (d.2 g F G)⟩
 have D:ϡ (c.there a 0 11):=k.o.1.there;have n:ϡ (Fv lim e/\x.xs=i.map (·.1)):=⟨B,C⟩;clear B C z A d l;unfold egV egC at *;go_wp2_with ((with_reducible refine Ft ?_ 42 (.tmp 2) (.tmp 7) ?_ a 0 (ζ e.j x.y.l x.y.r [vS x.ga (ϲ e.gs) x.gc,vS x.va (ϲ e.v) x.vc]) ?_ ?_ ?_ ?_ ?_ ?_);exact rfl;exact rfl;exact rfl;exact rfl;exact D.o;exact E9;exact Ϭ)
 go_end0
 exact .inl ⟨e,x,i,m,t,n.o.1,rfl,rfl,f.o.1,n.o.2,f.o.2.1,f.o.2.2.1,f.o.2.2.2⟩
def AeP(q:ByteArray)(i:Nat)(r:List UInt8)(h:r≠[]):ByteArray.toList.loop q i r≠[]:=by
 fun_induction ByteArray.toList.loop q i r
 ·rename_i a;exact a ϥ
 ·simpa using h
theorem QA(q:ByteArray)(h:0<q.size):q.toList.isEmpty=false:=by
 unfold ByteArray.toList;rw[ByteArray.toList.loop,AE h]
 cases e:ByteArray.toList.loop q (0+1) [q.get! 0]with
 |nil=>exact absurd e (AeP q _ _ ϥ)
 |cons a l=>rfl
def ZO(p:Addr)(b:Bool)(u:TypeId)(a:Value)(w:ϟ)(c:w.cell? p=some (.bool b))(f:w.frozen? p=false):
 CallsD prog 74 #[.pointer (some p)] (.panicking [{v:=.iface u a,recovered:=false}]) w λe g h=>e= .returned (.tuple #[])/\g= .panicking [{v:=.iface u a,recovered:=true}]/\h=w.setCell p (.bool false):=by
 refine callsD_of_wpS func74 rfl λj i d=>?_;apply wpS_seq;apply wpS_region;simp[wpOpsS,go_sem,recoverD,d,ntmps74,Exit.thenS];refine wpS_cond (t:=true) (by simp[Act.eval,Array.replicate]) ?_;simp only[bE];apply wpS_region;simp[wpOpsS,go_sem,c,f,bodyPostS,results,results74]
def TRd(EB:Nat)(lim:Int)(s:List UInt8)(w:World)(o:Ending)(w':World):Prop:=
 Ah EB w w'/\((∃e x st su,Fv lim e/\s=C0 e/\o= .returned (.bool true)/\SB w' EB (egC e x)/\x.xs=st.map (·.1)/\OE1 x st su e w' w.heap.size)\/((∀e,Fv lim e->s≠C0 e)/\o= .returned (.bool false)))
theorem ZP(E d:Nat)(lim:Int)(s:List UInt8)(w:ϟ)(he:∃T a,Δ w 1 0 (.iface T a))(hm:ϲ s<=2000000)(X:Δ w E 5 (vI lim))(m:SB w d zE)(Y:Am w d 42):
 χ 33 #[.string ⟨s.toArray⟩,.func (.func 34) #[] #[ω E,ω d]] w (TRd d lim s w):=by
 have af:∀(W:Fn) (first S:Array Value) (w:ϟ),(Instr.makeFunc W first S).run prog w= .ok (.func W first S) w:=λ_ _ _ _=>rfl;have J:ϡ (∀R c,Ϣ w c->RR c R s->w.heap.size<=R->CT 34 #[ω R,ω E,ω d] c (RdE R d lim s c)):=λR c n h1 hR=>by
  obtain⟨T,a,ha⟩:=he;have:=m.lt;have h2:=bLt _ _ ha;exact AeO R E d lim s c ⟨h1,⟨T,a,cLz n ha⟩,λe=>by dsimp only at h2;omega⟩ hm (cLz n X) (m.below n) (Ak Y n) ϣ
 have ae:=m.lt;obtain⟨z,Q⟩:=nM (⟨s.toArray⟩:ByteArray);have HS:=hV0 Q;rw[Q];clear Q X m Y he hm
 go_enter_defers func33,ntmps33
 go_wp2_with fail;generalize K:(World.alloc (World.alloc w _) _)=V;have l:Ϣ w V:=by rw[<-K];exact Ϯ.alloc ϥ _
 have A:ϡ (SB V w.heap.size [ϑ]/\Am V w 4/\RR V (w.heap.size+1) s):=by
  subst K;have e1:=D0 w (.cells #[ϑ] 4);have s1:=SB.new w [ϑ] 4;have t1:=DE w (.cells #[ϑ] 4);have t2:=DE (ϊ w #[ϑ] 4) (.cells #[.string z] 124);rw[e1]at t2;exact⟨s1.below Ϯ,Ak ⟨_,_,t1⟩ Ϯ,⟨by rw[HS.o];go_simp,ϧ,⟨_,_,t2⟩⟩⟩
 have Z:w.heap.size<V.heap.size:=A.o.1.lt;clear K;refine(J.o (w.heap.size+1) V l A.o.2.2 (PS _)).mono ?_;rintro o c (⟨e,x,C,G,t,hx,rfl,rfl,ab,ac,aa,hr,M,k⟩|⟨n,⟨⟨u,pv⟩,rfl⟩,k⟩)
 ·have v:c.heap[w.heap.size]? =V.heap[w.heap.size]? :=k _ Z ϣ ϣ;have p:ϡ (SB c w.heap.size [ϑ]/\Am c w 4):=⟨A.o.1.same v M.size,A1 A.o.2.1 v⟩;have F:=p.o.1.cell 0 _ rfl;have U:=p.o.1.frz 0;have r0:Δ c (w+1) 0 (.string ⟨t.toArray⟩):=hr.cell;have y:ϡ (∀b,(SB (ό c w 0 (.bool b)) d (egC e x)/\OE1 x C G e (ό c w 0 (.bool b)) w.heap.size)/\Ah d w (ό c w 0 (.bool b))/\Δ (ό c w 0 (.bool b)) w 0 (.bool b)):=λb=>
   ⟨⟨ab.same (CB _ _ _ _ ϩ) ϥ,(I8 x C G e).put (T:=4) Ϥ ((I8 x C G e).mono aa l.size) rfl p.o.2⟩,⟨((l.mono (At _)).trans M).setCell (At _) _,λg B m=>(CB _ _ _ _ ϩ).trans ((k g (NE B l.size) ϣ m).trans (l.block g B))⟩,cI _ _ _ (by rw[F];rfl)⟩
  have I:ϡ (Fv lim e/\x.xs=C.map (·.1)):=⟨hx,ac⟩;clear ab hr M k v J aa hx ac;by_cases P:t=[]
  ·subst P;go_wp2;generalize L:(World.setCell c _ _)=W';have i:=hy (y.o true);rw[L]at i;have D:=i.o.2.2;refine gE (f:=74) (args:=#[.pointer (some ⟨w,0,none⟩)]) ϥ (by simp[go_sem]) ?_;refine(To ⟨w,0,none⟩ _).mono ?_;rintro o u' ad ⟨rfl,rfl,rfl⟩;simp[Leaves,settle,results,results33,go_sem,D];exact⟨i.o.2.1,.inl ⟨e,x,C,G,I.o.1,rfl,rfl,i.o.1.1,I.o.2,i.o.1.2⟩⟩
  ·have H:ϡ (∀j,Fv lim j->C0 e++t≠C0 j):=λj N h=>P (MH lim e j t [] I.o.1 N (by rw[Nd];exact h)).2;obtain⟨q,O⟩:∃q,(⟨t.toArray⟩:ByteArray)=q:=⟨_,rfl⟩;have ag:q.toList.isEmpty=false:=QA q (by rw[<-O,size_mk];exact fD.2 P);rw[O]at r0;clear O;go_wp2;generalize L:(World.setCell c _ _)=W';have i:=hy (y.o false);rw[L]at i;have D:=i.o.2.2;refine gE (f:=74) (args:=#[.pointer (some ⟨w,0,none⟩)]) ϥ (by simp[go_sem]) ?_;refine(To ⟨w,0,none⟩ _).mono ?_;rintro o u' ad ⟨rfl,rfl,rfl⟩;simp[Leaves,settle,results,results33,go_sem,D];exact⟨i.o.2.1,.inr ⟨H.o,rfl⟩⟩
 ·have H:ϡ (∀j,Fv lim j->s≠C0 j):=λj N h=>n j [] N (by rw[Nd];exact h);have v:c.heap[w.heap.size]? =V.heap[w.heap.size]? :=k.2 _ Z ϣ;have p:ϡ (SB c w.heap.size [ϑ]):=A.o.1.same v k.1.size;have F:=p.o.cell 0 _ rfl;have U:=p.o.frz 0;have y:ϡ (Ah d w (ό c w 0 (.bool false))/\Δ (ό c w 0 (.bool false)) w 0 (.bool false)):=
   ⟨⟨((l.mono (At _)).trans k.1).setCell (At _) _,λg B m=>(CB _ _ _ _ ϩ).trans ((k.2 g (NE B l.size) ϣ).trans (l.block g B))⟩,cI _ _ _ (by rw[F];rfl)⟩
  clear n k v J;have D:=y.o.2;refine gE (f:=74) (args:=#[.pointer (some ⟨w,0,none⟩)]) ϥ (by simp[go_sem]) ?_;refine(ZO ⟨w,0,none⟩ false u pv _ F U).mono ?_;rintro o u' ad ⟨rfl,rfl,rfl⟩;simp[Leaves,settle,results,results33,go_sem,D];exact⟨y.o.1,.inr ⟨H.o,rfl⟩⟩
structure eggAt(w:World)(e:Egg)(x:GGX):Prop where
 j:joinAt w e.j x.y
 g:gr.gsAt w x.ga x.xs e.gs
 v:ch.viewAt w x.va e.v
def eggAt.below{w':ϟ}(h:eggAt w e x)(a:Ϣ w w'):eggAt w' e x:=⟨h.j.below a,h.g.below a,ch.Bp h.v a⟩
theorem QB{β:Type} [Inhabited β]{f:β->List Value}{n:Nat}(a:∀y,ϲ (f y)=n):∀(l:List β) (i:Nat),i<ϲ l->∀j,j<n->(l.flatMap f)[i * n+j]? =(f (l.getD i default))[j]?
 |[],i,h,_,_=>absurd h (CA i)
 |y::l,0,_,j,hj=>by
  rw[aH,bU,Fr,aM (by rw[a];exact hj)];rfl
 |y::l,i+1,h,j,hj=>by
  have c:=QB a l i (by simpa using h) j hj;rw[aH,bB (by rw[a,bL];omega),a,show(i+1) * n+j - n=i * n+j by rw[bL];omega,c];rfl
theorem OL.cell{α β:Type} [Inhabited α] [Inhabited β]{T:TypeId}{a:Nat}{cells:β->List Value}{P:β->α->World->Nat->Prop}{st:List β}{l:List α}{ad:Ϡ}{n cap:Nat}{w:ϟ}{b:Nat}(h:OL T a cells P st l (vS ad n cap) w b)(d:∀y,ϲ (cells y)=a){i:Nat}(f:i<ϲ l):
 ∃g,ad=some ⟨g,0,none⟩/\∀j u,j<a->(cells (st.getD i default))[j]? =some u->Δ w g (0+i * a+j) u:=by
 rcases h.own.2 with⟨_,t⟩|⟨g,q,s,p,_⟩
 ·omega
 ·injection p with c _ _
  refine⟨g,c,λj u m o=>?_⟩;have k:=RT h.own (g:=g) (by rw[c];rfl) (i * a+j) u (by rw[QB d st i (by rw[h.len];exact f) j m];exact o);rw[Di]at k;rw[cU];exact k
theorem OG1.at{x:gr.GX}{g:gr.Grp}(h:OG1 x g w b):gr.gAt w x g:=by
 refine⟨D5 h.1,λi a=>?_,h.2.len,λi a=>(h.2.each i a).1,λi a=>(bt.AeN (h.2.each i a).2).1⟩;obtain⟨c,e,d⟩:=h.2.cell (λ_=>rfl) (i:=i) (by rw[<-h.2.len];exact a);exact⟨c,0,e,by have:=d 0 _ Ϥ rfl;rwa[cQ,aE]at this⟩
theorem OE1.at{st:List (gr.GX×gr.Grp)}{su:List ((Option Addr×Nat)×ch.Cnt)}(h:OE1 x st su e w b)(p:x.xs=st.map (·.1)):eggAt w e x:=by
 obtain⟨j,d,o⟩:=h;refine⟨⟨j.1.bo.at,j.2.bo.at⟩,?_,(Ahh o).at⟩;rw[p];have m:∀i,i<ϲ e.gs->st.getD i default=((st.map (·.1)).getD i default,e.gs.getD i default)/\OG1 ((st.map (·.1)).getD i default) (e.gs.getD i default) w b:=λi a=>by
  have f:i<ϲ st:=by rw[d.len];exact a
  have k:=d.each i a;rw[gDe,gEe f]at k⊢;rw[gDe (l:=st.map (·.1)),L7,gEe f];dsimp only[Option.getD_some,Option.map_some]at k⊢;exact⟨by rw[<-k.1],k.2⟩
 refine⟨by rw[lMp];exact d.len,λi a=>?_,λi a=>(m i a).2.at⟩;obtain⟨g,n,c⟩:=d.cell (λ_=>rfl) a;rw[(m i a).1]at c;exact⟨g,0,n,c 0 _ Ϥ rfl,c 1 _ Ϥ rfl,c 2 _ Ϥ rfl⟩
structure wfEg(e:Egg):Prop where
 j:wfJ e.j
 g:∀g∈e.gs,gr.wfG g
 gl:ϲ e.gs<=ύ
 v:ch.BK e.v
 n:ϲ e.v<=ύ
noncomputable def Hk(p:pl.Pln)(gs:List gr.Grp):Int:=if p.grouped=true then gr.CP p gs else if 0<ϲ gs then 1 else 0
noncomputable def BS(p:pl.Pln)(e:Egg):Int:=if AV p e.j≠0 then AV p e.j else if Hk p e.gs≠0 then Hk p e.gs else if ch.Av e.v≠0 then ch.Av e.v else bt.Ej (pl.Cc p) e.v
def TZ{p:pl.Pln}(h:pl.Ag p=0):ϲ (pl.Cc p)<=ύ:=by
 by_cases a:p.grouped=true
 ·have:=bt.J9 h a;unfold pl.Cc;rw[AE a,lAp,lMp,lMp];omega
 ·exact TK h (by simpa using a)
theorem Nm(p:pl.Pln)(x:pl.PA)(a:Ϡ)(cap:Nat)(y:List gr.GX)(d:List gr.Grp)(w:ϟ)(u:pl.wfPlan p)(t:pl.planAt w p x)(s:gr.gsAt w a y d)(v:∀g∈d,gr.wfG g)(q:ϲ d<=ύ):
 χ 51 #[pl.Ai p x,vS a (ϲ d) cap] w (ψ w (vI (Hk p d))):=by
 have f:=hIz (λ(j:ϟ) (m:Ϣ w j)=>gr.Bb p x a cap y d j u (pl.Ae t m) (s.below m) v q);obtain⟨R,i⟩:=nM (Hk p d);have c:=hV0 i;rw[i];clear i u t s v;unfold Hk at c;obtain⟨n,C⟩:=nM (ϲ d);rw[C]at f c q⊢;unfold pl.Ai at f⊢;by_cases h:p.grouped=true
 ·rw[AE h]at c;rw[h]at f⊢;go_enter func51,ntmps51;go_wp2_with fail;generalize l:(World.alloc w _)=V;have o:Ϣ w V:=by rw[<-l];exact Ϯ
  clear l;refine(f.o V o).mono ?_;rintro e j ⟨rfl,A⟩;go_wp2;go_ret;exact⟨vl.Ad c.o,bT o A⟩
 ·rw[AC h]at c;have B:p.grouped=false:=by simpa using h
  rw[B];by_cases k:0<n
  ·rw[AE k]at c;have z:(0:Int)<(n:Int):=ϣ;go_enter func51,ntmps51;go_wp2;go_ret;exact⟨vl.Ad c.o,Ϯ⟩
  ·rw[AC k]at c;have z:¬(0:Int)<(n:Int):=ϣ;go_enter func51,ntmps51;go_wp2;go_ret;exact⟨vl.Ad c.o,Ϯ⟩
theorem W8(p:pl.Pln)(x:pl.PA)(a:Ϡ)(m:Nat)(v:List ch.Cnt)(w:ϟ)(K:pl.wfPlan p)(J:pl.planAt w p x)(h0:pl.Ag p=0)(A:ch.viewAt w a v)(B:ch.BK v)(z:ϲ v<=ύ):
 χ 52 #[pl.Ai p x,vS a (ϲ v) m] w (ψ w (vI (if ch.Av v≠0 then ch.Av v else bt.Ej (pl.Cc p) v))):=by
 have l:=hIz (λ(c:ϟ) (f:Ϣ w c)=>ch.Bb a m v c (ch.Bp A f) B z);have E:=hIz (λ(c:ϟ) (f:Ϣ w c)=>pl.Yf p x c K (pl.Ae J f));have KV:=hIz (λ(c:ϟ) i D (f:Ϣ w c) (P:pl.Au c i (pl.Cc p))=>bt.Kc a i m D v (pl.Cc p) c z (ch.Bp A f) B P (TZ h0));obtain⟨R,s⟩:=nM (if ch.Av v≠0 then ch.Av v else bt.Ej (pl.Cc p) v);have g:=hV0 s;have M:=hV0 h0;rw[s];clear s K J A B z h0;obtain⟨j,o⟩:=nM (ch.Av v);obtain⟨T,q⟩:=nM (bt.Ej (pl.Cc p) v);obtain⟨n,h⟩:=nM (ϲ v);rw[o,h]at l;rw[q,h]at KV;rw[o,q]at g;rw[h];clear o q h;unfold pl.Ai at E⊢;go_enter func52,ntmps52;go_wp2_with fail;generalize t:(World.alloc w _)=V;have u:Ϣ w V:=by rw[<-t];exact Ϯ
 have k:ϡ (boxP V w p x):=by
  subst t;exact BF ..
 clear t;refine(l.o _ u).mono ?_;rintro e c ⟨rfl,y⟩;have d:Ϣ w c:=bT u y;replace k:ϡ (boxP c w p x):=Af k.o y;clear y u l;by_cases C:j=0
 rotate_left
 ·have U:(j !=0)=true:=by simpa using C
  have N:ϡ (j=R):=by show _=_;rw[<-g.o,AE C]
  go_wp2;go_ret;exact⟨vl.Ad N.o,d⟩
 subst C;rw[AC Ϥ]at g;obtain⟨W,X,v2,v3,v4,v5,v6,v7,v8,v9,Y,Z,aa⟩:=k.o;go_wp2_with fail;refine(E.o _ d).mono ?_;rintro e L ⟨Q,G⟩;replace d:Ϣ w L:=bT d G;rcases Q with⟨S,_⟩|⟨_,i,D,rfl,H⟩
 ·exact absurd M.o S
 have F:=KV.o L i D d H;obtain⟨on,I⟩:=nM (ϲ (pl.Cc p));rw[I]at F⊢;clear I H G;go_wp2_with fail;refine F.mono ?_;rintro e w3 ⟨rfl,O⟩;go_wp2;go_ret;exact⟨vl.Ad g.o,bT d O⟩
theorem MW(p:pl.Pln)(x:pl.PA)(e:Egg)(y:GGX)(w:ϟ)(q:pl.wfPlan p)(o:pl.planAt w p x)(h:eggAt w e y)(j:wfEg e):
 χ 27 #[pl.Ai p x,egV e y] w (ψ w (vI (BS p e))):=by
 have k:=hIz (λ(a:ϟ) (d:Ϣ w a)=>Bb p x e.j y.y a q (pl.Ae o d) (h.j.below d) j.j);have v:=hIz (λ(a:ϟ) (d:Ϣ w a)=>Nm p x y.ga y.gc y.xs e.gs a q (pl.Ae o d) (h.g.below d) j.g j.gl);have KV:ϡ (AV p e.j=0->∀a,Ϣ w a->CT 52 #[pl.Ai p x,vS y.va (ϲ e.v) y.vc] a (ψ a (vI (if ch.Av e.v≠0 then ch.Av e.v else bt.Ej (pl.Cc p) e.v)))):=λW a d=>W8 p x y.va y.vc e.v a q (pl.Ae o d) (Ga W) (ch.Bp h.v d) j.v j.n;obtain⟨R,z⟩:=nM (BS p e);have c:=hV0 z;rw[z];clear z q o h j;unfold BS at c;obtain⟨s,E⟩:=nM (AV p e.j);obtain⟨Y,F⟩:=nM (if ch.Av e.v≠0 then ch.Av e.v else bt.Ej (pl.Cc p) e.v);obtain⟨t,G⟩:=nM (Hk p e.gs);rw[E]at k KV c;rw[F]at KV c;rw[G]at v c;clear E F G;unfold pl.Ai at k v KV⊢;rw[AU]at k;unfold egV egC;go_enter func27,ntmps27;go_wp2_with fail;generalize l:(World.alloc (World.alloc w _) _)=V;have A:Ϣ w V:=by rw[<-l];exact Ϯ.alloc ϥ _
 have i:ϡ (boxP V w p x):=by
  subst l;exact Af (BF ..) Ϯ
 have g:ϡ (SB V (w.heap.size+1) (egC e y)):=by
  subst l;have:=SB.new (ϊ w (Φ p x) 32) (egC e y) 42;rw[D0]at this;exact this
 clear l;refine(k.o _ A).mono ?_;rintro Z a ⟨rfl,m⟩;have f:Ϣ w a:=bT A m;replace i:ϡ (boxP a w p x):=Af i.o m;replace g:ϡ (SB a (w.heap.size+1) (egC e y)):=g.o.below m;clear m A k;by_cases B:s=0
 rotate_left
 ·have aa:(s !=0)=true:=by simpa using B
  have u:ϡ (s=R):=by show _=_;rw[<-c.o,AE B]
  go_wp2;go_ret;exact⟨vl.Ad u.o,f⟩
 subst B;rw[AC Ϥ]at c;obtain⟨H,I,M,N,O,P,Q,S,T,U,J,K,L⟩:=i.o;obtain⟨u0,u1,u2,u3,u4,u5,u6,u7,u8,u9,u10⟩:=Ib g.o;go_wp2_with fail;refine(v.o _ f).mono ?_;rintro e2 D ⟨rfl,n⟩;replace f:Ϣ w D:=bT f n;replace i:ϡ (boxP D w p x):=Af i.o n;replace g:ϡ (SB D (w.heap.size+1) (egC e y)):=g.o.below n;clear H I M N O P Q S T U J K L u0 u1 u2 u3 u4 u5 u6 u7 u8 u9 u10 n;by_cases C:t=0
 rotate_left
 ·have ab:(t !=0)=true:=by simpa using C
  have u:ϡ (t=R):=by show _=_;rw[<-c.o,AE C]
  go_wp2;go_ret;exact⟨vl.Ad u.o,f⟩
 subst C;rw[AC Ϥ]at c;obtain⟨H,I,M,N,O,P,Q,S,T,U,J,K,L⟩:=i.o;obtain⟨u0,u1,u2,u3,u4,u5,u6,u7,u8,u9,u10⟩:=Ib g.o;go_wp2_with fail;refine(KV.o ϫ _ f).mono ?_;rintro e3 w3 ⟨rfl,X⟩;go_wp2;go_ret;exact⟨vl.Ad c.o,bT f X⟩
def EV(h:rowOk r):B8 r/\Aq r=0:=by
 refine⟨λc d=>(h.2 c d).2,?_⟩;unfold Aq;rw[AC (by have:=h.1;omega)];exact KU r (ϲ r) nR (λi a=>by
  rw[gDe,gEe a];exact(h.2 _ (GE a)).1)
def Ua(h:rowOk r):ϲ (Ck r)<=1056:=Hw h.1 (EV h).2
theorem ZQ(base C B:Nat)(g:List UInt8)(t:Tal)(w:ϟ)(s:base<=w.heap.size)(h:WR w base B g)(o:WP w C B)(l:rowOk [t.1])(M:ϲ g<=9000000000000):
 χ 111 #[.agg #[vI t.1.k,vI t.1.n,.string t.1.s,vI t.2],ω C] w (WO base B w (g++BC t)):=by
 have z:=hIz (λ(c:ϟ) a (f:Ϣ w c) (ha:vl.rowAt c a [t.1])=>Iv base B g a 1 [t.1] c (B0 s f.size) (h.below f) ϣ ha (EV l).1 l.1 (EV l).2);have y:ϡ (∀c,WR c base B (g++Ck [t.1])->base<=c.heap.size->CT 60 #[ω B,vI t.2] c (WO base B c (g++BC t))):=λc H f=>by
  have:=Cd base B _ t.2 c f H (by have:=Ua l;rw[lAp];omega);unfold BC;rw[<-Bx];exact this
 obtain⟨⟨k,n,q⟩,m⟩:=t;dsimp only at *;have L:=A7 o.1;have D:=o.2;clear l h;go_enter func111,ntmps111;go_wp2_with fail;generalize d:(World.alloc (World.alloc w _) _)=V;have j:Ϣ w V:=by rw[<-d];exact Ϯ.alloc ϥ _
 have v:Am V w 121:=by subst d;exact Ak ⟨_,_,DE _ _⟩ Ϯ
 have p:ϡ (CW V w.heap.size 121 3 (vI m)/\WP V C B/\vl.rowAt V (ϋ (w+1)) [⟨k,n,q⟩]):=by
  refine⟨⟨v,by subst d;go_simp⟩,o.below j,λi E=>?_⟩;have:i=0:=by simpa using E
  subst this;exact⟨_,_,rfl,by subst d;go_simp,by subst d;go_simp,by subst d;go_simp⟩
 clear d v o D;refine(z.o V _ j p.o.2.2).mono ?_;rintro e c ⟨rfl,I,f,u⟩;have N:=(p.o.2.1.keep u).2;have K:=(p.o.1.keep u Ϥ Ϥ).2;have G:base<=c.heap.size:=B0 (B0 s j.size) f.size;go_wp2_with fail;refine(y.o c I G).mono ?_;rintro e O ⟨rfl,J,A,F⟩;go_wp2
 go_end0
 exact⟨rfl,J,(j.mono s).trans (f.trans A),(keepW.of j).trans (u.trans F)⟩
end cd
