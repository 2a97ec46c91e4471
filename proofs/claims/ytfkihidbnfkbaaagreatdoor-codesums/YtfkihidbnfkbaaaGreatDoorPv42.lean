import Derived.Test.YtfkihidbnfkbaaaGreatDoorPv41
set_option linter.all false
set_option maxHeartbeats 4000000
set_option maxRecDepth 100000
open Go.ChangeShapes Go.WideShapes Go.ChangeAt Go.RowKit List
namespace Go.Proofs.YtfkihidbnfkbaaaGreatDoor
namespace jn
open vl bf
variable {w : Ϙ} {p : pl.Pln} {e : Eng} {K : ByteArray}
theorem TG.chgs{base:Nat}{v:Value}{L:List CO}(h:TG w base v L):v=vS (OO v) L.length (Sq v)/\ch.EL w (OO v) (L.map CO.chg):=by
 have f:=h.own;refine⟨MA f,λi s=>?_⟩;have a:i<L.length:=by simpa using s
 rcases f.2 with⟨k,x⟩|⟨g,c,u,k,_⟩
 ·omega
 ·have o:=World.ownsRow.cells f (g:=g) (by rw[k];rfl);obtain⟨m,n⟩:=ch.Qe (L.map CO.pair) i (by simpa using a);obtain⟨q,d⟩:=NM L i a;rw[q]at m n;have l:=o _ _ m;have b:=o _ _ n;rw[ch.De,Nat.zero_add]at l b;obtain⟨t,j⟩:=h.rows (L.getD i default) (by rw[gDe,gEe a];exact getElem_mem a);have r:=MA j;rw[r]at j b;refine⟨g,0,OO (L.getD i default).rv,Sq (L.getD i default).rv,by rw[k];rfl,?_,?_,?_⟩
  ·rw[d,Nat.zero_add];exact l
  ·rw[d,Nat.zero_add];exact b
  ·rw[d];exact vl.GA j
theorem evs5{b:Nat}{d f g h:ϙ}(j:Δ w b 0 (vI 1))(k:Δ w b 1 (vI 1))(x:Δ w b 2 (vI 1))(y:Δ w b 3 (vS d 2 2))
 (c4:Δ w b 4 (vI 1)) (z:Δ w b 5 (vI 2)) (A:Δ w b 6 (vI 2)) (B:Δ w b 7 (vS f 2 2))
 (C:Δ w b 8 (vI 2)) (D:Δ w b 9 (vI 1)) (l:Δ w b 10 (vI 4)) (m:Δ w b 11 (vS none 0 0))
 (n:Δ w b 12 (vI 1)) (o:Δ w b 13 (vI 1)) (q:Δ w b 14 (vI 4)) (r:Δ w b 15 (vS g 2 2))
 (s:Δ w b 16 (vI 1)) (t:Δ w b 17 (vI 1)) (u:Δ w b 18 (vI 5)) (v:Δ w b 19 (vS h 2 2))
 (E:vl.rowAt w d (rw2 7 1)) (F:vl.rowAt w f (rw2 7 2)) (G:vl.rowAt w g (rw2 7 3)) (H:vl.rowAt w h (rw2 7 4)):IB w (τ b) Il [(d,2),(f,2),(none,0),(g,2),(h,2)]:=by
 intro i a
 match i,a with
 |0,_=>exact⟨b,0,rfl,j,k,x,y,E,Dd ϝ ϝ,ϝ⟩
 |1,_=>exact⟨b,0,rfl,c4,z,A,B,F,Dd ϝ ϝ,ϝ⟩
 |2,_=>exact⟨b,0,rfl,C,D,l,m,λi a=>absurd a (Nat.not_lt_zero i),λc I=>absurd I not_mem_nil,ϝ⟩
 |3,_=>exact⟨b,0,rfl,n,o,q,r,G,Dd ϝ ϝ,ϝ⟩
 |4,_=>exact⟨b,0,rfl,s,t,u,v,H,Dd ϝ ϝ,ϝ⟩
theorem Uw(w:Ϙ):η 24 #[] w λe l=>(∃b D,e= .returned (vS (τ b) 5 5)/\IB l (τ b) Il D)/\ϛ w l:=by
 go_enter Tryz.func24,Tryz.ntmps24;go_wp2_with fail;refine(pl.Gh _ _ _).mono ?_;rintro e B ⟨⟨x,rfl,h⟩,t⟩;have n:=hqz h;clear h;go_wp2_with fail;refine(pl.Gh _ _ _).mono ?_;rintro e C ⟨⟨y,rfl,i⟩,u⟩;have o:=hqz i;clear i;go_wp2_with fail;refine(pl.Gh _ _ _).mono ?_;rintro e E ⟨⟨z,rfl,j⟩,v⟩;have q:=hqz j;clear j;go_wp2_with fail;refine(pl.Gh _ _ _).mono ?_;rintro e w4 ⟨⟨A,rfl,k⟩,g⟩;have r:=hqz k;clear k;have f:ϛ C w4:=bT v g;have d:ϛ B w4:=bT u f;have s:ϛ w w4:=bT t d;go_wp2;generalize a:(World.alloc w4 _)=W;have c:ϛ w4 W:=by rw[<-a];exact ϧ
 have m:Ϛ (IB W (τ w4) Il [(x,2),(y,2),(none,0),(z,2),(A,2)]):=evs5 (by subst a;go_simp) (by subst a;go_simp) (by subst a;go_simp) (by subst a;go_simp) (by subst a;go_simp) (by subst a;go_simp) (by subst a;go_simp) (by subst a;go_simp) (by subst a;go_simp) (by subst a;go_simp) (by subst a;go_simp) (by subst a;go_simp) (by subst a;go_simp) (by subst a;go_simp) (by subst a;go_simp) (by subst a;go_simp) (by subst a;go_simp) (by subst a;go_simp) (by subst a;go_simp) (by subst a;go_simp)
  (vl.Ac n.o (bT d c)) (vl.Ac o.o (bT f c)) (vl.Ac q.o (bT g c)) (vl.Ac r.o c)
 clear a;go_ret;exact⟨⟨_,_,rfl,m.o⟩,bT s c⟩
theorem YP(n:Nat):Cb (bt.C9 n):=λc a=>by
 rw[eq_of_mem_replicate a];exact⟨ϝ,ϝ⟩
theorem Aas{a b:List Cel}(ha:Cb a)(d:Cb b):Cb (a++b):=λc f=>(mem_append.1 f).elim (ha c) (d c)
def vw1:List ch.Cnt:=[⟨rw2 7 1++bt.C9 2,1⟩]
def vw2:List ch.Cnt:=[⟨rw2 7 1++rw2 7 2,1⟩]
def vw3:List ch.Cnt:=[⟨rw2 7 1++rw2 7 2,1⟩,⟨rw2 7 4++rw2 7 2,1⟩]
theorem Oo{a b:Int}(ha: -9223372036854775808<=a/\a<=9223372036854775807)(c: -9223372036854775808<=b/\b<=9223372036854775807){r:List Cel}(d:Cb r):Cb (rw2 a b++r):=Aas (Dd ha c) d
theorem Wr:Cb ch1.r:=Oo ϝ ϝ (YP 2)
theorem SQ:Cb ch3.r:=Oo ϝ ϝ (Dd ϝ ϝ)
theorem Ws:Cb ch4.r:=Oo ϝ ϝ (Dd ϝ ϝ)
theorem ZG:ch.Cd vw1:=by
 intro c a;rw[mem_singleton.1 a];exact⟨Wr,ϝ,ϝ⟩
theorem SR:ch.Cd vw2:=by
 intro c a;rw[mem_singleton.1 a];exact⟨SQ,ϝ,ϝ⟩
theorem Wt:ch.Cd vw3:=by
 intro c a;rcases mem_cons.1 a with rfl|a
 ·exact⟨SQ,ϝ,ϝ⟩
 ·rw[mem_singleton.1 a];exact⟨Ws,ϝ,ϝ⟩
theorem AaQ:∀c∈vw1,rowOk c.r:=ch.F4 ZG (by decide+kernel)
theorem ZH:∀c∈vw2,rowOk c.r:=ch.F4 SR (by decide+kernel)
theorem ZI:∀c∈vw3,rowOk c.r:=ch.F4 Wt (by decide+kernel)
theorem wfs1:ch.EN [ch1]:=by
 intro c a;rw[mem_singleton.1 a];exact⟨Wr,ϝ,ϝ⟩
theorem wfs2:ch.EN [ch2,ch3]:=by
 intro c a;rcases mem_cons.1 a with rfl|a
 ·exact⟨Wr,ϝ,ϝ⟩
 ·rw[mem_singleton.1 a];exact⟨SQ,ϝ,ϝ⟩
theorem wfs4:ch.EN [ch4]:=by
 intro c a;rw[mem_singleton.1 a];exact⟨Ws,ϝ,ϝ⟩
theorem LN(c:pl.An p=0)(h:goodJ p e.j)(a:ch.A4 e.v=0)(b:bt.Gs (pl.FM p) e.v=0):CV p e=0:=by
 unfold CV;rw[h.ok.none c,if_neg (λk=>k rfl),a,if_neg (λk=>k rfl),b]
abbrev sP:=pl.Fo
def sK:ByteArray:=pl.Ar pl.Fo 1 (rw2 7 1)
theorem sB:begP sP sK:=Rn
def En0:Eng:=⟨Cv sP,[]⟩
def En1:Eng:=⟨St1 sK,vw1⟩
def En2:Eng:=⟨St2 sK,vw2⟩
def En3:Eng:=⟨St3 sK,vw2⟩
theorem en0:CV sP En0=0:=LN pl.CE (good_start pl.CE) ϟ ϟ
theorem en1:CV sP En1=0:=LN pl.CE (S9 sB) ϟ ϟ
theorem en2:CV sP En2=0:=LN pl.CE (SA sB) ϟ ϟ
theorem en3:CV sP En3=0:=LN pl.CE (LA sB) ϟ ϟ
theorem Oq{a:ch.KV}{l:List ch.Chg}(n:Nat)(h:(List.range n).all (λi=>ch.I3 a l i==0)=true):∀i,i<n->ch.I3 a l i=0:=λi b=>by
 have:=all_eq_true.1 h i (mem_range.2 b);simpa using this
theorem st1:Eh sP En0 ev1 (0,En1,[ch1]):=by
 refine⟨en0,.inr ?_⟩;show _/\_;rw[show stepJ sP En0.j ev1=_ from Aae sB];exact⟨rfl,ϟ,wfs1,Oq 1 ϟ,vw1,ϟ,AaQ,rfl⟩
theorem st2:Eh sP En1 ev2 (0,En2,[ch2,ch3]):=by
 refine⟨en1,.inr ?_⟩;show _/\_;rw[show stepJ sP En1.j ev2=_ from Aaf sB];exact⟨rfl,ϟ,wfs2,Oq 2 ϟ,vw2,ϟ,ZH,rfl⟩
theorem st3:Eh sP En2 ev3 (0,En3,[]):=by
 refine⟨en2,.inr ?_⟩;show _/\_;rw[show stepJ sP En2.j ev3=_ from Aag sB];exact⟨rfl,ϟ,λc a=>absurd a not_mem_nil,λi b=>absurd b (Nat.not_lt_zero i),vw2,ϟ,ZH,rfl⟩
theorem st4:Eh sP En3 ev4 (7,e0,[]):=by
 refine⟨en3,.inl ?_⟩;rw[show stepJ sP En3.j ev4=_ from beg4 sB];exact⟨ϝ,rfl⟩
def Lm(K:ByteArray):Ent:=⟨K,1,0,rw2 7 1,true⟩
def Lm2(K:ByteArray):Ent:=⟨K,5,2,rw2 7 4,true⟩
def Rm(K:ByteArray):Ent:=⟨K,2,1,rw2 7 2,true⟩
def St5(K:ByteArray):Jn:=⟨C1 ⟨2,[Lm K],[]⟩ (Lm2 K),⟨2,[Rm K],[]⟩,4,noMark,3⟩
theorem GJ(K:ByteArray):(C1 ⟨2,[Lm K],[]⟩ (Lm2 K)).lim=2/\(C1 ⟨2,[Lm K],[]⟩ (Lm2 K)).runs=[]/\(C1 ⟨2,[Lm K],[]⟩ (Lm2 K)).mem.Perm [Lm K,Lm2 K]:=by
 have a:=BC ([Lm K]++[Lm2 K]);have b:=a.length_eq;unfold C1 Gp;rw[show(DO ((⟨2,[Lm K],[]⟩:Buf).mem++[Lm2 K])).length=2 from b];exact⟨rfl,rfl,a⟩
theorem ZJ(h:begP p K):stepJ p (St3 K) ev5=(0,St5 K,[ch4]):=by
 rw[DU h.err (LA h)];have e:A9 p (St3 K) ev5=0:=by
  simp[A9,ev5,pl.Bf,tm.Bm,h.e4,Bs,noMark,Aj,Ab,partsB,St3]
 have a:partners p (St3 K) ev5=[⟨K,2,1,rw2 7 2,true⟩]:=by
  simp[partners,ev5,h.h4,CJ,Aj,Ab,partsB,IC,St3,h.k4,Dy,toJ,h.kind,h.low,h.high]
 have c:BK p (St3 K) ev5=⟨⟨2,[Lm K],[]⟩,⟨2,[Rm K],[]⟩,4,noMark,2⟩:=by
  unfold BK;rw[a];rfl
 have b:(Gr p (St3 K) ev5).2=[ch4]:=by
  simp only[Gr,h.kind,Cn,a];simp[ev5,Ct,h.mode,AX,ch4]
 rw[IE h.kind]at b;rw[if_neg (by rw[e];exact λk=>k rfl),if_neg ϝ,IE h.kind,c,a,L8 _ h.h4 (by rw[FU rfl];decide)];dsimp only at b;rw[b];show(0,(⟨(A7 _ 1 (C1 _ ⟨pl.Ar p 1 (rw2 7 4),5,2,rw2 7 4,true⟩)).L,_,_,_,_⟩:Jn),[ch4])=_;rw[h.k4];rfl
theorem Wu(h:begP p K):goodJ p (St5 K):=by
 obtain⟨s,e,_,_,_,a⟩:=beg5 h;rw[ZJ h]at e;injection e with _ e
 injection e with e _
 rw[e];exact a
theorem st5:Eh sP En3 ev5 (0,⟨St5 sK,vw3⟩,[ch4])/\CV sP ⟨St5 sK,vw3⟩=0:=by
 refine⟨⟨en3,.inr ?_⟩,LN pl.CE (Wu sB) ϟ ϟ⟩;show _/\_;rw[show stepJ sP En3.j ev5=_ from ZJ sB];exact⟨rfl,ϟ,wfs4,Oq 1 ϟ,vw3,ϟ,ZI,rfl⟩
theorem LO(h:goodJ sP e.j)(b:ch.Cd e.v)(a:e.v.length<=χ):wfEn e:=⟨YA h,b,a⟩
def En5:Eng:=⟨St5 sK,vw3⟩
theorem Wv:∃(E:Nat->Eng) (R:Nat->Int×Eng×List ch.Chg),playsTo sP Il E R/\E 0=⟨Cv sP,[]⟩/\E 5=En5:=by
 obtain⟨b,g⟩:=st5;have f:=Wu (p:=sP) sB;refine⟨fun|0=>En0|1=>En1|2=>En2|3=>En3|4=>En3|_=>En5,fun|0=>(0,En1,[ch1])|1=>(0,En2,[ch2,ch3])|2=>(0,En3,[])|3=>(7,e0,[])|_=>(0,En5,[ch4]),⟨?_,?_,?_⟩,rfl,rfl⟩
 ·intro k a
  match k,a with
  |0,_=>exact show wfEn En0 from LO (good_start pl.CE) (λc d=>absurd d not_mem_nil) ϝ
  |1,_=>exact show wfEn En1 from LO (S9 sB) ZG ϝ
  |2,_=>exact show wfEn En2 from LO (SA sB) SR ϝ
  |3,_=>exact show wfEn En3 from LO (LA sB) SR ϝ
  |4,_=>exact show wfEn En3 from LO (LA sB) SR ϝ
  |5,_=>exact show wfEn En5 from LO f Wt (by show(2:Nat)<=_;decide)
 ·intro k a
  match k,a with
  |0,_=>exact st1
  |1,_=>exact st2
  |2,_=>exact st3
  |3,_=>exact st4
  |4,_=>exact b
 ·intro k a
  match k,a with
  |0,_=>rfl
  |1,_=>rfl
  |2,_=>rfl
  |3,_=>rfl
  |4,_=>rfl
end jn
namespace cd
open vl bf jn
theorem SS(x:Ent)(h:x∈Ab En5.j.L\/x∈Ab En5.j.R):x=Lm sK\/x=Lm2 sK\/x=Rm sK:=by
 rcases h with h|h
 ·obtain⟨_,a,b⟩:=GJ sK;have e:Ab En5.j.L=En5.j.L.mem++En5.j.L.runs.flatten:=rfl;rw[e,show En5.j.L.runs=[]from a,flatten_nil,append_nil]at h;have:=b.mem_iff.1 h;simp only[mem_cons,not_mem_nil,or_false]at this;exact this.elim .inl (λk=>.inr (.inl k))
 ·have e:Ab En5.j.R=[Rm sK]:=rfl;rw[e,mem_singleton]at h;exact .inr (.inr h)
theorem Gj:(Ab En5.j.L).length=2/\(Ab En5.j.R).length=1/\En5.j.L.runs.length=0/\En5.j.R.runs.length=0:=by
 obtain⟨_,a,b⟩:=GJ sK;have e:Ab En5.j.L=En5.j.L.mem++En5.j.L.runs.flatten:=rfl;refine⟨?_,rfl,?_,rfl⟩
 ·rw[e,show En5.j.L.runs=[]from a,flatten_nil,append_nil];exact b.length_eq
 ·rw[show En5.j.L.runs=[]from a];rfl
theorem Ux:sK.size=9:=ϟ
theorem LP{r:List Cel}(h:Cb r)(d:r.length<=8)(b:ET r=0):rowOk r:=⟨d,λc a=>⟨GM b c a,h c a⟩⟩
theorem AaR(x:Ent)(h:x=Lm sK\/x=Lm2 sK\/x=Rm sK):okR x:=by
 rcases h with rfl|rfl|rfl
 ·exact⟨by show sK.size<=2000;rw[Ux];decide,LP (Dd ϝ ϝ) ϝ (by decide+kernel),ϝ,ϝ⟩
 ·exact⟨by show sK.size<=2000;rw[Ux];decide,LP (Dd ϝ ϝ) ϝ (by decide+kernel),ϝ,ϝ⟩
 ·exact⟨by show sK.size<=2000;rw[Ux];decide,LP (Dd ϝ ϝ) ϝ (by decide+kernel),ϝ,ϝ⟩
theorem AaS(x:Ent)(h:x=Lm sK\/x=Lm2 sK\/x=Rm sK):okW x:=by
 rcases h with rfl|rfl|rfl
 ·exact⟨by show sK.size<=2000;rw[Ux];decide,Dd ϝ ϝ,ϝ,by decide+kernel⟩
 ·exact⟨by show sK.size<=2000;rw[Ux];decide,Dd ϝ ϝ,ϝ,by decide+kernel⟩
 ·exact⟨by show sK.size<=2000;rw[Ux];decide,Dd ϝ ϝ,ϝ,by decide+kernel⟩
theorem Ww:okBW En5.j.L:=⟨λx a=>AaS x (SS x (.inl a)),by rw[Gj.1];decide,by rw[Gj.2.2.1];decide⟩
theorem Wx:okBW En5.j.R:=⟨λx a=>AaS x (SS x (.inr a)),by rw[Gj.2.1];decide,by rw[Gj.2.2.2];decide⟩
theorem Aat:∀c∈En5.v,okC c:=by
 intro c a;rcases mem_cons.1 a with rfl|a
 ·exact⟨SQ,ϝ,by decide+kernel⟩
 ·rw[mem_singleton.1 a];exact⟨Ws,ϝ,by decide+kernel⟩
theorem AaT:(Bv En5.j.L).length+(Bv En5.j.R).length<=30000:=by
 have a (b:Buf) (h:okBW b) (c:(Ab b).length<=2) (g:b.runs.length=0):(Bv b).length<=10000:=by
  have d:=Sk h;have f:=MC h.mem.1;have e:Ab b=b.mem++b.runs.flatten:=rfl;rw[e,lAp]at c;unfold Bv;rw[lAp];unfold AG;rw[lAp,Az];omega
 have:=a _ Ww (by rw[Gj.1];decide) Gj.2.2.1;have:=a _ Wx (by rw[Gj.2.1];decide) Gj.2.2.2;omega
theorem ZK:(Cf En5.v).length<=5000:=by
 have a:=Kh (Aat _ (mem_cons_self ..));have b:=Kh (Aat _ (mem_cons_of_mem _ (mem_cons_self ..)));show(Cf [_,_]).length<=5000;unfold Cf;simp only[lAp,Az,flatMap_cons,flatMap_nil,length_nil];omega
theorem SU:(Eo En5).length<=40000:=by
 have:=AaT;have:=ZK;unfold Eo Gq;simp only[lAp,Az];omega
theorem AaU:okRE En5:=⟨⟨⟨λx b=>AaR x (SS x (.inl b)),by rw[Gj.1];decide,by rw[Gj.2.2.1];decide⟩,⟨λx b=>AaR x (SS x (.inr b)),by rw[Gj.2.1];decide,by rw[Gj.2.2.2];decide⟩,(GJ sK).1.trans rfl,ϝ,ϝ,ϝ,by have:=AaT;omega⟩,
 λc a=>⟨ZI c a,by
  rcases mem_cons.1 a with rfl|a
  ·decide
  ·rw[mem_singleton.1 a];decide⟩,ϝ,by have:=ZK;omega⟩
theorem Wy:wfEn En5:=LO (Wu (p:=sP) sB) Wt (by show(2:Nat)<=_;decide)
theorem Ul:CV sP En5=0:=st5.2
theorem lim5:En5.j.L.lim=sP.limit:=(GJ sK).1.trans rfl
theorem AaV:Wd En5.j:=by
 have c (b:Buf) (h:okBW b) (d:b.runs=[]):(∀l∈partsB b,l.length<=χ)/\∀y∈Ab b,y.row.length<=χ:=by
  refine⟨λl a=>?_,λy f=>Nat.le_trans (h.ents y f).len ϝ⟩;unfold partsB at a;rw[d]at a;rw[mem_singleton.1 a];exact Nat.le_trans h.mem.2 ϝ
 exact⟨c _ Ww (GJ sK).2.1,c _ Wx rfl⟩
def LQ:List UInt8:=(Hz [97,98,99]).1
theorem YQ:Hz [97,98,99]=(LQ,0):=ϟ
theorem YR:EP LQ=([97,98,99],0):=ϟ
theorem SV:LQ.length=11:=ϟ
theorem Wz:crc [49,50,51,52,53,54,55,56,57]=3421780262:=ϟ
end cd
end Go.Proofs.YtfkihidbnfkbaaaGreatDoor
