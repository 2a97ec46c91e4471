import Derived.Test.YtfkihidbnfkbaaaGreatDoorPb36
set_option linter.all false
set_option maxHeartbeats 4000000
set_option maxRecDepth 100000
open Go.ChangeShapes Go.WideShapes Go.ChangeAt Go.RowKit List
namespace Go.Proofs.YtfkihidbnfkbaaaGreatDoor
namespace jn
open vl bf
variable {w : ϙ} {p : pl.Pln} {e : Eng} {K : ByteArray}
theorem TG.chgs{base:Nat}{v:Value}{L:List CO}(h:TG w base v L):v=vS (Qt v) L.length (Uy v)/\ch.Fh w (Qt v) (L.map CO.chg):=by
 have f:=h.own;refine⟨NN f,λi s=>?_⟩;have a:i<L.length:=by simpa using s
 rcases f.2 with⟨k,x⟩|⟨g,c,u,k,_⟩
 ·omega
 ·have o:=World.ownsRow.cells f (g:=g) (by rw[k];rfl);obtain⟨m,n⟩:=ch.RH (L.map CO.pair) i (by simpa using a);obtain⟨q,d⟩:=Pd L i a;rw[q]at m n;have l:=o _ _ m;have b:=o _ _ n;rw[ch.C3,Nat.zero_add]at l b;obtain⟨t,j⟩:=h.rows (L.getD i default) (by rw[gDe,gEe a];exact getElem_mem a);have r:=NN j;rw[r]at j b;refine⟨g,0,Qt (L.getD i default).rv,Uy (L.getD i default).rv,by rw[k];rfl,?_,?_,?_⟩
  ·rw[d,Nat.zero_add];exact l
  ·rw[d,Nat.zero_add];exact b
  ·rw[d];exact vl.Fg j
theorem evs5{b:Nat}{d f g h:Ϛ}(j:Δ w b 0 (vI 1))(k:Δ w b 1 (vI 1))(x:Δ w b 2 (vI 1))(y:Δ w b 3 (vS d 2 2))
 (c4:Δ w b 4 (vI 1)) (z:Δ w b 5 (vI 2)) (A:Δ w b 6 (vI 2)) (B:Δ w b 7 (vS f 2 2))
 (C:Δ w b 8 (vI 2)) (D:Δ w b 9 (vI 1)) (l:Δ w b 10 (vI 4)) (m:Δ w b 11 (vS none 0 0))
 (n:Δ w b 12 (vI 1)) (o:Δ w b 13 (vI 1)) (q:Δ w b 14 (vI 4)) (r:Δ w b 15 (vS g 2 2))
 (s:Δ w b 16 (vI 1)) (t:Δ w b 17 (vI 1)) (u:Δ w b 18 (vI 5)) (v:Δ w b 19 (vS h 2 2))
 (E:vl.rowAt w d (rw2 7 1)) (F:vl.rowAt w f (rw2 7 2)) (G:vl.rowAt w g (rw2 7 3)) (H:vl.rowAt w h (rw2 7 4)):Jp w (τ b) IM [(d,2),(f,2),(none,0),(g,2),(h,2)]:=by
 intro i a
 match i,a with
 |0,_=>exact⟨b,0,rfl,j,k,x,y,E,Em Ϟ Ϟ,Ϟ⟩
 |1,_=>exact⟨b,0,rfl,c4,z,A,B,F,Em Ϟ Ϟ,Ϟ⟩
 |2,_=>exact⟨b,0,rfl,C,D,l,m,λi a=>absurd a (Nat.not_lt_zero i),λc I=>absurd I not_mem_nil,Ϟ⟩
 |3,_=>exact⟨b,0,rfl,n,o,q,r,G,Em Ϟ Ϟ,Ϟ⟩
 |4,_=>exact⟨b,0,rfl,s,t,u,v,H,Em Ϟ Ϟ,Ϟ⟩
theorem XK(w:ϙ):η 24 #[] w λe l=>(∃b D,e= .returned (vS (τ b) 5 5)/\Jp l (τ b) IM D)/\Ϝ w l:=by
 go_enter Tryz.func24,Tryz.ntmps24;go_wp2_with fail;refine(pl.GQ _ _ _).mono ?_;rintro e B ⟨⟨x,rfl,h⟩,t⟩;have n:=hqz h;clear h;go_wp2_with fail;refine(pl.GQ _ _ _).mono ?_;rintro e C ⟨⟨y,rfl,i⟩,u⟩;have o:=hqz i;clear i;go_wp2_with fail;refine(pl.GQ _ _ _).mono ?_;rintro e E ⟨⟨z,rfl,j⟩,v⟩;have q:=hqz j;clear j;go_wp2_with fail;refine(pl.GQ _ _ _).mono ?_;rintro e w4 ⟨⟨A,rfl,k⟩,g⟩;have r:=hqz k;clear k;have f:Ϝ C w4:=bT v g;have d:Ϝ B w4:=bT u f;have s:Ϝ w w4:=bT t d;go_wp2;generalize a:(World.alloc w4 _)=W;have c:Ϝ w4 W:=by rw[<-a];exact Ϩ
 have m:ϛ (Jp W (τ w4) IM [(x,2),(y,2),(none,0),(z,2),(A,2)]):=evs5 (by subst a;go_simp) (by subst a;go_simp) (by subst a;go_simp) (by subst a;go_simp) (by subst a;go_simp) (by subst a;go_simp) (by subst a;go_simp) (by subst a;go_simp) (by subst a;go_simp) (by subst a;go_simp) (by subst a;go_simp) (by subst a;go_simp) (by subst a;go_simp) (by subst a;go_simp) (by subst a;go_simp) (by subst a;go_simp) (by subst a;go_simp) (by subst a;go_simp) (by subst a;go_simp) (by subst a;go_simp)
  (vl.Ab n.o (bT d c)) (vl.Ab o.o (bT f c)) (vl.Ab q.o (bT g c)) (vl.Ab r.o c)
 clear a;go_ret;exact⟨⟨_,_,rfl,m.o⟩,bT s c⟩
theorem Acn(n:Nat):B9 (bt.CN n):=λc a=>by
 rw[eq_of_mem_replicate a];exact⟨Ϟ,Ϟ⟩
theorem AdY{a b:List Cel}(ha:B9 a)(d:B9 b):B9 (a++b):=λc f=>(mem_append.1 f).elim (ha c) (d c)
def vw1:List ch.Cnt:=[⟨rw2 7 1++bt.CN 2,1⟩]
def vw2:List ch.Cnt:=[⟨rw2 7 1++rw2 7 2,1⟩]
def vw3:List ch.Cnt:=[⟨rw2 7 1++rw2 7 2,1⟩,⟨rw2 7 4++rw2 7 2,1⟩]
theorem Ql{a b:Int}(ha: -9223372036854775808<=a/\a<=9223372036854775807)(c: -9223372036854775808<=b/\b<=9223372036854775807){r:List Cel}(d:B9 r):B9 (rw2 a b++r):=AdY (Em ha c) d
theorem Aao:B9 ch1.r:=Ql Ϟ Ϟ (Acn 2)
theorem Vo:B9 ch3.r:=Ql Ϟ Ϟ (Em Ϟ Ϟ)
theorem Aap:B9 ch4.r:=Ql Ϟ Ϟ (Em Ϟ Ϟ)
theorem AcS:ch.BJ vw1:=by
 intro c a;rw[mem_singleton.1 a];exact⟨Aao,Ϟ,Ϟ⟩
theorem Vp:ch.BJ vw2:=by
 intro c a;rw[mem_singleton.1 a];exact⟨Vo,Ϟ,Ϟ⟩
theorem Aaq:ch.BJ vw3:=by
 intro c a;rcases mem_cons.1 a with rfl|a
 ·exact⟨Vo,Ϟ,Ϟ⟩
 ·rw[mem_singleton.1 a];exact⟨Aap,Ϟ,Ϟ⟩
theorem Ae1:∀c∈vw1,rowOk c.r:=ch.Gr AcS (by decide+kernel)
theorem AcT:∀c∈vw2,rowOk c.r:=ch.Gr Vp (by decide+kernel)
theorem Ae2:∀c∈vw3,rowOk c.r:=ch.Gr Aaq (by decide+kernel)
theorem wfs1:ch.Fi [ch1]:=by
 intro c a;rw[mem_singleton.1 a];exact⟨Aao,Ϟ,Ϟ⟩
theorem wfs2:ch.Fi [ch2,ch3]:=by
 intro c a;rcases mem_cons.1 a with rfl|a
 ·exact⟨Aao,Ϟ,Ϟ⟩
 ·rw[mem_singleton.1 a];exact⟨Vo,Ϟ,Ϟ⟩
theorem wfs4:ch.Fi [ch4]:=by
 intro c a;rw[mem_singleton.1 a];exact⟨Aap,Ϟ,Ϟ⟩
theorem N4(c:pl.Ag p=0)(h:goodJ p e.j)(a:ch.Ar e.v=0)(b:bt.Ej (pl.Dv p) e.v=0):Dt p e=0:=by
 unfold Dt;rw[h.ok.none c,if_neg (λk=>k rfl),a,if_neg (λk=>k rfl),b]
abbrev sP:=pl.FF
def sK:ByteArray:=pl.As pl.FF 1 (rw2 7 1)
theorem sB:begP sP sK:=SL
def En0:Eng:=⟨C5 sP,[]⟩
def En1:Eng:=⟨St1 sK,vw1⟩
def En2:Eng:=⟨St2 sK,vw2⟩
def En3:Eng:=⟨St3 sK,vw2⟩
theorem en0:Dt sP En0=0:=N4 pl.C2 (good_start pl.C2) Ϡ Ϡ
theorem en1:Dt sP En1=0:=N4 pl.C2 (U5 sB) Ϡ Ϡ
theorem en2:Dt sP En2=0:=N4 pl.C2 (U6 sB) Ϡ Ϡ
theorem en3:Dt sP En3=0:=N4 pl.C2 (Mm sB) Ϡ Ϡ
theorem Qm{a:ch.KV}{l:List ch.Chg}(n:Nat)(h:(List.range n).all (λi=>ch.Ko a l i==0)=true):∀i,i<n->ch.Ko a l i=0:=λi b=>by
 have:=all_eq_true.1 h i (mem_range.2 b);simpa using this
theorem st1:E5 sP En0 ev1 (0,En1,[ch1]):=by
 refine⟨en0,.inr ?_⟩;show _/\_;rw[show stepJ sP En0.j ev1=_ from Adi sB];exact⟨rfl,Ϡ,wfs1,Qm 1 Ϡ,vw1,Ϡ,Ae1,rfl⟩
theorem st2:E5 sP En1 ev2 (0,En2,[ch2,ch3]):=by
 refine⟨en1,.inr ?_⟩;show _/\_;rw[show stepJ sP En1.j ev2=_ from Adj sB];exact⟨rfl,Ϡ,wfs2,Qm 2 Ϡ,vw2,Ϡ,AcT,rfl⟩
theorem st3:E5 sP En2 ev3 (0,En3,[]):=by
 refine⟨en2,.inr ?_⟩;show _/\_;rw[show stepJ sP En2.j ev3=_ from Adk sB];exact⟨rfl,Ϡ,λc a=>absurd a not_mem_nil,λi b=>absurd b (Nat.not_lt_zero i),vw2,Ϡ,AcT,rfl⟩
theorem st4:E5 sP En3 ev4 (7,e0,[]):=by
 refine⟨en3,.inl ?_⟩;rw[show stepJ sP En3.j ev4=_ from beg4 sB];exact⟨Ϟ,rfl⟩
def Lm(K:ByteArray):Ent:=⟨K,1,0,rw2 7 1,true⟩
def Lm2(K:ByteArray):Ent:=⟨K,5,2,rw2 7 4,true⟩
def Rm(K:ByteArray):Ent:=⟨K,2,1,rw2 7 2,true⟩
def St5(K:ByteArray):Jn:=⟨CK ⟨2,[Lm K],[]⟩ (Lm2 K),⟨2,[Rm K],[]⟩,4,noMark,3⟩
theorem N5(K:ByteArray):(CK ⟨2,[Lm K],[]⟩ (Lm2 K)).lim=2/\(CK ⟨2,[Lm K],[]⟩ (Lm2 K)).runs=[]/\(CK ⟨2,[Lm K],[]⟩ (Lm2 K)).mem.Perm [Lm K,Lm2 K]:=by
 have a:=BL ([Lm K]++[Lm2 K]);have b:=a.length_eq;unfold CK Hb;rw[show(El ((⟨2,[Lm K],[]⟩:Buf).mem++[Lm2 K])).length=2 from b];exact⟨rfl,rfl,a⟩
theorem AcU(h:begP p K):stepJ p (St3 K) ev5=(0,St5 K,[ch4]):=by
 rw[En h.err (Mm h)];have e:A8 p (St3 K) ev5=0:=by
  simp[A8,ev5,pl.Bm,tm.Br,h.e4,B8,noMark,Ak,Ac,partsB,St3]
 have a:partners p (St3 K) ev5=[⟨K,2,1,rw2 7 2,true⟩]:=by
  simp[partners,ev5,h.h4,CZ,Ak,Ac,partsB,Jq,St3,h.k4,DO,toJ,h.kind,h.low,h.high]
 have c:BW p (St3 K) ev5=⟨⟨2,[Lm K],[]⟩,⟨2,[Rm K],[]⟩,4,noMark,2⟩:=by
  unfold BW;rw[a];rfl
 have b:(Hc p (St3 K) ev5).2=[ch4]:=by
  simp only[Hc,h.kind,Cv,a];simp[ev5,C6,h.mode,Ba,ch4]
 rw[Js h.kind]at b;rw[if_neg (by rw[e];exact λk=>k rfl),if_neg Ϟ,Js h.kind,c,a,Mj _ h.h4 (by rw[Gu rfl];decide)];dsimp only at b;rw[b];show(0,(⟨(A7 _ 1 (CK _ ⟨pl.As p 1 (rw2 7 4),5,2,rw2 7 4,true⟩)).L,_,_,_,_⟩:Jn),[ch4])=_;rw[h.k4];rfl
theorem Aar(h:begP p K):goodJ p (St5 K):=by
 obtain⟨s,e,_,_,_,a⟩:=beg5 h;rw[AcU h]at e;injection e with _ e
 injection e with e _
 rw[e];exact a
theorem st5:E5 sP En3 ev5 (0,⟨St5 sK,vw3⟩,[ch4])/\Dt sP ⟨St5 sK,vw3⟩=0:=by
 refine⟨⟨en3,.inr ?_⟩,N4 pl.C2 (Aar sB) Ϡ Ϡ⟩;show _/\_;rw[show stepJ sP En3.j ev5=_ from AcU sB];exact⟨rfl,Ϡ,wfs4,Qm 1 Ϡ,vw3,Ϡ,Ae2,rfl⟩
theorem N6(h:goodJ sP e.j)(b:ch.BJ e.v)(a:e.v.length<=χ):wfEn e:=⟨AaU h,b,a⟩
def En5:Eng:=⟨St5 sK,vw3⟩
theorem Aas:∃(E:Nat->Eng) (R:Nat->Int×Eng×List ch.Chg),playsTo sP IM E R/\E 0=⟨C5 sP,[]⟩/\E 5=En5:=by
 obtain⟨b,g⟩:=st5;have f:=Aar (p:=sP) sB;refine⟨fun|0=>En0|1=>En1|2=>En2|3=>En3|4=>En3|_=>En5,fun|0=>(0,En1,[ch1])|1=>(0,En2,[ch2,ch3])|2=>(0,En3,[])|3=>(7,e0,[])|_=>(0,En5,[ch4]),⟨?_,?_,?_⟩,rfl,rfl⟩
 ·intro k a
  match k,a with
  |0,_=>exact show wfEn En0 from N6 (good_start pl.C2) (λc d=>absurd d not_mem_nil) Ϟ
  |1,_=>exact show wfEn En1 from N6 (U5 sB) AcS Ϟ
  |2,_=>exact show wfEn En2 from N6 (U6 sB) Vp Ϟ
  |3,_=>exact show wfEn En3 from N6 (Mm sB) Vp Ϟ
  |4,_=>exact show wfEn En3 from N6 (Mm sB) Vp Ϟ
  |5,_=>exact show wfEn En5 from N6 f Aaq (by show(2:Nat)<=_;decide)
 ·intro k a
  match k,a with
  |0,_=>exact st1
  |1,_=>exact st2
  |2,_=>exact st3
  |3,_=>exact st4
  |4,_=>exact b
 ·intro k a
  match k,a with
  |0,_=>rfl
  |1,_=>rfl
  |2,_=>rfl
  |3,_=>rfl
  |4,_=>rfl
end jn
end Go.Proofs.YtfkihidbnfkbaaaGreatDoor
