import Derived.Test.YtfkihidbnfkbaaaGreatDoorPv10
import Derived.Test.YtfkihidbnfkbaaaGreatDoorPv7
set_option linter.all false
set_option maxHeartbeats 8000000
set_option maxRecDepth 100000
open Go.ChangeShapes Go.WideShapes Go.ChangeAt Go.RowKit Go.Maps Go.WideMaps
open Inhabited renaming default->ϰ
namespace Go.Proofs.YtfkihidbnfkbaaaGreatDoor
open Go.Proofs.Tryz
namespace ch
open vl
variable {w w' : Ϡ} {base : Nat} {v : Value} {out : List Cnt}
def VO(w:World)(base:Nat)(v:Value)(out:List Cnt):Prop:=∃l:List (Value×Int),l.length=out.length/\w.ownsRow base 83 2 v l.length (flat l)/\∀i,i<out.length->
 (l.getD i (.bool false,0)).2=(out.getD i ϰ).n/\∃ad cap,(l.getD i (.bool false,0)).1=vS ad (out.getD i ϰ).r.length cap/\AM w base (vS ad (out.getD i ϰ).r.length cap) (out.getD i ϰ).r
theorem Af6{C:Nat}(h:VS w C base v out):VO w base v out:=by
 obtain⟨l,e,f,g⟩:=h.rows;refine⟨l,e,f,λi d=>?_⟩;obtain⟨a,j,k,b,c,_⟩:=g i d;exact⟨a,j,k,b,c⟩
theorem VO.mono{a b:Nat}(h:VO w a v out)(c:b<=a):VO w b v out:=by
 obtain⟨l,j,k,m⟩:=h;refine⟨l,j,World.ownsRow.mono k c,λi g=>?_⟩;obtain⟨d,n,o,e,f⟩:=m i g;exact⟨d,n,o,e,World.ownsRow.mono f c⟩
theorem VO.below(h:VO w base v out)(a:ϣ w w'):VO w' base v out:=by
 obtain⟨l,f,g,j⟩:=h;refine⟨l,f,own_below g a,λi e=>?_⟩;obtain⟨b,k,m,c,d⟩:=j i e;exact⟨b,k,m,c,own_below d a⟩
theorem VO.other(h:VO w base v out)(c:∀g,bf.Ah w g 83\/bf.Ah w g 119->w'.heap[g]? =w.heap[g]?):VO w' base v out:=by
 obtain⟨l,k,d,m⟩:=h;refine⟨l,k,A1 d (λg a=>c g (.inl (bf.A9 d a))),λi j=>?_⟩;obtain⟨e,n,o,f,b⟩:=m i j;exact⟨e,n,o,f,A1 b (λg a=>c g (.inr (bf.A9 b a)))⟩
theorem VO.at{ad:ϡ}{cap n:Nat}(h:VO w base (vS ad n cap) out):viewAt w ad out:=by
 intro i o;obtain⟨l,q,d,r⟩:=h;obtain⟨f,s,t,j,k⟩:=r i o;rcases d.2 with⟨e,m⟩|⟨g,u,x,e,y,A,z⟩
 ·rw[q]at m;omega
 ·injection e with ha _ _
  subst ha;have c:=World.ownsRow.cells d (g:=g) rfl;have p:i<l.length:=Ϥ;have a:=Adq l i p;have b:=addr_add g;refine⟨g,0,s,t,rfl,?_,FF k,?_⟩
  ·have:=c _ _ a.1;rw[b,j]at this;exact this
  ·have:=c _ _ a.2;rw[b,f]at this;exact this
theorem VO.nil(h:base<=w.heap.size):VO w base (vS none 0 0) []:=⟨[],rfl,World.ownsRow_nil _ _ _ _,λi a=>absurd a (Nat.not_lt_zero i)⟩
theorem Zw(B l:Nat)(out:List Cnt)(w:Ϡ)(j:Ei w B l (Be out))(z:rising (Be out))(y:∀c∈out,rowOk c.r)(x:out.length<=100000):
 χ 165 #[.map (some B)] w λe w'=>(∃d f,e= .returned (vS d out.length f)/\VO w' w.heap.size (vS d out.length f) out)/\ϣ w w':=by
 obtain⟨M,h,D,E,F⟩:=info_parts Ms;obtain⟨a,L,p,u⟩:=run_make_own (P:=Tryz.prog) w w.heap.size 40 83 M (.agg #[ώ,Ϗ]) 2 underlying40 h D E .i64 .i64 out.length (by rw[F];omega) Ϯ nR;have m:ϣ w a:=bR.grown u nR (λk K=>by cases K);have Q:w.heap.size<a.heap.size:=(AL p (g:=w.heap.size) rfl).2;have N:=MD j;have s:Ϣ (VS (ϊ a #[vS (ϋ w) 0 out.length] 40) a.heap.size w.heap.size (vS (ϋ w) 0 out.length) []):=by
  refine⟨Ϩ,Ϩ,λe=>by have:=ob e;omega,ϩ,[],rfl,own_below p ϯ,λi h=>absurd h (Nat.not_lt_zero i)⟩
 have r:Ϣ (Ei (ϊ a #[vS (ϋ w) 0 out.length] 40) B l (Be out)):=Ey (C1 j m) _;have t:Ϣ (CT 229 #[.map (some B),.func (.func 230) #[] #[ω a]] (a.alloc (.cells #[vS (ϋ w) 0 out.length] 40))
  λe w'=>e= .returned (.tuple #[])/\∃v,VS w' a.heap.size w.heap.size v out/\fr a.heap.size (Value.slice (ϋ w) 0 out.length).ownBlock (ϊ a #[vS (ϋ w) 0 out.length] 40) w'):=
  Yh B l out a.heap.size w.heap.size _ _ r.o z y x s.o Ϥ (λe=>by have:=ob e;omega)
 have G:=hV0 j;have A:Ϣ (Maps.size (toD (Be out))=out.length):=by show Maps.size (toD (Be out))=out.length;rw[Kl,Ks]
 obtain⟨n,o⟩:∃n,out.length=n:=⟨_,rfl⟩;rw[o]at L t A x⊢;have H:=hV0 o;clear h D E F p u j z y s r o;go_enter func165,ntmps165;go_wp2_with (first
  |(at_len;refine wpList_len_own _ rfl (.tmp 4) 223 rfl 9 3 underlying223 _ B l _ rfl G.o ?_;rw[A.o])
  |(go_at_call 229;refine t.o.mono ?_;rintro e R ⟨rfl,v,q,J⟩;have O:=q.cell))
 obtain⟨d,f,C⟩:=AeZ q;rw[H.o]at C;subst C;go_ret;exact⟨⟨d,f,rfl,Af6 q⟩,Aa8 (m.alloc m.size _) J Ϥ (λb I=>by have:=ob I;omega) ϩ⟩
def Uj(base:Nat)(v:List Cnt)(l:List Chg)(e:Ending)(w':World):Prop:=
 (Az v≠0/\e= .returned (.tuple #[ώ,Ϗ,vI (Az v)]))\/
 (Az v=0/\Bm l≠0/\e= .returned (.tuple #[ώ,Ϗ,vI (Bm l)]))\/
 (Az v=0/\Bm l=0/\∃k:Nat,k<l.length/\(∀i,i<k->Kv (Be v) l i=0)/\Kv (Be v) l k≠0/\e= .returned (.tuple #[ώ,vI k,vI (Kv (Be v) l k)]))\/
 (Az v=0/\Bm l=0/\(∀i,i<l.length->Kv (Be v) l i=0)/\∃out ad cap,Be out=atK (Be v) l l.length/\Ez out/\Cc out/\e= .returned (.tuple #[vS ad out.length cap,Ϗ,Ϗ])/\VO w' base (vS ad out.length cap) out)
theorem Zx(a c:ϡ)(ca cc:Nat)(v:List Cnt)(l:List Chg)(w:Ϡ)(hv:viewAt w a v)(au:Cc v)(a6:v.length<=ύ)(V:GR w c l)(M:Gg l)(a4:l.length<=ύ):
 χ 98 #[vS a v.length ca,vS c l.length cc] w λe w'=>Uj w.heap.size v l e w'/\ϣ w w':=by
 have T:=Nr a ca v w hv au a6;have KK:=hIz (λ(N:Ϡ) (hb:ϣ w N)=>UO c cc l N (Kt V hb) M a4);have HC:=hV0 V;clear V hv;obtain⟨m,K⟩:∃m,v.length=m:=⟨_,rfl⟩;have HM:=hV0 K;obtain⟨n,L⟩:∃n,l.length=n:=⟨_,rfl⟩;have q:=hV0 L;rw[K]at T;rw[L]at KK;rw[K,L];clear K L;go_enter func98,ntmps98;go_wp2_with fail;refine T.mono ?_;rintro e N ⟨aa,U⟩;rcases aa with⟨t,aq,B,rfl,hB,C⟩|⟨t,rfl⟩
 ·have A:Ϣ (Az v=0):=t;have ai:Ϣ (Ez v):=aq;have f:=hV0 C;clear t aq C;go_wp2_with fail;refine(KK.o N U).mono ?_;rintro e w2 ⟨aa,al⟩;have ar:ϣ w w2:=bT U al;rcases aa with⟨s,ao,ad,kc,rfl,E⟩|⟨s,rfl⟩
  ·have G:Ϣ (Bm l=0):=s;have H:Ϣ (Bf l):=ao;have ay:=hV0 E;have aw:Ϣ (Ei w2 B v.length (Be v)):=C1 f.o al;have HG:Ϣ (Gp (Be v)):=Yn au ai.o;have bb:m<=4096:=by rw[<-HM.o];exact ai.o.1
   have bc:n<=4096:=by rw[<-q.o];exact H.o.1
   rw[q.o];clear s ao E f T;go_wp2
   go_loopw [31] (λi wr=> ∃k:Nat,k<=n/\i=vI k/\Ei wr B (m+k) (atK (Be v) l k)/\ϣ w wr/\GV wr ad l/\(∀i,i<k->Kv (Be v) l i=0)) (λi _=>n - (intOf i).toNat)
   case atStart=>exact⟨0,Ϥ,rfl,by rw[<-HM.o];exact aw.o,ar,ay.o,λi J=>absurd J (Nat.not_lt_zero i)⟩
   case round=>
    obtain⟨k,hk,rfl,C,j,E,ak⟩:=hrel;have f:=hV0 C;have af:=hV0 E;have O:=hV0 ak;clear C E ak;by_cases a5:k<n
    ·have D:k<l.length:=by rw[q.o];exact a5
     obtain⟨b,o,ra,rc,e,x1,_,_⟩:=HC.o k D;subst e;have q1:=cLz j x1;obtain⟨g,e,q2⟩:=af.o k D;subst e;have Q:Ϣ (rowOk (l.getD k ϰ).r):=WJ M H.o k D;have y:Ϣ (Gp (atK (Be v) l k)):=WK HG.o M H.o k Ϥ;have z:Ϣ (atK (Be v) l (k+1)=UG (atK (Be v) l k) (encR (l.getD k ϰ).r) (Fq (l.getD k ϰ).k)):=SO (Be v) l k D;have u:Ϣ (Kv (Be v) l k=Adi (atK (Be v) l k) (encR (l.getD k ϰ).r) (Fq (l.getD k ϰ).k)):=rfl;obtain⟨⟨F,r⟩,an⟩:∃c,l.getD k ϰ=c:=⟨_,rfl⟩;rw[an]at q1 q2 Q z u;dsimp only at q1 q2 Q z u;clear x1 an;obtain⟨p,X⟩:∃x,(⟨(encR r).toArray⟩:ByteArray)=x:=⟨_,rfl⟩;have ae:Ϣ (encR r=p.data.toList):=by show encR r=p.data.toList;rw[<-X]
     have ax:Ϣ (p.size<=maxLen):=by
      show p.size<=maxLen;rw[<-A2,<-ae.o];exact Adx Q.o
     rw[X]at q2;rw[ae.o]at z u;clear X;have i1:=nn0 k;have i2:(k:Int)<(n:Int):=Ϥ;have a1:=AaF y.o p.data.toList;have a7:=Adv F;have a2:=y.o.len;have S:Ϣ (∀w',Ei w' B (m+k) (atK (Be v) l k)->CT 163 #[.map (some B),.string p,vI (Fq F)] w' λe av=>e= .returned (vI (Kv (Be v) l k))/\Ei av B (m+k+1) (atK (Be v) l (k+1))/\w'.grownBy av (some B)):=λw' h=>by
      rw[z.o,u.o];exact Adj B (m+k) _ p (Fq F) w' h ax.o Ϯ Ϥ Ϥ Ϥ Ϥ Ϥ
     clear z u a1 a7 a2;obtain⟨er,W⟩:∃x,Kv (Be v) l k=x:=⟨_,rfl⟩;rw[W]at S;have P:=hV0 W;clear W;by_cases e0:er=0
     ·subst e0;go_wp2_with (first
       |(go_at_call 164;refine(SH F _).mono ?_;rintro e wa ⟨rfl,rfl⟩)
       |(go_at_call 163;refine(S.o _ f.o).mono ?_;rintro e wb ⟨rfl,am,I⟩))
      go_roundw;exact⟨k+1,Ϥ,by go_num,am,j.grown I j.size (λx d=>by cases d;exact hB),QH af.o f.o I,λi J=>by
       rcases Nat.lt_or_ge i k with h|h
       ·exact O.o i h
       ·rw[show i=k by omega];exact P.o⟩
      simp[intOf];omega
     ·have ba:(er==0)=false:=by simpa using e0
      go_wp2_with (first
       |(go_at_call 164;refine(SH F _).mono ?_;rintro e wa ⟨rfl,rfl⟩)
       |(go_at_call 163;refine(S.o _ f.o).mono ?_;rintro e wb ⟨rfl,am,I⟩))
      go_ret3
      exact⟨.inr (.inr (.inl ⟨A.o,G.o,k,D,O.o,by rw[P.o];exact e0,AaJ rfl P.o.symm⟩)),j.grown I j.size (λx d=>by cases d;exact hB)⟩
    ·have a3:k=n:=Ϥ;have y:Ϣ (Gp (atK (Be v) l k)):=WK HG.o M H.o k (by rw[q.o];exact hk);obtain⟨out,Y,Z⟩:=Yl y.o.key;have ag:=hV0 Y;have ac:Ϣ (Gp (Be out)):=by show Gp (Be out);rw[Y];exact y.o
     have ab:=Ym ac.o Z;have bd:=ab.1.1;have KV:=Zw B (m+k) out wr (by rw[ag.o];exact f.o) ac.o.up Z Ϥ;have aj:=hV0 ab;clear ab Y Z;obtain⟨ol,ap⟩:∃x,out.length=x:=⟨_,rfl⟩;rw[ap]at KV;have ah:=hV0 ap;go_wp2_with (go_at_call 165;refine KV.mono ?_;rintro e w9 ⟨⟨oa,oc,rfl,a8⟩,az⟩)
     go_ret3
     exact⟨.inr (.inr (.inr ⟨A.o,G.o,λi J=>O.o i (by rw[q.o]at J;omega),out,oa,oc,by rw[ag.o,a3,q.o],aj.o.1,aj.o.2,Adw ah.o.symm,(by rw[ah.o];exact a8.mono j.size)⟩)),bT j az⟩
  ·have a0:(Bm l==0)=false:=by simpa using s
   have G:=hV0 s;clear s;obtain⟨x,d⟩:∃x,Bm l=x:=⟨_,rfl⟩;have R:=hV0 d;rw[d]at a0⊢;clear d;go_wp2
   go_ret3
   exact⟨.inr (.inl ⟨A.o,G.o,AaJ rfl R.o.symm⟩),ar⟩
 ·have a9:(Az v==0)=false:=by simpa using t
  have A:=hV0 t;clear t;obtain⟨x,d⟩:∃x,Az v=x:=⟨_,rfl⟩;have R:=hV0 d;rw[d]at a9⊢;clear d;go_wp2
  go_ret3
  exact⟨.inl ⟨A.o,AaJ rfl R.o.symm⟩,U⟩
end ch
end Go.Proofs.YtfkihidbnfkbaaaGreatDoor
