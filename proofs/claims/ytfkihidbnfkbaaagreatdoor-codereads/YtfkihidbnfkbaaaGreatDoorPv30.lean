import Derived.Test.YtfkihidbnfkbaaaGreatDoorPv9
import Derived.Test.YtfkihidbnfkbaaaGreatDoorPv15
set_option linter.all false
set_option maxHeartbeats 8000000
set_option maxRecDepth 100000
open Inhabited renaming default->ϰ
open List renaming length->ϲ
namespace Go.Proofs.YtfkihidbnfkbaaaGreatDoor
open ChangeShapes WideShapes ChangeAt RowKit Maps WideMaps Proofs.Tryz
namespace ch
open vl
variable {w w' : ϟ} {base : Nat} {v : Value} {out : List Cnt}
def VO(w:World)(base:Nat)(v:Value)(out:List Cnt):Prop:=∃l:List (Value×Int),ϲ l=ϲ out/\w.ownsRow base 83 2 v (ϲ l) (flat l)/\∀i,i<ϲ out->
 (l.getD i (.bool false,0)).2=(out.getD i ϰ).n/\∃ad cap,(l.getD i (.bool false,0)).1=vS ad (ϲ (out.getD i ϰ).r) cap/\AF w base (vS ad (ϲ (out.getD i ϰ).r) cap) (out.getD i ϰ).r
def AgA{C:Nat}(h:VS w C base v out):VO w base v out:=by
 obtain⟨l,e,f,g⟩:=h.rows;refine⟨l,e,f,λi d=>?_⟩;obtain⟨a,j,k,b,c,_⟩:=g i d;exact⟨a,j,k,b,c⟩
def VO.mono{a b:Nat}(h:VO w a v out)(c:b<=a):VO w b v out:=by
 obtain⟨l,j,k,m⟩:=h;refine⟨l,j,World.ownsRow.mono k c,λi g=>?_⟩;obtain⟨d,n,o,e,f⟩:=m i g;exact⟨d,n,o,e,World.ownsRow.mono f c⟩
def VO.below(h:VO w base v out)(a:Ϣ w w'):VO w' base v out:=by
 obtain⟨l,f,g,j⟩:=h;refine⟨l,f,own_below g a,λi e=>?_⟩;obtain⟨b,k,m,c,d⟩:=j i e;exact⟨b,k,m,c,own_below d a⟩
def VO.other(h:VO w base v out)(c:∀g,bf.Am w g 83\/bf.Am w g 119->w'.heap[g]? =w.heap[g]?):VO w' base v out:=by
 obtain⟨l,k,d,m⟩:=h;refine⟨l,k,A4 d (λg a=>c g (.inl (bf.Az d a))),λi j=>?_⟩;obtain⟨e,n,o,f,b⟩:=m i j;exact⟨e,n,o,f,A4 b (λg a=>c g (.inr (bf.Az b a)))⟩
theorem VO.at{ad:Ϡ}{cap n:Nat}(h:VO w base (vS ad n cap) out):viewAt w ad out:=by
 intro i o;obtain⟨l,q,d,r⟩:=h;obtain⟨f,s,t,j,k⟩:=r i o;rcases d.2 with⟨e,m⟩|⟨g,u,x,e,y,A,z⟩
 ·rw[q]at m;omega
 ·injection e with ha _ _
  subst ha;have c:=RT d (g:=g) rfl;have p:i<ϲ l:=ϣ;have a:=Aeu l i p;have b:=addr_add g;refine⟨g,0,s,t,rfl,?_,D5 k,?_⟩
  ·have:=c _ _ a.1;rw[b,j]at this;exact this
  ·have:=c _ _ a.2;rw[b,f]at this;exact this
def VO.nil(h:base<=w.heap.size):VO w base (vS none 0 0) []:=⟨[],rfl,KX _ _ _ _,λi a=>absurd a (CA i)⟩
theorem Aa9(B l:Nat)(out:List Cnt)(w:ϟ)(j:Em w B l (Bd out))(z:rising (Bd out))(y:∀c∈out,rowOk c.r)(x:ϲ out<=100000):
 χ 165 #[.map (some B)] w λe w'=>(∃d f,e= .returned (vS d (ϲ out) f)/\VO w' w.heap.size (vS d (ϲ out) f) out)/\Ϣ w w':=by
 obtain⟨M,h,D,E,F⟩:=IR Ll;obtain⟨a,L,p,u⟩:=fX (P:=prog) w w.heap.size 40 83 M (.agg #[ώ,Ϗ]) 2 underlying40 h D E .i64 .i64 (ϲ out) (by rw[F];omega) ϭ nR;have m:Ϣ w a:=bR.grown u nR (λk K=>by cases K);have Q:w.heap.size<a.heap.size:=(AL p (g:=w.heap.size) rfl).2;have N:=Nv j;have s:ϡ (VS (ϊ a #[vS (ϋ w) 0 (ϲ out)] 40) a.heap.size w.heap.size (vS (ϋ w) 0 (ϲ out)) []):=by
  refine⟨ϧ,ϧ,λe=>by have:=ob e;omega,Ϩ,[],rfl,own_below p Ϯ,λi h=>absurd h (CA i)⟩
 have r:ϡ (Em (ϊ a #[vS (ϋ w) 0 (ϲ out)] 40) B l (Bd out)):=EF (C7 j m) _;have t:ϡ (CT 229 #[.map (some B),.func (.func 230) #[] #[ω a]] (a.alloc (.cells #[vS (ϋ w) 0 (ϲ out)] 40))
  λe w'=>e= .returned (.tuple #[])/\∃v,VS w' a.heap.size w.heap.size v out/\fr a.heap.size (Value.slice (ϋ w) 0 (ϲ out)).ownBlock (ϊ a #[vS (ϋ w) 0 (ϲ out)] 40) w'):=
  Zp B l out a.heap.size w.heap.size _ _ r.o z y x s.o ϣ (λe=>by have:=ob e;omega)
 have G:=hV0 j;have A:ϡ (Maps.size (toD (Bd out))=ϲ out):=by show Maps.size (toD (Bd out))=ϲ out;rw[Li,Lq]
 obtain⟨n,o⟩:∃n,ϲ out=n:=⟨_,rfl⟩;rw[o]at L t A x⊢;have H:=hV0 o;clear h D E F p u j z y s r o;go_enter func165,ntmps165;go_wp2_with (first
  |(at_len;refine wpList_len_own _ rfl (.tmp 4) 223 rfl 9 3 underlying223 _ B l _ rfl G.o ?_;rw[A.o])
  |(go_at_call 229;refine t.o.mono ?_;rintro e R ⟨rfl,v,q,J⟩;have O:=q.cell))
 obtain⟨d,f,C⟩:=Agj q;rw[H.o]at C;subst C;go_ret;exact⟨⟨d,f,rfl,AgA q⟩,AbD (m.alloc m.size _) J ϣ (λb I=>by have:=ob I;omega) Ϩ⟩
def UO(base:Nat)(v:List Cnt)(l:List Chg)(e:Ending)(w':World):Prop:=
 (Av v≠0/\e= .returned (.tuple #[ώ,Ϗ,vI (Av v)]))\/
 (Av v=0/\Bl l≠0/\e= .returned (.tuple #[ώ,Ϗ,vI (Bl l)]))\/
 (Av v=0/\Bl l=0/\∃k:Nat,k<ϲ l/\(∀i,i<k->Lu (Bd v) l i=0)/\Lu (Bd v) l k≠0/\e= .returned (.tuple #[ώ,vI k,vI (Lu (Bd v) l k)]))\/
 (Av v=0/\Bl l=0/\(∀i,i<ϲ l->Lu (Bd v) l i=0)/\∃out ad cap,Bd out=atK (Bd v) l (ϲ l)/\EG out/\BK out/\e= .returned (.tuple #[vS ad (ϲ out) cap,Ϗ,Ϗ])/\VO w' base (vS ad (ϲ out) cap) out)
theorem AaA(a c:Ϡ)(ca cc:Nat)(v:List Cnt)(l:List Chg)(w:ϟ)(hv:viewAt w a v)(au:BK v)(a6:ϲ v<=ύ)(V:Gp w c l)(M:Gq l)(a4:ϲ l<=ύ):
 χ 98 #[vS a (ϲ v) ca,vS c (ϲ l) cc] w λe w'=>UO w.heap.size v l e w'/\Ϣ w w':=by
 have T:=Ow a ca v w hv au a6;have KK:=hIz (λ(N:ϟ) (hb:Ϣ w N)=>Wa c cc l N (Lr V hb) M a4);have HC:=hV0 V;clear V hv;obtain⟨m,K⟩:∃m,ϲ v=m:=⟨_,rfl⟩;have HM:=hV0 K;obtain⟨n,L⟩:∃n,ϲ l=n:=⟨_,rfl⟩;have q:=hV0 L;rw[K]at T;rw[L]at KK;rw[K,L];clear K L;go_enter func98,ntmps98;go_wp2_with fail;refine T.mono ?_;rintro e N ⟨aa,U⟩;rcases aa with⟨t,aq,B,rfl,hB,C⟩|⟨t,rfl⟩
 ·have A:ϡ (Av v=0):=t;have ai:ϡ (EG v):=aq;have f:=hV0 C;clear t aq C;go_wp2_with fail;refine(KK.o N U).mono ?_;rintro e w2 ⟨aa,al⟩;have ar:Ϣ w w2:=bT U al;rcases aa with⟨s,ao,ad,kc,rfl,E⟩|⟨s,rfl⟩
  ·have G:ϡ (Bl l=0):=s;have H:ϡ (Be l):=ao;have ay:=hV0 E;have aw:ϡ (Em w2 B (ϲ v) (Bd v)):=C7 f.o al;have HG:ϡ (GA (Bd v)):=Zv au ai.o;have bb:m<=4096:=by rw[<-HM.o];exact ai.o.1
   have bc:n<=4096:=by rw[<-q.o];exact H.o.1
   rw[q.o];clear s ao E f T;go_wp2
   go_loopw [31] (λi wr=> ∃k:Nat,k<=n/\i=vI k/\Em wr B (m+k) (atK (Bd v) l k)/\Ϣ w wr/\Hi wr ad l/\(∀i,i<k->Lu (Bd v) l i=0)) (λi _=>n - (intOf i).toNat)
   case atStart=>exact⟨0,ϣ,rfl,by rw[<-HM.o];exact aw.o,ar,ay.o,λi J=>absurd J (CA i)⟩
   case round=>
    obtain⟨k,hk,rfl,C,j,E,ak⟩:=hrel;have f:=hV0 C;have af:=hV0 E;have O:=hV0 ak;clear C E ak;by_cases a5:k<n
    ·have D:k<ϲ l:=by rw[q.o];exact a5
     obtain⟨b,o,ra,rc,e,x1,_,_⟩:=HC.o k D;subst e;have q1:=cLz j x1;obtain⟨g,e,q2⟩:=af.o k D;subst e;have Q:ϡ (rowOk (l.getD k ϰ).r):=XQ M H.o k D;have y:ϡ (GA (atK (Bd v) l k)):=XR HG.o M H.o k ϣ;have z:ϡ (atK (Bd v) l (k+1)=VQ (atK (Bd v) l k) (encR (l.getD k ϰ).r) (F5 (l.getD k ϰ).k)):=T4 (Bd v) l k D;have u:ϡ (Lu (Bd v) l k=Aem (atK (Bd v) l k) (encR (l.getD k ϰ).r) (F5 (l.getD k ϰ).k)):=rfl;obtain⟨⟨F,r⟩,an⟩:∃c,l.getD k ϰ=c:=⟨_,rfl⟩;rw[an]at q1 q2 Q z u;dsimp only at q1 q2 Q z u;clear x1 an;obtain⟨p,X⟩:∃x,(⟨(encR r).toArray⟩:ByteArray)=x:=⟨_,rfl⟩;have ae:ϡ (encR r=p.data.toList):=by show encR r=p.data.toList;rw[<-X]
     have ax:ϡ (p.size<=maxLen):=by
      show p.size<=maxLen;rw[<-A2,<-ae.o];exact Ae1 Q.o
     rw[X]at q2;rw[ae.o]at z u;clear X;have i1:=nn0 k;have i2:(k:Int)<(n:Int):=ϣ;have a1:=AbK y.o p.data.toList;have a7:=Aez F;have a2:=y.o.len;have S:ϡ (∀w',Em w' B (m+k) (atK (Bd v) l k)->CT 163 #[.map (some B),.string p,vI (F5 F)] w' λe av=>e= .returned (vI (Lu (Bd v) l k))/\Em av B (m+k+1) (atK (Bd v) l (k+1))/\w'.grownBy av (some B)):=λw' h=>by
      rw[z.o,u.o];exact Aen B (m+k) _ p (F5 F) w' h ax.o ϭ ϣ ϣ ϣ ϣ ϣ
     clear z u a1 a7 a2;obtain⟨er,W⟩:∃x,Lu (Bd v) l k=x:=⟨_,rfl⟩;rw[W]at S;have P:=hV0 W;clear W;by_cases e0:er=0
     ·subst e0;go_wp2_with (first
       |(go_at_call 164;refine(Ty F _).mono ?_;rintro e wa ⟨rfl,rfl⟩)
       |(go_at_call 163;refine(S.o _ f.o).mono ?_;rintro e wb ⟨rfl,am,I⟩))
      go_roundw;exact⟨k+1,ϣ,by go_num,am,j.grown I j.size (λx d=>by cases d;exact hB),RJ af.o f.o I,λi J=>by
       rcases RN i k with h|h
       ·exact O.o i h
       ·rw[show i=k by omega];exact P.o⟩
      simp[intOf];omega
     ·have ba:(er==0)=false:=by simpa using e0
      go_wp2_with (first
       |(go_at_call 164;refine(Ty F _).mono ?_;rintro e wa ⟨rfl,rfl⟩)
       |(go_at_call 163;refine(S.o _ f.o).mono ?_;rintro e wb ⟨rfl,am,I⟩))
      go_ret3
      exact⟨.inr (.inr (.inl ⟨A.o,G.o,k,D,O.o,by rw[P.o];exact e0,AbO rfl P.o.symm⟩)),j.grown I j.size (λx d=>by cases d;exact hB)⟩
    ·have a3:k=n:=ϣ;have y:ϡ (GA (atK (Bd v) l k)):=XR HG.o M H.o k (by rw[q.o];exact hk);obtain⟨out,Y,Z⟩:=Zt y.o.key;have ag:=hV0 Y;have ac:ϡ (GA (Bd out)):=by show GA (Bd out);rw[Y];exact y.o
     have ab:=Zu ac.o Z;have bd:=ab.1.1;have KV:=Aa9 B (m+k) out wr (by rw[ag.o];exact f.o) ac.o.up Z ϣ;have aj:=hV0 ab;clear ab Y Z;obtain⟨ol,ap⟩:∃x,ϲ out=x:=⟨_,rfl⟩;rw[ap]at KV;have ah:=hV0 ap;go_wp2_with (go_at_call 165;refine KV.mono ?_;rintro e w9 ⟨⟨oa,oc,rfl,a8⟩,az⟩)
     go_ret3
     exact⟨.inr (.inr (.inr ⟨A.o,G.o,λi J=>O.o i (by rw[q.o]at J;omega),out,oa,oc,by rw[ag.o,a3,q.o],aj.o.1,aj.o.2,Ae0 ah.o.symm,(by rw[ah.o];exact a8.mono j.size)⟩)),bT j az⟩
  ·have a0:(Bl l==0)=false:=by simpa using s
   have G:=hV0 s;clear s;obtain⟨x,d⟩:∃x,Bl l=x:=⟨_,rfl⟩;have R:=hV0 d;rw[d]at a0⊢;clear d;go_wp2
   go_ret3
   exact⟨.inr (.inl ⟨A.o,G.o,AbO rfl R.o.symm⟩),ar⟩
 ·have a9:(Av v==0)=false:=by simpa using t
  have A:=hV0 t;clear t;obtain⟨x,d⟩:∃x,Av v=x:=⟨_,rfl⟩;have R:=hV0 d;rw[d]at a9⊢;clear d;go_wp2
  go_ret3
  exact⟨.inl ⟨A.o,AbO rfl R.o.symm⟩,U⟩
end ch
