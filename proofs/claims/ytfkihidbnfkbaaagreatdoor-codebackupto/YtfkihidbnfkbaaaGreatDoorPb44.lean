import Derived.Test.YtfkihidbnfkbaaaGreatDoorPb43
import Derived.Test.YtfkihidbnfkbaaaGreatDoorPb40
set_option linter.all false
set_option maxHeartbeats 8000000
set_option maxRecDepth 100000
open Go.ChangeShapes Go.WideShapes Go.ChangeAt Go.RowKit List
namespace Go.Proofs.YtfkihidbnfkbaaaGreatDoor
open Go.Proofs.Tryz
namespace cd
open vl bf bt jn
theorem Pa(e:Egg)(x y:GGX)(w:ϙ)(h:eggAt w e x)(f:eggAt w e y)(E:ch.BJ e.v)(F:e.v.length<=χ)(J:U7 e.j)(D:e.gs.length<=1000000/\∀g∈e.gs,g.row.length<=1000/\g.bags.length<=1000/\∀l∈g.bags,l.length<=1073741824):
 η 20 #[egV e x,egV e y] w (θ w (.bool true)):=by
 have H:ϛ (∀b,Ϝ w b->CT 42 #[joinV e.j x.y,joinV e.j y.y] b (θ b (.bool true))):=λb c=>Y2 e.j x.y y.y b (h.j.below c) (f.j.below c) J;have K:=hIz (λ(b:ϙ) (c:Ϝ w b)=>gr.Xv x.ga y.ga x.gc y.gc x.xs y.xs e.gs b (h.g.below c) (f.g.below c) D.1 D.2);have KV:ϛ (∀b,Ϝ w b->CT 44 #[vS x.va e.v.length x.vc,vS y.va e.v.length y.vc] b (θ b (.bool true))):=λb c=>by
  have:=ch.Oe x.va y.va x.vc y.vc e.v e.v b (ch.Bg h.v c) (ch.Bg f.v c) E E F F;rw[decide_eq_true rfl]at this;exact this
 rw[AK,AK]at H;unfold egV egC;clear h f E F J D;go_enter func20,ntmps20;go_wp2_with fail;generalize B:(World.alloc (World.alloc w _) _)=V;have C:Ϝ w V:=by rw[<-B];exact Ϩ.alloc ϟ _
 have a:ϛ (SB V w.heap.size (egC e x)/\SB V (w.heap.size+1) (egC e y)):=by
  subst B;have I:=SB.new (w.alloc (.cells (egC e x).toArray 42)) (egC e y) 42;rw[World.size_alloc]at I;exact⟨(SB.new w (egC e x) _).below Ϩ,I⟩
 clear B;have u0:=a.o.1.cell 0 _ rfl;have u1:=a.o.1.cell 1 _ rfl;have u2:=a.o.1.cell 2 _ rfl;have u3:=a.o.1.cell 3 _ rfl;have u4:=a.o.1.cell 4 _ rfl;have u5:=a.o.1.cell 5 _ rfl;have u6:=a.o.1.cell 6 _ rfl;have u7:=a.o.1.cell 7 _ rfl;have u8:=a.o.1.cell 8 _ rfl;have u9:=a.o.1.cell 9 _ rfl;have u10:=a.o.1.cell 10 _ rfl;have k:=a.o.2.cell 0 _ rfl;have m:=a.o.2.cell 1 _ rfl;have q:=a.o.2.cell 2 _ rfl;have r:=a.o.2.cell 3 _ rfl;have s:=a.o.2.cell 4 _ rfl;have t:=a.o.2.cell 5 _ rfl;have u:=a.o.2.cell 6 _ rfl;have v:=a.o.2.cell 7 _ rfl;have z:=a.o.2.cell 8 _ rfl;have A:=a.o.2.cell 9 _ rfl;have n:=a.o.2.cell 10 _ rfl;refine(H.o V C).mono ?_;rintro o b ⟨rfl,i⟩;have d:Ϝ w b:=bT C i;replace a:ϛ (SB b w.heap.size (egC e x)/\SB b (w.heap.size+1) (egC e y)):=⟨a.o.1.below i,a.o.2.below i⟩;clear u0 u1 u2 u3 u4 u5 u6 u7 u8 u9 u10 k m q r s t u v z A n i C;have u0:=a.o.1.cell 0 _ rfl;have u1:=a.o.1.cell 1 _ rfl;have u2:=a.o.1.cell 2 _ rfl;have u3:=a.o.1.cell 3 _ rfl;have u4:=a.o.1.cell 4 _ rfl;have u5:=a.o.1.cell 5 _ rfl;have u6:=a.o.1.cell 6 _ rfl;have u7:=a.o.1.cell 7 _ rfl;have u8:=a.o.1.cell 8 _ rfl;have u9:=a.o.1.cell 9 _ rfl;have u10:=a.o.1.cell 10 _ rfl;have k:=a.o.2.cell 0 _ rfl;have m:=a.o.2.cell 1 _ rfl;have q:=a.o.2.cell 2 _ rfl;have r:=a.o.2.cell 3 _ rfl;have s:=a.o.2.cell 4 _ rfl;have t:=a.o.2.cell 5 _ rfl;have u:=a.o.2.cell 6 _ rfl;have v:=a.o.2.cell 7 _ rfl;have z:=a.o.2.cell 8 _ rfl;have A:=a.o.2.cell 9 _ rfl;have n:=a.o.2.cell 10 _ rfl;go_wp2_with fail;refine(K.o b d).mono ?_;rintro o G ⟨rfl,j⟩;replace d:Ϝ w G:=bT d j;replace a:ϛ (SB G w.heap.size (egC e x)/\SB G (w.heap.size+1) (egC e y)):=⟨a.o.1.below j,a.o.2.below j⟩;clear u0 u1 u2 u3 u4 u5 u6 u7 u8 u9 u10 k m q r s t u v z A n j;have u0:=a.o.1.cell 0 _ rfl;have u1:=a.o.1.cell 1 _ rfl;have u2:=a.o.1.cell 2 _ rfl
 have u3:=a.o.1.cell 3 _ rfl;have u4:=a.o.1.cell 4 _ rfl;have u5:=a.o.1.cell 5 _ rfl;have u6:=a.o.1.cell 6 _ rfl;have u7:=a.o.1.cell 7 _ rfl;have u8:=a.o.1.cell 8 _ rfl;have u9:=a.o.1.cell 9 _ rfl;have u10:=a.o.1.cell 10 _ rfl;have k:=a.o.2.cell 0 _ rfl;have m:=a.o.2.cell 1 _ rfl;have q:=a.o.2.cell 2 _ rfl;have r:=a.o.2.cell 3 _ rfl;have s:=a.o.2.cell 4 _ rfl;have t:=a.o.2.cell 5 _ rfl;have u:=a.o.2.cell 6 _ rfl;have v:=a.o.2.cell 7 _ rfl;have z:=a.o.2.cell 8 _ rfl;have A:=a.o.2.cell 9 _ rfl;have n:=a.o.2.cell 10 _ rfl;go_wp2_with fail;refine(KV.o _ d).mono ?_;rintro o M ⟨rfl,L⟩;go_wp2;go_ret;exact⟨rfl,bT d L⟩
end cd
namespace cd
open vl bf jn
attribute [local go_sem] Oper.semAt_some
def Eg5:Egg:=⟨En5.j,[],En5.v⟩
def gx(y:EX):GGX:=⟨y.y,none,0,[],y.va,y.vc⟩
theorem AcW{w:ϙ}{y:EX}(h:enAt w En5 y):eggAt w Eg5 (gx y):=⟨h.j,⟨rfl,λi a=>absurd a (Nat.not_lt_zero i),λi a=>absurd a (Nat.not_lt_zero i)⟩,h.v⟩
theorem VA:wfEg Eg5:=⟨QP.j,λg a=>absurd a not_mem_nil,Nat.zero_le _,QP.v,QP.n⟩
theorem Aa7:Bp sP Eg5=0:=by
 have h:=Za;have a:GH sP Eg5.gs=0:=by
  unfold GH;rw[if_neg Ϟ,if_neg Ϟ]
 unfold Dt at h;unfold Bp;rw[a];exact h
theorem Un:goodE sP Eg5:=GV Aa7
theorem AcX:(Cc Eg5).length<=1048576:=Nat.le_trans Abq Ϟ
theorem wrS5:wrS sP Eg5=(Cc Eg5,0):=by
 unfold wrS;rw[Aa7,if_neg Ϟ,if_neg (by have:=AcX;omega)]
theorem Uo(w:ϙ)(h:Ju w)(af:∃T a,Δ w 1 0 (.iface T a)):η 9 #[] w (θ w (.bool true)):=by
 obtain⟨A3,aj⟩:=nM ({data:=#[97,98,99]}:ByteArray);have Y:ϛ (CT 10 #[.string {data:=#[97,98,99]}] w (θ w (.tuple #[.string ⟨M5.toArray⟩,ω]))):=by
  have:=Xp {data:=#[97,98,99]} w h;rw[show({data:=#[97,98,99]}:ByteArray).data.toList=[97,98,99]from rfl,Abr]at this;exact this
 have Z:ϛ (∀c,Ϝ w c->CT 14 #[.string ⟨M5.toArray⟩] c (θ c (.tuple #[.string {data:=#[97,98,99]},ω]))):=λc s=>by
  have hl:(⟨M5.toArray⟩:ByteArray).size=11:=size_toArray.trans UH;have:=ZM ⟨M5.toArray⟩ c (EC h s) (by rw[hl];decide);rw[show(⟨M5.toArray⟩:ByteArray).data.toList=M5 from rfl,Abs]at this;exact this
 have ah:ϛ (∀c,Ϝ w c->CT 12 #[.string {data:=#[49,50,51,52,53,54,55,56,57]}] c λo d=>o= .returned (.int .u32 3421780262)/\d=c):=λc s=>by
  have:=Pq {data:=#[49,50,51,52,53,54,55,56,57]} c (EC h s) Ϟ;rw[show({data:=#[49,50,51,52,53,54,55,56,57]}:ByteArray).data.toList=[49,50,51,52,53,54,55,56,57]from rfl,Zb]at this;exact this
 have A:ϛ (∀c,CT 23 #[] c λo d=>(∃x,o= .returned (pl.Ap sP x)/\pl.planAt d sP x)/\Ϝ c d):=λc=>by
  refine(pl.TQ c).mono ?_;rintro o d ⟨⟨x,rfl,l,_⟩,s⟩;exact⟨⟨x,rfl,l⟩,s⟩
 have ai:=hIz (λ(c:ϙ)=>XK c);have O:ϛ (∀x b z c,pl.planAt c sP x->Jp c (τ b) IM z->CT 22 #[pl.Ap sP x,vS (τ b) 5 5] c λo d=>(∃y t nv,o= .returned (.tuple #[enV En5 y,t,nv,ω])/\enAt d En5 y)/\Ϝ c d):=λx b z c l L=>by
  obtain⟨E,R,a2,ak,al⟩:=Aas;have:=Xc sP x IM z (τ b) 5 E R c pl.Lk l rfl pl.C2 ak a2 L Ϟ;rw[show IM.length=5 from rfl,al]at this;exact this
 have D:ϛ (∀x y c,pl.planAt c sP x->enAt c En5 y->CT 16 #[pl.Ap sP x,enV En5 y] c (θ c (.tuple #[.string ⟨(Cc Eg5).toArray⟩,ω]))):=λx y c l ha=>by
  have:=Jm sP x Eg5 (gx y) c pl.Lk l (AcW ha) VA (λ_=>⟨Qn Un VA,Ϟ⟩);rw[wrS5]at this;exact this
 have C:ϛ (∀x c,Ϝ w c->pl.planAt c sP x->CT 18 #[pl.Ap sP x,.string ⟨(Cc Eg5).toArray⟩] c λo d=>(∃y,o= .returned (.tuple #[egV Eg5 y,ω])/\eggAt d Eg5 y)/\Ϝ c d):=λx c s l=>by
  obtain⟨T,a,ha⟩:=af;refine(OY sP x (Cc Eg5) c pl.Lk l ⟨T,a,cLz s ha⟩).mono ?_;rintro o d ⟨am,h1|⟨_,e,y,ho,hs,_,_,rfl,hy⟩|⟨_,hn,_⟩⟩
  ·exact absurd pl.C2 h1.1
  ·obtain rfl:=(Qy sP.limit e Eg5 [] [] ho (Km Un VA) (by rw[append_nil,append_nil];exact hs.symm)).1;exact⟨⟨y,rfl,hy⟩,am⟩
  ·exact absurd Aa7 (hn Eg5 (Km Un VA) rfl AcX)
 have P:ϛ (∀x y c,enAt c En5 x->eggAt c Eg5 y->CT 20 #[enV En5 x,egV Eg5 y] c (θ c (.bool true))):=λx y c hx hy=>Pa Eg5 (gx x) y c (AcW hx) hy QP.v QP.n Aem ⟨Nat.zero_le _,λg J=>absurd J not_mem_nil⟩;have X:ϛ ((⟨M5.toArray⟩:ByteArray).size=11):=size_toArray.trans UH;obtain⟨F,hF⟩:=nM (⟨M5.toArray⟩:ByteArray);obtain⟨B,hB⟩:=nM (⟨(Cc Eg5).toArray⟩:ByteArray);obtain⟨p,l⟩:=nM sP;obtain⟨e,he⟩:=nM En5;obtain⟨g,J⟩:=nM Eg5;rw[hF]at Y Z X;rw[hB]at D C;rw[l]at A O D C;rw[he]at O D P;rw[J]at C P;clear hF hB l he J aj A3 h af;go_enter func9,ntmps9;go_wp2_with fail;refine Y.o.mono ?_;rintro o c ⟨rfl,aa⟩;go_wp2_with fail;refine(Z.o _ aa).mono ?_;rintro o w2 ⟨rfl,ao⟩;have aw:Ϝ w w2:=bT aa ao;go_wp2_with fail;refine(A.o _).mono ?_;rintro o w3 ⟨⟨x,rfl,n⟩,ap⟩;have ax:Ϝ w w3:=bT aw ap;go_wp2_with fail;refine(ai.o _).mono ?_;rintro o w4 ⟨⟨b,z,rfl,L⟩,ab⟩;have ay:Ϝ w w4:=bT ax ab;go_wp2_with fail;refine(O.o x b z w4 (pl.Ae n ab) L).mono ?_;rintro o f ⟨⟨y,t,nv,rfl,hy⟩,aq⟩;have az:Ϝ w f:=bT ay aq;have k:=hqz hy;clear hy L n;rw[ET e y];go_upto_region 4 with fail;generalize r:(World.alloc f _)=V;have I:Ϝ f V:=by rw[<-r];exact Ϩ
 have j:ϛ (Dp V f.heap.size e y):=by
  subst r;exact Ey ..
 clear r;have av:Ϝ w V:=bT az I;replace k:ϛ (enAt V e y):=k.o.below I;refine gr.Ds 8 rfl Ϡ (S:=(λd=>Δ d f 0 (vI e.j.L.lim)/\Δ d f 1 (vS y.y.l.m.1.1 y.y.l.m.1.2.1 y.y.l.m.1.2.2)/\Δ d f 2 (vS y.y.l.ra y.y.l.rs.length y.y.l.rc)/\Δ d f 3 (vI e.j.R.lim)/\Δ d f 4 (vS y.y.r.m.1.1 y.y.r.m.1.2.1 y.y.r.m.1.2.2)/\Δ d f 5 (vS y.y.r.ra y.y.r.rs.length y.y.r.rc)/\Δ d f 6 (vI e.j.lm)/\Δ d f 7 (vI e.j.rm)/\Δ d f 8 (vI e.j.seq)/\Δ d f 9 (vS none 0 0)/\Δ d f 10 (vS y.va e.v.length y.vc))) (Bl j.o bR.drew) (λm=>?_);refine tkz 1 32 m ?_;refine rD 0 λK u=>?_;go_simp;go_at_call 23;refine(A.o _).mono ?_;rintro o w6 ⟨⟨x2,rfl,n⟩,I⟩;have W:Ϝ V w6:=bR.drew.trans I;go_wp2_with fail;refine u.out _ _ (Bl j.o W) (λm=>?_);clear u K
 try simp only[Act.put,sI,sZ,sS]
 refine rD 2 λK u=>?_;go_simp;go_at_call 16;rw[<-ET e y];refine(D.o x2 y w6 n (k.o.below W)).mono ?_;rintro o v ⟨rfl,ar⟩;have G:Ϝ V v:=bT W ar;go_wp2_with fail;refine u.out _ _ (Bl j.o G) (λm=>?_);clear u K
 try simp only[Act.put,sI,sZ,sS]
 refine tkz 3 30 m ?_;refine tkz 4 34 m ?_;refine tkz 5 35 m ?_;refine tkz 6 9 m ?_;refine tkz 7 10 m ?_;refine wpAnyH_done Ϡ ?_ _;have ae:Ϝ w v:=bT av G;replace k:ϛ (enAt v e y):=k.o.below G;replace j:ϛ (Dp v f.heap.size e y):=Bl j.o G;clear m n;go_wp2_with fail;refine(A.o _).mono ?_;rintro o w8 ⟨⟨x3,rfl,n⟩,ac⟩;have a0:Ϝ w w8:=bT ae ac;go_wp2_with fail;refine(C.o x3 w8 a0 n).mono ?_;rintro o q ⟨⟨M,rfl,ag⟩,au⟩;have Q:Ϝ v q:=bT ac au;have a1:Ϝ w q:=bT ae Q;unfold egV egC;replace k:ϛ (enAt q e y):=k.o.below Q;replace j:ϛ (Dp q f.heap.size e y):=Bl j.o Q;have N:=hqz ag;clear ag n;go_upto_region 6 with fail;generalize r:(World.alloc q _)=U;have H:Ϝ q U:=by rw[<-r];exact Ϩ
 have i:ϛ (SB U q.heap.size (egC g M)):=by
  subst r;exact SB.new q (egC g M) _
 clear r;have ad:Ϝ w U:=bT a1 H;replace k:ϛ (enAt U e y):=k.o.below H;replace N:ϛ (eggAt U g M):=N.o.below H;replace j:ϛ (Dp U f.heap.size e y):=Bl j.o H;obtain⟨u0,u1,u2,u3,u4,u5,u6,u7,u8,u9,u10⟩:=j.o;have v0:=i.o.cell 0 _ rfl;have v1:=i.o.cell 1 _ rfl;have v2:=i.o.cell 2 _ rfl;have v3:=i.o.cell 3 _ rfl;have v4:=i.o.cell 4 _ rfl;have v5:=i.o.cell 5 _ rfl;have v6:=i.o.cell 6 _ rfl;have v7:=i.o.cell 7 _ rfl;have v8:=i.o.cell 8 _ rfl;have v9:=i.o.cell 9 _ rfl;have a4:=i.o.cell 10 _ rfl;have a3:=X.o;go_wp2_with fail;refine(ah.o _ ad).mono ?_;rintro o a5 ⟨rfl,rfl⟩;go_wp2_with fail;rw[<-ET e y];refine(P.o y M _ k.o N.o).mono ?_;rintro o a6 ⟨rfl,an⟩;go_wp2;go_ret;exact⟨rfl,bT ad an⟩
end cd
namespace cd
open vl bf jn
variable {p : pl.Pln} {e : Egg}
theorem Aeb{l:List UInt8}(h:wrS p e=(l,0)):Bp p e=0/\(Cc e).length<=1048576/\l=Cc e:=by
 unfold wrS at h;split at h
 ·rename_i k;exact absurd (congrArg Prod.snd h) k
 split at h
 ·have:=congrArg Prod.snd h;simp at this
 ·rename_i a b;exact⟨Decidable.not_not.1 a,ϝ,(congrArg Prod.fst h).symm⟩
theorem Aa8(h:Bp p e=0):pl.Ag p=0:=by
 unfold Bp at h;by_cases a:AQ p e.j=0
 ·exact GO a
 ·rw[if_pos a]at h;exact absurd h a
def AcY(e:Egg):Prop:=U7 e.j/\e.gs.length<=1000000/\∀g∈e.gs,g.row.length<=1000/\g.bags.length<=1000/\∀l∈g.bags,l.length<=1073741824
theorem Ya(p:pl.Pln)(x:pl.PA)(e:Egg)(y:GGX)(s:List UInt8)(w:ϙ)(hw:pl.wfPlan p)(hp:pl.planAt w p x)(ha:eggAt w e y)(D:wfEg e)(ap:Bp p e=0->(lst AM e.gs).length<=3000000000000)(ao:∀z,Fb p.limit z->Bp p z=0->(Cc z).length<=1048576->AcY z)(hn:Ju w)(an:∃T a,Δ w 1 0 (.iface T a)):
 η 7 #[pl.Ap p x,egV e y,.string ⟨s.toArray⟩] w (θ w (.bool true)):=by
 have ak:∀b,Ϝ w b->∃T a,Δ b 1 0 (.iface T a):=λb f=>by
  obtain⟨T,a,h⟩:=an;exact⟨T,a,cLz f h⟩
 have G:=hIz (λ(b:ϙ) (f:Ϝ w b)=>Jm p x e y b hw (pl.Ae hp f) (ha.below f) D (λc=>⟨Qn (GV c) D,ap c⟩));have KR:=hIz (λl (b:ϙ) (f:Ϝ w b)=>OY p x l b hw (pl.Ae hp f) (ak b f));have al:ϛ (∀z u b,Fb p.limit z->(Cc z).length<=1048576->Bp p z=0->Ϝ w b->eggAt b z u->CT 16 #[pl.Ap p x,egV z u] b (θ b (.tuple #[.string ⟨(Cc z).toArray⟩,ω]))):=λz u b r g c f hz=>by
  have:=Jm p x z u b hw (pl.Ae hp f) hz (N8 r g) (λc=>⟨Qn (GV c) (N8 r g),by unfold Cc at g;simp only[lAp]at g;omega⟩);have e1:wrS p z=(Cc z,0):=by
   unfold wrS;rw[c,if_neg Ϟ,if_neg ϝ]
  rw[e1]at this;exact this
 have KS:ϛ (∀u b,Bp p e=0->(Cc e).length<=1048576->Ϝ w b->eggAt b e u->CT 20 #[egV e y,egV e u] b (θ b (.bool true))):=λu b c g f C=>by
  have hf:=ao e (Km (GV c) D) c g;exact Pa e y u b (ha.below f) C D.v D.n hf.1 hf.2
 have KB:=hIz (λ(b:ϙ) (f:Ϝ w b)=>Uo b (EC hn f) (ak b f));have HG:ϛ (Bp p e=0->Fb p.limit e):=λc=>Km (GV c) D;obtain⟨⟨l,er⟩,hR⟩:∃z,wrS p e=z:=⟨_,rfl⟩;have HR:=hqz hR;rw[hR]at G;dsimp only at G;clear hR hw hp ha D ap ao hn an ak;obtain⟨q,hq⟩:=nM (⟨s.toArray⟩:ByteArray);have HQ:=hqz hq;rw[hq];clear hq;unfold pl.Ap at G KR al⊢;unfold egV egC at G KS⊢;go_enter func7,ntmps7;go_wp2_with fail;generalize hV:(World.alloc (World.alloc w _) _)=V;have ai:Ϝ w V:=by rw[<-hV];exact Ϩ.alloc ϟ _
 have HX:ϛ (Bh V w p x/\SB V (w.heap.size+1) (egC e y)):=by
  subst hV;have m:=SB.new (ξ w (Φ p x) 32) (egC e y) 42;rw[World.size_alloc]at m;exact⟨Ah (Cg ..) Ϩ,m⟩
 clear hV;refine(G.o V ai).mono ?_;rintro o b ⟨rfl,H⟩
 go_upto_if 22 with fail
 go_cut [] (λwc=>Ϝ V wc)
 case first=>
  by_cases k1:er=0
  rotate_left
  ·have az:(er==0)=false:=by simpa using k1
   go_wp2;go_meet;exact H
  subst k1;obtain⟨c,g,rfl⟩:=Aeb HR.o;have B:Ϝ w b:=bT ai H;have af:ϛ (Bh b w p x/\SB b (w.heap.size+1) (egC e y)):=⟨Ah HX.o.1 H,HX.o.2.below H⟩;have t:ϛ (Bp p e=0/\(Cc e).length<=1048576):=⟨c,g⟩;clear c g;obtain⟨J,K,O,Q,R,S,U,W,X,Y,L,M,N⟩:=af.o.1;go_wp2_with fail;refine(KR.o (Cc e) b B).mono ?_;rintro o E ⟨ae,⟨m,_⟩|⟨_,z,u,r,I,_,_,rfl,C⟩|⟨_,m,_⟩⟩
  ·exact absurd (Aa8 t.o.1) m
  rotate_left
  ·exact absurd t.o.1 (m e (HG.o t.o.1) rfl t.o.2)
  obtain rfl:=(Qy p.limit z e [] [] r (HG.o t.o.1) (by rw[append_nil,append_nil];exact I.symm)).1;have aw:Ϝ w E:=bT B ae;have d:ϛ (SB E (w.heap.size+1) (egC z y)):=af.o.2.below ae;have HU:=hqz C;have aj:Ϝ V E:=bT H ae;clear r I C J K O Q R S U W X Y L M N af ae;unfold egV egC;go_upto_region 4 with fail;generalize v:(World.alloc E _)=w3;have aa:Ϝ E w3:=by rw[<-v];exact Ϩ
  have j:ϛ (SB w3 E.heap.size (egC z u)):=by
   subst v;exact SB.new E (egC z u) _
  clear v;have ay:=d.o.lt;replace d:ϛ (SB w3 (w.heap.size+1) (egC z y)):=d.o.below aa;have u0:=d.o.cell 0 _ rfl;have u1:=d.o.cell 1 _ rfl;have u2:=d.o.cell 2 _ rfl;have u3:=d.o.cell 3 _ rfl;have u4:=d.o.cell 4 _ rfl;have u5:=d.o.cell 5 _ rfl;have u6:=d.o.cell 6 _ rfl;have u7:=d.o.cell 7 _ rfl;have u8:=d.o.cell 8 _ rfl;have u9:=d.o.cell 9 _ rfl;have u10:=d.o.cell 10 _ rfl;have t0:=j.o.cell 0 _ rfl;have t1:=j.o.cell 1 _ rfl;have t2:=j.o.cell 2 _ rfl;have t3:=j.o.cell 3 _ rfl;have t4:=j.o.cell 4 _ rfl;have t5:=j.o.cell 5 _ rfl;have t6:=j.o.cell 6 _ rfl;have t7:=j.o.cell 7 _ rfl;have t8:=j.o.cell 8 _ rfl;have t9:=j.o.cell 9 _ rfl;have ax:=j.o.cell 10 _ rfl;have aq:=KS.o u w3 t.o.1 t.o.2 (bT aw aa) (HU.o.below aa);go_wp2_with fail;refine aq.mono ?_;rintro o w4 ⟨rfl,au⟩;go_wp2;go_meet;exact aj.trans ((aa.mono aj.size).trans (au.mono (Nat.le_trans aj.size aa.size)))
 case rest=>
  rename World=>w5;have B:Ϝ w w5:=bT ai hcut;have F:ϛ (Bh w5 w p x):=Ah HX.o.1 hcut;clear H hcut G KS HR HX;obtain⟨J,K,O,Q,R,S,U,W,X,Y,L,M,N⟩:=F.o;have ag:=KR.o s w5 B;rw[HQ.o]at ag;go_wp2_with fail;refine ag.mono ?_;rintro o i ⟨ab,⟨m,rfl⟩|⟨c,z,u,r,I,g,hz,rfl,C⟩|⟨_,m,rfl⟩⟩
  ·have ar:(pl.Ag p !=0)=true:=by simpa using m
   have ad:Ϝ w i:=bT B ab;clear J K O Q R S U W X Y L M N m;obtain⟨P,hP⟩:=nM (pl.Ag p);rw[hP]at ar⊢;clear hP;unfold egV egC;go_wp2_with fail;have A:Ϝ i (i.alloc (.cells (egC zEg zGx).toArray 42)):=Ϩ;have n:=bT ad A;refine(KB.o _ n).mono ?_;rintro o w8 ⟨rfl,ac⟩;go_wp2;go_ret;exact⟨rfl,bT n ac⟩
  rotate_left
  ·have ad:Ϝ w i:=bT B ab;clear J K O Q R S U W X Y L M N m;unfold egV egC;go_wp2_with fail;have A:Ϝ i (i.alloc (.cells (egC zEg zGx).toArray 42)):=Ϩ;have n:=bT ad A;refine(KB.o _ n).mono ?_;rintro o w8 ⟨rfl,ac⟩;go_wp2;go_ret;exact⟨rfl,bT n ac⟩
  have ad:Ϝ w i:=bT B ab;replace F:=hy (Ah F.o ab);have Z:ϛ (Fb p.limit z/\(Cc z).length<=1048576/\Bp p z=0/\eggAt i z u/\(⟨(Cc z).toArray⟩:ByteArray)=q):=⟨r,by rw[<-I];exact g,hz,C,by rw[<-I];exact HQ.o⟩;clear J K O Q R S U W X Y L M N r I g hz C ab KR ag c;unfold egV egC;go_upto_region 9 with fail;generalize v:(World.alloc i _)=w7;have A:Ϝ i w7:=by rw[<-v];exact Ϩ
  have k:ϛ (SB w7 i.heap.size (egC z u)):=by
   subst v;exact SB.new i (egC z u) _
  clear v;have n:=bT ad A;replace F:=hy (Ah F.o A);obtain⟨J,K,O,Q,R,S,U,W,X,Y,L,M,N⟩:=F.o;have t0:=k.o.cell 0 _ rfl;have t1:=k.o.cell 1 _ rfl;have t2:=k.o.cell 2 _ rfl;have t3:=k.o.cell 3 _ rfl;have t4:=k.o.cell 4 _ rfl;have t5:=k.o.cell 5 _ rfl;have t6:=k.o.cell 6 _ rfl;have t7:=k.o.cell 7 _ rfl;have t8:=k.o.cell 8 _ rfl;have t9:=k.o.cell 9 _ rfl;have ax:=k.o.cell 10 _ rfl;have ah:=al.o z u w7 Z.o.1 Z.o.2.1 Z.o.2.2.1 n (Z.o.2.2.2.1.below A);rw[Z.o.2.2.2.2]at ah;unfold egV egC at ah;go_wp2_with fail;refine ah.mono ?_;rintro o w8 ⟨rfl,ac⟩;have am:=bT n ac;go_wp2_with fail;refine(KB.o w8 am).mono ?_;rintro o w9 ⟨rfl,av⟩;go_wp2;go_ret;exact⟨rfl,bT am av⟩
end cd
namespace cd
open vl bf bt jn
variable {p : pl.Pln} {e : Egg}
theorem NG(h:Bp p e=0):GH p e.gs=0:=by
 unfold Bp at h;by_cases a:AQ p e.j=0
 ·rw[if_neg (by simp[a])]at h;by_cases b:GH p e.gs=0
  ·exact b
  ·rw[if_pos b]at h;exact absurd h b
 ·rw[if_pos a]at h;exact absurd h a
theorem S6{a:List gr.Grp}(h:GH p a=0):a.length<=4096/\∀g∈a,g.bags.length<=4:=by
 unfold GH at h;split at h
 ·rename_i j;unfold gr.FC at h;split at h
  ·rename_i k;exact absurd h k
  rename_i l;split at h
  ·cases h
  split at h
  ·cases h
  rename_i m;split at h
  ·cases h
  rename_i f;refine⟨ϝ,λg b=>?_⟩;have c:pl.allB a.length (gr.Ji p a)=true:=by simpa using f
  rw[pl.A9]at c;obtain⟨i,d,rfl⟩:=getElem_of_mem b;have k:=c i d;have e:a.getD i default=a[i]:=by rw[gDe,gEe d];rfl
  unfold gr.Ji gr.Ka at k;rw[e]at k;simp only[Bool.and_eq_true,decide_eq_true_eq]at k;have:=k.2.1;have:=(bt.Li (Decidable.not_not.1 l) j).2.2;omega
 ·split at h
  ·cases h
  ·rename_i k;have:a=[]:=length_eq_zero_iff.1 ϝ;subst this;exact⟨ϟ,λg b=>by cases b⟩
theorem Qq{α:Type}{f:α->List UInt8}{b:Nat}:∀{l:List α},(∀x∈l,(f x).length<=b)->(l.flatMap f).length<=b * l.length
 |[],_=>by simp
 |x::l,h=>by
  have a:=h x (mem_cons_self ..);have c:=Qq (l:=l) (λy hy=>h y (mem_cons_of_mem _ hy));rw[flatMap_cons,lAp,length_cons,Nat.mul_succ];omega
theorem Aa9{α:Type}{f:α->List UInt8}{b n:Nat}{l:List α}(h:∀x∈l,(f x).length<=b)(a:l.length<=n):(lst f l).length<=8+b * n:=by
 have c:=Qq h;have d:=Nat.mul_le_mul_left b a;unfold lst;rw[lAp,Am];omega
theorem Qr(h:Bp p e=0)(m:wfEg e)(f:∀g∈e.gs,∀l∈g.bags,l.length<=1048576):(lst AM e.gs).length<=3000000000000:=by
 have b:=S6 (NG h);have j:=(Km (GV h) m).2.1;have one:∀g∈e.gs,(AM g).length<=8000000000/12:=λg a=>by
  obtain⟨q,z,r⟩:=j.2 g a;have u:=N7 q;have v:(lst Bo g.bags).length<=8+154140700 * 4:=Aa9 (λl d=>by
   have w:=f g a l d;have n:∀t∈l,(Bq t).length<=147:=λt k=>by
    have s:=((r.2 l d).2 t k).1;have o:=Dh [t.1] (λc i=>(s.2 c i).1);unfold Bq C7;rw[lAp,Iv,Am];simp only[length_singleton]at o;omega
   have x:(Bo l).length=8+(l.flatMap Bq).length:=by unfold Bo lst;rw[lAp,Am]
   have y:=Qq n;omega) (b.2 g a)
  unfold AM;simp only[lAp,Am];omega
 have:=Aa9 one b.1;omega
theorem Up(j:Fb p.limit e)(h:Bp p e=0)(o:(Cc e).length<=1048576):AcY e:=by
 have m:=S6 (NG h);have n:=(GV h).j;have r:∀{b:Buf},okB b->(∀y∈Ac b,Eg y)->(∀l∈partsB b,l.length<=χ)/\∀y∈Ac b,y.row.length<=χ:=λ{b} a hy=>by
  refine⟨λl i=>?_,λy s=>by have:=(hy y s).2.2.2.1;omega⟩;have u:=a.all;have v:l.length<=(Ac b).length:=EU i;omega
 have k:∀{b:Buf},Lr p.limit b->∀y∈Ac b,Eg y:=λ{b} a y hy=>by
  obtain⟨l,d,q⟩:=mem_flatten.1 hy;rcases mem_cons.1 d with rfl|d
  ·exact a.2.1.2 y q
  ·exact(a.2.2.2 l d).2 y q
 refine⟨⟨r n.L (k j.1.1),r n.R (k j.1.2.1)⟩,by have:=m.1;omega,λg c=>?_⟩;obtain⟨t,E,F⟩:=j.2.1.2 g c;refine⟨by have:=t.1;omega,by have:=m.2 g c;omega,λl i=>?_⟩;have w:=LU (f:=AM) c;have x:(lst AM e.gs).length=8+(e.gs.flatMap AM).length:=by unfold lst;rw[lAp,Am]
 have z:=LU (f:=Bo) i;have A:(lst Bo g.bags).length=8+(g.bags.flatMap Bo).length:=by unfold lst;rw[lAp,Am]
 have B:=E6 Ze l;have C:(Bo l).length=8+(l.flatMap Bq).length:=by unfold Bo lst;rw[lAp,Am]
 have D:(AM g).length=(C7 g.row).length+8+(lst Bo g.bags).length:=by unfold AM;simp only[lAp,Am]
 unfold Cc at o;simp only[lAp]at o;omega
end cd
end Go.Proofs.YtfkihidbnfkbaaaGreatDoor
