import Derived.Test.YtfkihidbnfkbaaaGreatDoorPv41
import Derived.Test.YtfkihidbnfkbaaaGreatDoorPv40
set_option linter.all false
set_option maxHeartbeats 16000000
set_option maxRecDepth 100000
open Go.ChangeShapes Go.WideShapes Go.ChangeAt Go.RowKit List
open Inhabited renaming default->ϰ
namespace Go.Proofs.YtfkihidbnfkbaaaGreatDoor
open Go.Proofs.Tryz
namespace cd
open vl bf bt jn
variable {w : Ϡ}
theorem SB.keepI{b:Ϡ}{N:Nat}{T:TypeId}{d:List Value}(h:SB w N d/\Ah w N T)(h1:T≠5)(c:T≠114)(a:cd.B6 w b):SB b N d/\Ah b N T:=
 ⟨h.1.same (a.2 N T h.2 h1 c) a.1.size,Aq h.2 (a.2 N T h.2 h1 c)⟩
theorem Ad1(w:Ϡ):WI (ϊ w #[ώ] 114) w.heap.size w.heap.size []:=
 ⟨⟨vS none 0 0,Ϩ,World.ownsRow_nil _ _ _ _⟩,Ϩ,⟨_,_,World.alloc_heap_new _ _⟩,Nat.le_refl _⟩
theorem WI.mono{base a B:Nat}{b:List UInt8}(h:WI w base B b)(c:a<=base):WI w a B b:=by
 obtain⟨v,d,e⟩:=h.cell;exact⟨⟨v,d,World.ownsRow.mono e c⟩,h.frz,h.tb,Nat.le_trans c h.low⟩
theorem WM{α:Type} [Inhabited α](f:α->List UInt8)(P:List UInt8)(l:List α)(k:Nat)(h:k<l.length):P++(l.take (k+1)).flatMap f=P++(l.take k).flatMap f++f (l.getD k ϰ):=by rw[Cz f l k h,append_assoc]
theorem MF{α:Type}(f:α->List UInt8)(l:List α)(k:Nat):((l.take k).flatMap f).length<=(l.flatMap f).length:=by
 have a:=congrArg List.length (congrArg (λz=>z.flatMap f) (take_append_drop k l));simp only[flatMap_append,lAp]at a;omega
theorem SU(e:Egg)(y:GGX)(w:Ϡ)(ha:eggAt w e y)(M:okEW e)(hl:(lst AV e.gs).length<=3000000000000):
 χ 31 #[egV e y] w (ψ w (.string ⟨(IF e).toArray⟩)):=by
 have bw:=Ni M.l M.r;have KL:=hIz (λ(d:Ϡ) (f:ϣ w d) (L:WI d w.heap.size (w.heap.size+1) [])=>Sp w (w.heap.size+1) [] e.j.L y.y.l d f L ha.j.l M.l Ϧ);have KR:Ϣ (∀d,ϣ w d->WI d w.heap.size (w.heap.size+1) (Bo e.j.L)->CT 66 #[ω (w+1),.agg (Ω e.j.R y.y.r)] d (IW w.heap.size (w.heap.size+1) d (Bo e.j.L++Bo e.j.R))):=λd f L=>Sp w (w.heap.size+1) _ e.j.R y.y.r d f L ha.j.r M.r (by have:=L3 M.l;omega);have S:=hIz (λ(d:Ϡ) K n (L:WI d w.heap.size (w.heap.size+1) K) (f:w.heap.size<=d.heap.size) (au:K.length<=10000000000000)=>Kg w.heap.size (w.heap.size+1) K n d f L au);have KW:=hIz (λ(d:Ϡ) K a da r (L:WI d w.heap.size (w.heap.size+1) K) (f:w.heap.size<=d.heap.size) (au:K.length<=9999000000000) (hr:vl.rowAt d a r) (ag:rowOk r)=>So w.heap.size (w.heap.size+1) K a da r d f L au hr ag);have HG:Ϣ (gr.gsAt w y.ga y.xs e.gs):=ha.g;have HV:Ϣ (ch.viewAt w y.va e.v):=ha.v;have ca:Ϣ (∀i,i<e.gs.length->U2 (e.gs.getD i ϰ)):=λi hi=>M.g _ (by rw[gDe,gEe hi];exact getElem_mem hi);have cf:Ϣ (∀i,i<e.v.length->rowOk (e.v.getD i ϰ).r):=λi hi=>by
  have:=M.v _ (by rw[gDe,gEe hi];exact getElem_mem hi:e.v.getD i ϰ∈e.v);exact Gw this.err this.row
 have a2:Ϣ (∀k,((e.gs.take k).flatMap AV).length<=3000000000000/\(k<e.gs.length->(AV (e.gs.getD k ϰ)).length<=3000000000000)):=λk=>by
  have L:=MF AV e.gs k;have h2:(lst AV e.gs).length=8+(e.gs.flatMap AV).length:=by unfold lst;rw[lAp,Am]
  refine⟨Ϥ,λhk=>?_⟩;have h3:=congrArg List.length (Cz AV e.gs k hk);have h4:=MF AV e.gs (k+1);rw[lAp]at h3;omega
 have c4:Ϣ (∀k,((e.v.take k).flatMap BA).length<=20000000):=λk=>by
  have:=Tz (l:=e.v.take k) (λx hx=>M.v x (mem_of_mem_take hx));have h2:(e.v.take k).length<=e.v.length:=List.length_take_le' ..;have:=M.vn;omega
 have dd:=M.gn;have dl:=M.vn;have bh:Ϣ (F6 e.j++lst AV e.gs++lst BA e.v=IF e):=rfl;obtain⟨W,h7⟩:=nM e.gs.length;obtain⟨C,h8⟩:=nM e.v.length;have E:=hV0 h7;have H:=hV0 h8;have HJ:Ϣ (Bo e.j.L++Bo e.j.R++As e.j.lm++As e.j.rm++As e.j.seq=F6 e.j):=rfl;have aj:Ϣ ((Bo e.j.L++Bo e.j.R).length<=90000000/\(F6 e.j).length<=90000000):=⟨by have:=bw;unfold F6 at this;simp only[lAp,Am]at this⊢;omega,bw⟩;rw[h7]at ca a2 dd;rw[h8]at cf dl;clear ha M hl bw h7 h8;unfold egV;go_enter func31,ntmps31;unfold egC;go_wp2_with fail;generalize Y:(World.alloc (World.alloc w _) _)=V;have aa:ϣ w V:=by rw[<-Y];exact ϯ.alloc Ϧ _
 have g:Ϣ (SB V w.heap.size (egC e y)/\Ah V w 42):=by
  subst Y;exact⟨(SB.new w (egC e y) 42).below ϯ,Ak ⟨_,_,World.alloc_heap_new _ _⟩ ϯ⟩
 have hw:WI V w.heap.size (w.heap.size+1) []:=by
  subst Y;have:=Ad1 (w.alloc (.cells (egC e y).toArray 42));rw[World.size_alloc]at this;exact this.mono (Nat.le_succ _)
 have p:=hV0 aa;clear Y aa;refine(KL.o V p.o hw).mono ?_;clear hw;rintro o d ⟨rfl,hw,f,m⟩;replace g:Ϣ (SB d w.heap.size (egC e y)/\Ah d w 42):=hy (SB.keepI g.o ϥ ϥ m);replace p:Ϣ (ϣ w d):=p.o.trans f;clear f m;obtain⟨u0,u1,u2,u3,u4,u5,u6,u7,u8,u9,u10⟩:=Iq g.o.1;rw[E.o]at u9;rw[H.o]at u10;go_wp2_with fail;refine(KR.o d p.o hw).mono ?_;rintro o R ⟨rfl,hw,f,m⟩;replace g:Ϣ (SB R w.heap.size (egC e y)/\Ah R w 42):=hy (SB.keepI g.o ϥ ϥ m);replace p:Ϣ (ϣ w R):=p.o.trans f;clear u0 u1 u2 u3 u4 u5 u6 u7 u8 u9 u10 f m;obtain⟨u0,u1,u2,u3,u4,u5,u6,u7,u8,u9,u10⟩:=Iq g.o.1;rw[E.o]at u9;rw[H.o]at u10;go_wp2_with fail;refine(S.o R _ _ ‹WI R _ _ _› p.o.size (by have:=aj.o.1;omega)).mono ?_;rintro o u ⟨rfl,hw,f,m⟩;replace g:Ϣ (SB u w.heap.size (egC e y)/\Ah u w 42):=hy (SB.keepI g.o ϥ ϥ m);replace p:Ϣ (ϣ w u):=p.o.trans f;clear u0 u1 u2 u3 u4 u5 u6 u7 u8 u9 u10 f m;obtain⟨u0,u1,u2,u3,u4,u5,u6,u7,u8,u9,u10⟩:=Iq g.o.1;rw[E.o]at u9;rw[H.o]at u10;go_wp2_with fail;refine(S.o u _ _ ‹WI u _ _ _› p.o.size (by have:=aj.o.1;rw[lAp,Am];omega)).mono ?_;rintro o w4 ⟨rfl,hw,f,m⟩;replace g:Ϣ (SB w4 w.heap.size (egC e y)/\Ah w4 w 42):=hy (SB.keepI g.o ϥ ϥ m);replace p:Ϣ (ϣ w w4):=p.o.trans f;clear u0 u1 u2 u3 u4 u5 u6 u7 u8 u9 u10 f m;obtain⟨u0,u1,u2,u3,u4,u5,u6,u7,u8,u9,u10⟩:=Iq g.o.1;rw[E.o]at u9;rw[H.o]at u10;go_wp2_with fail;refine(S.o w4 _ _ ‹WI w4 _ _ _› p.o.size (by have:=aj.o.1;simp only[lAp,Am]at this⊢;omega)).mono ?_;rintro o w5 ⟨rfl,hw,f,m⟩;replace g:Ϣ (SB w5 w.heap.size (egC e y)/\Ah w5 w 42):=hy (SB.keepI g.o ϥ ϥ m);replace p:Ϣ (ϣ w w5):=p.o.trans f;clear u0 u1 u2 u3 u4 u5 u6 u7 u8 u9 u10 f m;obtain⟨u0,u1,u2,u3,u4,u5,u6,u7,u8,u9,u10⟩:=Iq g.o.1;rw[E.o]at u9;rw[H.o]at u10;rename WI w5 _ _ _=>ay;rw[HJ.o]at ay;go_wp2_with fail;refine(S.o w5 _ _ ay p.o.size (by have:=aj.o.2;omega)).mono ?_
 rintro o A ⟨rfl,hw,f,m⟩;replace g:Ϣ (SB A w.heap.size (egC e y)/\Ah A w 42):=hy (SB.keepI g.o ϥ ϥ m);replace p:Ϣ (ϣ w A):=p.o.trans f;clear u0 u1 u2 u3 u4 u5 u6 u7 u8 u9 u10 f m;obtain⟨u0,u1,u2,u3,u4,u5,u6,u7,u8,u9,u10⟩:=Iq g.o.1;rw[E.o]at u9;rw[H.o]at u10;rename WI A _ _ _=>hw6;obtain⟨J,hJ⟩:=nM (F6 e.j);have cb:Ϣ (J.length<=90000000):=by rw[<-hJ];exact aj.o.2
 rw[hJ]at bh hw6;have c7:=hV0 hw6;have c8:Ϣ (SB A w.heap.size (egC e y)/\Ah A w 42):=g;clear hJ HJ aj KL KR hw6 ay g u0 u1 u2 u3 u4 u5 u6 u7 u8 u9 u10;go_wp2_with fail
 go_loopw [4,5,6,7] (λi _ _ _ wr=> ∃k:Nat,k<=W/\i=vI k/\WI wr w.heap.size (w.heap.size+1) (J++As W++(e.gs.take k).flatMap AV)/\Below w.heap.size A wr/\B6 A wr) (λi _ _ _ _=>W - (intOf i).toNat)
 case atStart=>exact⟨0,Nat.zero_le _,rfl,by simpa using c7.o,bR,B6.refl _⟩
 case round=>
  obtain⟨k,hk,rfl,ah,a8,bc⟩:=hrel;have g:=hy (SB.keepI c8.o ϥ ϥ bc);have lx:=g.o.1.lt;have h:=p.o.trans a8;by_cases ax:k<W
  ·obtain⟨b,dt,ee,c0,c1,c2⟩:=HG.o.cells k (by rw[E.o];exact ax);have ba:=HG.o.each k (by rw[E.o];exact ax);have ag:=ca.o k ax;have u9:=g.o.1.cell 9 _ rfl;rw[E.o,ee]at u9;have cq:=(a2.o k).2 ax;have hP:(J++As W++(e.gs.take k).flatMap AV).length<=3100000000000:=by have:=(a2.o k).1;have:=cb.o;simp only[lAp,Am];omega
   have HS:Ϣ (J++As W++(e.gs.take (k+1)).flatMap AV=J++As W++(e.gs.take k).flatMap AV++AV (e.gs.getD k ϰ)):=WM AV _ e.gs k (by rw[E.o];exact ax);obtain⟨G,hG⟩:=nM (e.gs.getD k ϰ);obtain⟨X,hX⟩:=nM (y.xs.getD k ϰ);obtain⟨P,ck⟩:=nM (J++As W++(e.gs.take k).flatMap AV);rw[hG,hX]at c0 c2 ba;rw[hG]at c1 ag cq HS;rw[ck]at hP HS ah;clear hG hX ck;replace c0:=cLz h c0;replace c1:=cLz h c1;replace c2:=cLz h c2;have i1:=nn0 k;have i2:(k:Int)<(W:Int):=Ϥ;have ai:Ϣ (gr.gAt w X G/\U2 G):=⟨ba,ag⟩;have bj:Ϣ (Below w.heap.size A wr/\B6 A wr):=⟨a8,bc⟩;have de:(AV G).length=(Bz G.row).length+8+8+(G.bags.flatMap B7).length:=by
    unfold AV lst;simp only[lAp,Am];omega
   have HL:Ϣ (P.length<=3100000000000/\(Bz G.row).length<=3000000000000/\(G.bags.flatMap B7).length<=3000000000000):=⟨hP,Ϥ,Ϥ⟩;have bk:Ϣ (P++Bz G.row++As G.n++As G.bags.length++(G.bags.take G.bags.length).flatMap B7=P++AV G):=by
    show _=_;unfold AV lst;rw[take_length];simp only[append_assoc]
   obtain⟨I,a7⟩:=nM G.bags.length;have an:=hV0 a7;have dr:I<=9223372036854775807:=by rw[<-a7];exact ag.2.2.1
   obtain⟨rn,am⟩:=nM G.row.length;have al:Ϣ (∀d K,WI d w.heap.size (w.heap.size+1) K->ϣ w d->K.length<=9999000000000->CT 68 #[ω (w+1),vS X.r rn X.rc] d (IW w.heap.size (w.heap.size+1) d (K++Bz G.row))):=λd K L f au=>by
    have:=KW.o d K X.r X.rc G.row L f.size au (vl.Ac ba.row f) ag.1;rw[am]at this;exact this
   rw[a7]at bk c2;rw[am]at c0;clear ba ag cq de a7 am hP a8 bc ee;go_wp2_with fail;generalize Y:(World.alloc wr _)=V;have aa:ϣ wr V:=by rw[<-Y];exact ϯ
   have O:Ϣ (CW V wr.heap.size 102 1 (vI G.n)/\CW V wr.heap.size 102 2 (vS X.b I X.bc)):=by
    have ty:Ah V wr 102:=by subst Y;exact⟨_,_,World.alloc_heap_new _ _⟩
    exact⟨⟨ty,by subst Y;go_simp⟩,⟨ty,by subst Y;go_simp⟩⟩
   clear Y u9 c0 c1 c2;refine(al.o V _ (ah.below aa) (bT h aa) (by have:=HL.o;omega)).mono ?_;rintro o d ⟨rfl,cu,f,m⟩;replace O:Ϣ (CW d wr.heap.size 102 1 (vI G.n)/\CW d wr.heap.size 102 2 (vS X.b I X.bc)):=⟨CI.keep O.o.1 m ϥ ϥ,CI.keep O.o.2 m ϥ ϥ⟩;have F:Ϣ (Below w.heap.size A d/\B6 A d/\ϣ w d):=⟨bj.o.1.trans ((aa.mono h.size).trans f),bj.o.2.trans ((B6.of aa).trans m),h.trans ((aa.mono h.size).trans f)⟩;have y1:=O.o.1.2;clear aa f m ah h bj lx g;go_wp2_with fail;refine(S.o d _ _ cu F.o.2.2.size (by have:=HL.o;simp only[lAp];omega)).mono ?_;rintro o R ⟨rfl,cv,bp,bx⟩;replace O:Ϣ (CW R wr.heap.size 102 2 (vS X.b I X.bc)):=CI.keep O.o.2 bx ϥ ϥ;replace F:Ϣ (Below w.heap.size A R/\B6 A R/\ϣ w R):=⟨F.o.1.trans bp,F.o.2.1.trans bx,F.o.2.2.trans bp⟩;have y2:=O.o.2;clear y1 cu bp bx;go_wp2_with fail;refine(S.o R _ _ cv F.o.2.2.size (by have:=HL.o;simp only[lAp,Am];omega)).mono ?_;rintro o u ⟨rfl,b7,bq,bz⟩;replace O:Ϣ (CW u wr.heap.size 102 2 (vS X.b I X.bc)):=CI.keep O.o bz ϥ ϥ;replace F:Ϣ (Below w.heap.size A u/\B6 A u/\ϣ w u):=⟨F.o.1.trans bq,F.o.2.1.trans bz,F.o.2.2.trans bq⟩;obtain⟨P1,bo⟩:=nM (P++Bz G.row++As G.n++As I);have cx:Ϣ (P1.length+(G.bags.flatMap B7).length<=9100000000100):=by have:=HL.o;show _<=_;rw[<-bo];simp only[lAp,Am];omega
   rw[bo]at bk b7;have c5:=hV0 b7;clear bo y2 cv b7 bq bz HL al;go_wp2_with fail;obtain⟨ci,rfl⟩:∃z,z=wr:=⟨_,rfl⟩
   go_loopw [6,7] (λj _ wy=> ∃q:Nat,q<=I/\j=vI q/\WI wy w.heap.size (w.heap.size+1) (P1++(G.bags.take q).flatMap B7)/\Below w.heap.size u wy/\B6 u wy) (λj _ _=>I - (intOf j).toNat)
   case atStart=>exact⟨0,Nat.zero_le _,rfl,by simpa using c5.o,bR,B6.refl _⟩
   case round=>
    rename World=>wy;obtain⟨q,hq,rfl,az,a9,ar⟩:=hrel;have y2:=(CI.keep O.o ar ϥ ϥ).2;have ly:=bLt _ _ y2;have h:=F.o.2.2.trans a9;by_cases aw:q<I
    ·obtain⟨b2,o2,e2,T⟩:=ai.o.1.hs q (by rw[ai.o.1.len,an.o];exact aw);rw[ai.o.1.hl q (by rw[an.o];exact aw)]at T;have a6:=ai.o.1.bag q (by rw[an.o];exact aw);have b5:G.bags.getD q []∈G.bags:=by rw[gDe,gEe (by rw[an.o];exact aw)];exact getElem_mem _
     have bu:=ai.o.2.2.1 _ b5;have cn:=ai.o.2.2.2.2 _ b5;have a3:Ϣ (P1++(G.bags.take (q+1)).flatMap B7=P1++(G.bags.take q).flatMap B7++B7 (G.bags.getD q [])):=WM B7 _ G.bags q (by rw[an.o];exact aw);have av:(P1++(G.bags.take q).flatMap B7).length+(B7 (G.bags.getD q [])).length<=9100000000100:=by
      have L:=congrArg List.length a3.o;have h2:=MF B7 G.bags (q+1);have:=cx.o;simp only[lAp]at L⊢;omega
     rw[e2]at y2;obtain⟨D,hD⟩:=nM (G.bags.getD q []);obtain⟨ad,cm⟩:=nM ((X.hs.getD q (none,0,0)).1);obtain⟨cp,co⟩:=nM ((X.hs.getD q (none,0,0)).2.2);obtain⟨P2,cj⟩:=nM (P1++(G.bags.take q).flatMap B7);rw[hD]at T a6 bu cn a3 av;rw[cm]at T a6;rw[co]at T;rw[cj]at a3 av az;have a1:Ϣ (Δ w b2 (o2+q) (vS ad D.length cp)):=T;have b8:Ϣ (bt.FL w ad D/\∀t∈D,rowOk [t.1]):=⟨a6,λt ht=>bu t ht⟩;have cd:Ϣ (P2++As D.length++(D.take D.length).flatMap BK=P2++B7 D):=by
      show _=_;unfold B7 lst;rw[take_length];simp only[append_assoc]
     have cc:Ϣ (P2.length+(D.flatMap BK).length<=9100000000100):=by
      unfold B7 lst at av;simp only[lAp,Am]at av;show _<=_;omega
     obtain⟨dn,bv⟩:=nM D.length;have bi:=hV0 bv;rw[bv]at a1 cd cn;replace T:=cLz h a1.o;have j1:=nn0 q;have j2:(q:Int)<(I:Int):=Ϥ;have ao:Ϣ (Below w.heap.size u wy/\B6 u wy):=⟨a9,ar⟩;have bm:Ϣ (CW wy ci.heap.size 102 2 (vS (some ⟨b2,o2,none⟩) I X.bc)):=by rw[<-e2];exact CI.keep O.o ar ϥ ϥ
     have a0:=hV0 h;clear hD cm co cj a6 bu av bv b5 e2 a9 ar h;go_wp2_with fail;refine(S.o wy _ _ az a0.o.size (by have:=cc.o;omega)).mono ?_;rintro o w4 ⟨rfl,cw,br,b0⟩;replace ao:Ϣ (Below w.heap.size u w4/\B6 u w4):=⟨ao.o.1.trans br,ao.o.2.trans b0⟩;replace bm:Ϣ (CW w4 ci.heap.size 102 2 (vS (some ⟨b2,o2,none⟩) I X.bc)):=CI.keep bm.o b0 ϥ ϥ;replace a0:Ϣ (ϣ w w4):=a0.o.trans br;have c6:=hV0 cw;clear cw br b0 y2 T az;go_wp2_with fail;obtain⟨dq,rfl⟩:∃z,z=wy:=⟨_,rfl⟩
     go_loopw [7] (λj s=> ∃t:Nat,t<=dn/\j=vI t/\WI s w.heap.size (w.heap.size+1) (P2++As dn++(D.take t).flatMap BK)/\Below w.heap.size w4 s/\B6 w4 s) (λj _=>dn - (intOf j).toNat)
     case atStart=>exact⟨0,Nat.zero_le _,rfl,by simpa using c6.o,bR,B6.refl _⟩
     case round=>
      rename World=>s;obtain⟨t,ht,rfl,N,B,ab⟩:=hrel;have a4:=hy (CI.keep bm.o ab ϥ ϥ);have y2:=a4.o.2;have ly:=bLt _ _ y2;have h:=a0.o.trans B;have T:=cLz h a1.o;by_cases af:t<dn
      ·obtain⟨b3,o3,e3,Q,Z,t2,t3⟩:=b8.o.1 t (by rw[bi.o];exact af);have bd:=b8.o.2 (D.getD t ϰ) (by rw[gDe,gEe (by rw[bi.o];exact af)];exact getElem_mem _);have ac:Ϣ (P2++As dn++(D.take (t+1)).flatMap BK=P2++As dn++(D.take t).flatMap BK++BK (D.getD t ϰ)):=WM BK _ D t (by rw[bi.o];exact af);have b4:(P2++As dn++(D.take t).flatMap BK).length<=9100000000200:=by have:=cc.o;have:=MF BK D t;simp only[lAp,Am];omega
       subst e3;obtain⟨P4,aq⟩:=nM (P2++As dn++(D.take t).flatMap BK);obtain⟨⟨⟨k1,n1,s1⟩,m1⟩,cl⟩:∃z,D.getD t ϰ=z:=⟨_,rfl⟩;rw[cl]at Q Z t2 t3 bd ac;rw[aq]at ac b4 N;dsimp only at Q Z t2 t3 bd;have cs:=IG bd;have c3:Ϣ (Δ w b3 (o3+t * 4+3) (vI m1)):=t3;replace Q:=cLz h Q;replace Z:=cLz h Z;replace t2:=cLz h t2;have l1:=nn0 t;have l2:(t:Int)<(dn:Int):=Ϥ;have ap:Ϣ (Below w.heap.size w4 s/\B6 w4 s):=⟨B,ab⟩;clear aq cl t3 B ab;go_wp2_with fail;generalize hU:(World.alloc s _)=U;have ae:ϣ s U:=by rw[<-hU];exact ϯ
       have ct:vl.rowAt U (ϋ s) [⟨k1,n1,s1⟩]:=λi hi=>by
        have:i=0:=by simpa using hi
        subst this;exact⟨_,_,rfl,by subst hU;go_simp,by subst hU;go_simp,by subst hU;go_simp⟩
       clear hU;refine(KW.o U P4 _ 1 [⟨k1,n1,s1⟩] (N.below ae) (Nat.le_trans h.size ae.size) Ϥ ct bd).mono ?_;rintro o w5 ⟨rfl,ay,bs,b1⟩;replace ap:Ϣ (Below w.heap.size w4 w5/\B6 w4 w5):=⟨ap.o.1.trans ((ae.mono h.size).trans bs),ap.o.2.trans ((B6.of ae).trans b1)⟩;replace a4:=hy (CI.keep (CW.below a4.o ae) b1 ϥ ϥ);replace h:=h.trans ((ae.mono h.size).trans bs);clear y2 T Q Z t2 N ct ae bs b1 ly;have y2:=a4.o.2;have ly:=bLt _ _ y2;have T:=cLz h a1.o;have t3:=cLz h c3.o;go_wp2_with fail;refine(S.o w5 _ _ ay h.size (by simp only[lAp];omega)).mono ?_;rintro o w7 ⟨rfl,bg,a5,bb⟩;go_wp2;go_roundw;exact⟨t+1,Ϥ,by go_num,by rw[ac.o];unfold BK;rw[<-append_assoc];exact bg,ap.o.1.trans a5,ap.o.2.trans bb⟩;simp[intOf];omega
      ·have b6:t=dn:=Ϥ;subst b6;rw[cd.o]at N;go_wp2;go_roundw;exact⟨q+1,Ϥ,by go_num,by rw[a3.o];exact N,ao.o.1.trans B,ao.o.2.trans ab⟩;simp[intOf];omega
    ·have dj:q=I:=Ϥ;subst dj;rw[bk.o]at az;go_wp2;go_roundw;exact⟨k+1,Ϥ,by go_num,by rw[HS.o];exact az,F.o.1.trans a9,F.o.2.1.trans ar⟩;simp[intOf];omega
  ·have dg:k=W:=Ϥ;subst dg;have u9:=g.o.1.cell 9 _ rfl;rw[E.o]at u9;have u10:=g.o.1.cell 10 _ rfl;rw[H.o]at u10;have HS:Ϣ (J++As k++(e.gs.take k).flatMap AV=J++lst AV e.gs):=by
    show _=_;unfold lst;rw[show e.gs.take k=e.gs by rw[<-E.o,take_length],E.o,append_assoc]
   have dh:(J++lst AV e.gs).length<=3200000000000:=by
    rw[<-HS.o];have:=(a2.o k).1;have:=cb.o;simp only[lAp,Am];omega
   rw[HS.o]at ah;obtain⟨P,hP⟩:=nM (J++lst AV e.gs);rw[hP]at ah dh bh;have b9:=hV0 h;clear hP HS a8 bc h;go_wp2_with fail;refine(S.o wr P _ ah b9.o.size Ϥ).mono ?_;rintro o w7 ⟨rfl,bg,a5,bb⟩;have c9:=hy (SB.keepI g.o ϥ ϥ bb);have cg:Ϣ (WI w7 w.heap.size (w.heap.size+1) (P++As C)/\ϣ w w7):=⟨bg,b9.o.trans a5⟩;have cy:Ϣ (P++As C++(e.v.take C).flatMap BA=IF e):=by
    show _=_;rw[<-bh.o];unfold lst;rw[show e.v.take C=e.v by rw[<-H.o,take_length],H.o,append_assoc]
   clear u9 u10 bg a5 bb g ah;go_wp2_with fail
   go_loopw [8] (λi s=> ∃t:Nat,t<=C/\i=vI t/\WI s w.heap.size (w.heap.size+1) (P++As C++(e.v.take t).flatMap BA)/\ϣ w s/\B6 w7 s) (λi _=>C - (intOf i).toNat)
   case atStart=>exact⟨0,Nat.zero_le _,rfl,by simpa using cg.o.1,cg.o.2,B6.refl _⟩
   case round=>
    rename World=>s;obtain⟨t,ht,rfl,N,B,ab⟩:=hrel;have ak:=hy (SB.keepI c9.o ϥ ϥ ab);have lx:=ak.o.1.lt;have u10:=ak.o.1.cell 10 _ rfl;rw[H.o]at u10;by_cases af:t<C
    ·obtain⟨b3,o3,ra,rc,e3,Q,hr,Z⟩:=HV.o t (by rw[H.o];exact af);have be:=cf.o t af;have cs:=IG be;have ac:Ϣ (P++As C++(e.v.take (t+1)).flatMap BA=P++As C++(e.v.take t).flatMap BA++BA (e.v.getD t ϰ)):=WM BA _ e.v t (by rw[H.o];exact af);have b4:(P++As C++(e.v.take t).flatMap BA).length<=3300000000000:=by have:=c4.o t;simp only[lAp,Am];omega
     rw[e3]at u10;obtain⟨P4,aq⟩:=nM (P++As C++(e.v.take t).flatMap BA);obtain⟨c,hc⟩:=nM (e.v.getD t ϰ);rw[hc]at Q hr Z be cs ac;rw[aq]at ac b4 N;have al:Ϣ (CT 68 #[ω (w+1),vS ra c.r.length rc] s (IW w.heap.size (w.heap.size+1) s (P4++Bz c.r))):=KW.o s P4 ra rc c.r N B.size Ϥ (vl.Ac hr B) be;have cz:Ϣ (Δ w b3 (o3+t * 2+1) (vI c.n)):=Z;replace Q:=cLz B Q;obtain⟨rn,am⟩:=nM c.r.length;rw[am]at al Q;have l1:=nn0 t;have l2:(t:Int)<(C:Int):=Ϥ;clear aq hc Z hr be am;go_wp2_with fail;refine al.o.mono ?_;rintro o w8 ⟨rfl,dm,db,cr⟩;replace ak:=hy (SB.keepI ak.o ϥ ϥ cr);replace B:=B.trans db;replace ab:=ab.trans cr;clear u10 Q lx N al;have lx:=ak.o.1.lt;have u10:=ak.o.1.cell 10 _ rfl;rw[H.o,e3]at u10;have Z:=cLz B cz.o;clear e3;go_wp2_with fail;refine(S.o w8 _ _ dm B.size (by simp only[lAp];omega)).mono ?_;rintro o w9 ⟨rfl,dp,dc,df⟩;go_wp2;go_roundw;exact⟨t+1,Ϥ,by go_num,by rw[ac.o];unfold BA;rw[<-append_assoc];exact dp,B.trans dc,ab.trans df⟩;simp[intOf];omega
    ·have b6:t=C:=Ϥ;subst b6;rw[cy.o]at N;obtain⟨v,hc,di⟩:=N.cell;have ds:=He di;clear N;go_wp2;go_ret;exact⟨rfl,B⟩
theorem QI(p:pl.Pln)(x:pl.PA)(e:Egg)(y:GGX)(w:Ϡ)(G:pl.wfPlan p)(C:pl.planAt w p x)(ha:eggAt w e y)(H:wfEg e)(v:∀z∈Ab e.j.L++Ab e.j.R,wfE z/\z.key.size<=140737488355328/\z.row.length<=2000000)(D:(Ab e.j.L).length<=4611686018427387904)(F:(Ab e.j.R).length<=4611686018427387904)(r:Cs p e=0->okEW e/\(lst AV e.gs).length<=3000000000000):
 χ 17 #[pl.Aj p x,egV e y] w (ψ w (.tuple #[.string ⟨(wrS p e).1.toArray⟩,vI (wrS p e).2])):=by
 have f:=hIz (λ(b:Ϡ) (i:ϣ w b)=>Ul p x e y b G (pl.Ae C i) (ha.below i) H v D F);have h:Ϣ (Cs p e=0->∀b,ϣ w b->CT 31 #[egV e y] b (ψ b (.string ⟨(IF e).toArray⟩))):=λt b i=>SU e y b (ha.below i) (r t).1 (r t).2;obtain⟨R,k⟩:=nM (wrS p e);have a:=hV0 k;rw[k];unfold wrS at a;obtain⟨E,A⟩:=nM (IF e);obtain⟨X,B⟩:=nM (Cs p e);rw[A]at h a;rw[B]at f h a;clear A B G C ha H r k v D F;unfold pl.Aj at f⊢;unfold egV egC at f h⊢;go_enter func17,ntmps17;go_wp2_with fail;generalize l:(World.alloc (World.alloc w _) _)=V;have m:ϣ w V:=by rw[<-l];exact ϯ.alloc Ϧ _
 have g:Ϣ (SB V (w.heap.size+1) (egC e y)):=by
  subst l;have u:=SB.new (ϊ w (Φ p x) 32) (egC e y) 42;rw[World.size_alloc]at u;exact u
 clear l;refine(f.o V m).mono ?_;rintro o b ⟨rfl,n⟩;have c:ϣ w b:=bT m n;replace g:=hy (g.o.below n);clear n m f;by_cases s:X=0
 rotate_left
 ·have M:(X !=0)=true:=by simpa using s
  rw[if_pos s]at a;go_wp2
  go_ret2
  exact⟨P6 a.o rfl,c⟩
 subst s;rw[if_neg ϥ]at a;obtain⟨u0,u1,u2,u3,u4,u5,u6,u7,u8,u9,u10⟩:=Iq g.o;have N:=g.o.lt;go_wp2_with fail;refine(h.o Ϭ _ c).mono ?_;rintro o O ⟨rfl,K⟩;replace c:=bT c K;have j:(⟨E.toArray⟩:ByteArray).size=E.length:=size_mk E;by_cases I:1048576<E.length
 ·rw[if_pos I]at a;obtain⟨q,d⟩:∃q,(⟨E.toArray⟩:ByteArray)=q:=⟨_,rfl⟩;rw[d]at j⊢;have L:(1048576:Int)<(q.size:Int):=Ϥ;clear j d;go_wp2
  go_ret2
  exact⟨P6 a.o rfl,c⟩
 ·rw[if_neg I]at a;obtain⟨q,d⟩:∃q,(⟨E.toArray⟩:ByteArray)=q:=⟨_,rfl⟩;have J:=hV0 d;rw[d]at j⊢;have L:(q.size:Int)<=1048576:=Ϥ;clear j d;go_wp2
  go_ret2
  exact⟨P6 a.o J.o,c⟩
theorem SV(p:pl.Pln)(x:pl.PA)(e:Egg)(y:GGX)(w:Ϡ)(u:pl.wfPlan p)(s:pl.planAt w p x)(ha:eggAt w e y)(k:wfEg e)(t:Cs p e=0->(lst AV e.gs).length<=3000000000000)(A:∀z∈Ab e.j.L++Ab e.j.R,wfE z/\z.key.size<=140737488355328/\z.row.length<=2000000)(G:(Ab e.j.L).length<=4611686018427387904)(H:(Ab e.j.R).length<=4611686018427387904)(E:J6 w)(D:∃T a,Δ w 1 0 (.iface T a)):
 χ 5 #[pl.Aj p x,egV e y] w (ψ w (.bool true)):=by
 have d:=hIz (λ(b:Ϡ) (c:ϣ w b)=>Nj p x e y b u (pl.Ae s c) (ha.below c) k (λi=>⟨Q5 (MC i) k,t i⟩));have f:=hIz (λ(b:Ϡ) (c:ϣ w b)=>QI p x e y b u (pl.Ae s c) (ha.below c) k A G H (λi=>⟨Q5 (MC i) k,t i⟩));have I:Ϣ (∀b,ϣ w b->CT 9 #[] b (ψ b (.bool true))):=λb c=>U5 b (FG E c) (by
  obtain⟨T,a,h⟩:=D;exact⟨T,a,cLz c h⟩)
 obtain⟨⟨l,er⟩,B⟩:∃z,wrS p e=z:=⟨_,rfl⟩;rw[B]at d f;dsimp only at d f;obtain⟨q,F⟩:=nM (⟨l.toArray⟩:ByteArray);rw[F]at d f;clear B F u s ha k t E D A G H;unfold pl.Aj at d f⊢;unfold egV egC at d f⊢;go_enter func5,ntmps5;go_wp2_with fail;generalize n:(World.alloc (World.alloc w _) _)=V;have r:ϣ w V:=by rw[<-n];exact ϯ.alloc Ϧ _
 have g:Ϣ (boxP V w p x/\SB V (w.heap.size+1) (egC e y)):=by
  subst n;have v:=SB.new (ϊ w (Φ p x) 32) (egC e y) 42;rw[World.size_alloc]at v;exact⟨Af (BQ ..) ϯ,v⟩
 clear n;refine(d.o V r).mono ?_;rintro o b ⟨rfl,m⟩;have j:ϣ w b:=bT r m;replace g:Ϣ (boxP b w p x/\SB b (w.heap.size+1) (egC e y)):=⟨Af g.o.1 m,g.o.2.below m⟩;clear m r d;obtain⟨K,L,P,Q,R,S,U,W,X,Y,M,N,O⟩:=g.o.1;obtain⟨u0,u1,u2,u3,u4,u5,u6,u7,u8,u9,u10⟩:=Iq g.o.2;go_wp2_with fail;refine(f.o b j).mono ?_;rintro o Z ⟨rfl,C⟩;replace j:=bT j C;clear K L P Q R S U W X Y M N O u0 u1 u2 u3 u4 u5 u6 u7 u8 u9 u10;clear C;go_wp2_with fail;refine(I.o Z j).mono ?_;rintro o w3 ⟨rfl,J⟩;go_wp2;go_ret;exact⟨rfl,bT j J⟩
end cd
end Go.Proofs.YtfkihidbnfkbaaaGreatDoor
