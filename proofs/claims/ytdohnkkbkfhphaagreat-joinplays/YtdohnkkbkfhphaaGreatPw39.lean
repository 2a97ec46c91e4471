import Derived.Test.YtdohnkkbkfhphaaGreatPw38
set_option linter.all false
set_option maxHeartbeats 16000000
set_option maxRecDepth 100000
open Go.ChangeShapes Go.WideShapes Go.ChangeAt Go.RowKit List
open Inhabited renaming default->ϰ
namespace Go.Proofs.YtdohnkkbkfhphaaGreat
open Go.Proofs.Tryz
namespace bf
open vl
attribute [local go_sem] Oper.semAt_some
variable {W : ϛ} {m : Nat}
def stB(P:Ent->Bool)(lim:Int)(mem:List Ent)(runs:List (List Ent))(k:Nat):Buf:=⟨lim,if k=0 then []else mem.filter P,Dg P (runs.take (k - 1))⟩
def Ib:BX:=⟨none,0,((none,0,0),[]),[]⟩
theorem AcL{d:ϛ}{C c base:Nat}{lim:Int}{hh:Hdr}{es:List EM}{l:List Ent}(h:KSt W C c base Ib ⟨lim,[],[]⟩)(z:Ξ W c 1)(f:Ϟ W d)(r:OE d W (hdV hh) es l):
 KSt (φ d c 1 (hdV hh)) C c base ⟨none,0,(hh,es),[]⟩ ⟨lim,l,[]⟩/\Below base W (φ d c 1 (hdV hh)):=by
 have q:=h.below f;have g:=h.ob.low;have A:=h.ne;have B:=h.up;obtain⟨ob,x,j,e,y,i,s,t,u,k,n,o,v,ne,w⟩:=q;have b:(d.setCell ⟨c,1,none⟩ (hdV hh)).heap[C]? =d.heap[C]? :=heap_setCell_other _ _ _ _ ϥ;refine⟨⟨Bg (Lq (r.mono g) i _ _),?_,?_,?_,?_,Ao i _ _,?_,?_,?_,?_,?_,?_,AW v b,ne,w⟩,(f.mono g).setCell ϥ _⟩
 ·go_simp
 ·exact World.cell?_setCell_same _ _ _ j
 ·unfold Ib at e;dsimp only at e⊢;go_simp
 ·go_simp
 ·exact(cOb (a:=⟨C,0,none⟩) b).trans s
 ·exact(cOb (a:=⟨C,1,none⟩) b).trans t
 ·exact(cOb (a:=⟨C,2,none⟩) b).trans u
 ·exact(AG (p:=⟨C,0,none⟩) b).trans k
 ·exact(AG (p:=⟨C,1,none⟩) b).trans n
 ·exact(AG (p:=⟨C,2,none⟩) b).trans o
theorem RH(c:W.heap.size=m)(k:ByteArray)(a b:Int)(r:Hdr)(f:Bool):∀j u,[Value.string k,vI a,vI b,vS r.1 r.2.1 r.2.2,.bool f][j]? =some u->(W.alloc (.cells #[.string k,vI a,vI b,vS r.1 r.2.1 r.2.2,.bool f] 63)).cell? ((⟨m,0,none⟩:Addr).add j)=some u:=by
 subst c;exact Dd _ _ _ _ _ _ _
theorem Pb{A w2:ϛ}{B c b:Nat}{a:Ϝ}{r:List Cel}{u:Value}(h:A4 w2 A (vS a c b) r)(f:m<=B)(e:B<A.heap.size):A4 (φ w2 B 3 u) m (vS a c b) r:=
 CK (A2 h (λg d=>heap_setCell_other _ _ _ _ (by have:=(AM h d).1;dsimp only;omega))) ϟ
theorem Qp(R:FuncId)(eg:∀b9 w,(callFunc R b9).run Tryz.prog w= .ok (.enter R b9) w)(aq:Array Value)(P:Ent->Bool)(b:Buf)(x:BX)(w:ϛ)(h:bufAt w b x)(hl:∀l∈partsB b,l.length<=100000)(hr:b.runs.length<=100000)(cj:∀y∈Aa b,y.row.length<=2000000)
 (H:∀e y a,ER a e y->y∈Aa b->Ϟ w a->Calls Tryz.prog R (#[e.val]++aq) a (θ a (.bool (P y)))):
 η 93 #[AF b x,.func (.func R) #[] aq] w λe w'=>(∃G,e= .returned (AF (Bt P b) G)/\OB w' w G (Bt P b))/\Ϟ w w':=by
 obtain⟨i0,a7,ap,bd,be⟩:=info_parts VH;have HI:ϝ (Tryz.prog.info? 26=some i0/\i0.zero=some (vS none 0 0)/\i0.size=1/\i0.bytes=24):=⟨a7,ap,bd,be⟩;clear a7 ap bd be;obtain⟨iE,a7,ap,bd,be⟩:=info_parts Nk;have HJ:ϝ (Tryz.prog.info? 63=some iE/\iE.zero=some (.agg #[ϊ,ω,ω,ψ,ϋ])/\iE.size=5/\iE.bytes=64):=⟨a7,ap,bd,be⟩;clear a7 ap bd be;have HP:ϝ (∀k,k<(partsB b).length->((x.m::x.rs).getD k ϰ).1.2.1=((partsB b).getD k ϰ).length/\BG w ((x.m::x.rs).getD k ϰ).1.1 ((x.m::x.rs).getD k ϰ).2/\ERs w ((x.m::x.rs).getD k ϰ).2 ((partsB b).getD k ϰ)):=λk hk=>Np h hk;have bv:ϝ (∀k j,k<(partsB b).length->j<((partsB b).getD k ϰ).length->(((partsB b).getD k ϰ).getD j ϰ).row.length<=2000000):=λk j hk S=>cj _ (Nq hk S);have bo:ϝ (∀k,k<(partsB b).length->((partsB b).getD k ϰ).length<=100000):=λk hk=>hl _ (AD hk);have HW:ϝ (∀k j e a,k<(partsB b).length->j<((partsB b).getD k ϰ).length->ER a e (((partsB b).getD k ϰ).getD j ϰ)->Ϟ w a->CT R (#[e.val]++aq) a (θ a (.bool (P (((partsB b).getD k ϰ).getD j ϰ))))):=λk j e a hk S he hb=>H e _ a he (Nq hk S) hb;have HD:ϝ (F8 w x.ra (x.rs.map (·.1))):=h.hds;have bj:ϝ ((partsB b).length=x.rs.length+1):=by show _=_;simp[partsB,h.rlen]
 have E:=h.rlen;have bi:ϝ ((partsB b).getD 0 ϰ=b.mem/\∀k,(partsB b).getD (k+1) ϰ=b.runs.getD k ϰ):=⟨rfl,λk=>by simp[partsB]⟩;clear h hl cj H;obtain⟨I,cb⟩:=nM (partsB b);rw[cb]at HP bv bo HW bj bi;clear cb;obtain⟨ra,rc,⟨⟨m1,m2,m3⟩,ml⟩,rs⟩:=x;obtain⟨d,aj,F⟩:=b;unfold AF hdV;dsimp only at HP HD bj bi hr E⊢;obtain⟨n,hn⟩:∃n,rs.length=n:=⟨_,rfl⟩;have HN:ϝ (rs.length=n/\F.length=n):=⟨hn,by rw[<-E,hn]⟩;rw[hn]at bj;rw[hn];have c6:n<=100000:=ϟ;clear hn E hr;have k0:Δ (ξ (ξ (ξ w (ν d m1 m2 m3 ra n rc) 29) #[ω,ψ,ψ] 29) #[vI d,ψ,ψ] 29) w 0 (vI d):=ϣ;have k1:Δ (ξ (ξ (ξ w (ν d m1 m2 m3 ra n rc) 29) #[ω,ψ,ψ] 29) #[vI d,ψ,ψ] 29) w 1 (vS m1 m2 m3):=ϣ;have k2:Δ (ξ (ξ (ξ w (ν d m1 m2 m3 ra n rc) 29) #[ω,ψ,ψ] 29) #[vI d,ψ,ψ] 29) w 2 (vS ra n rc):=ϣ;have kf:Ξ (ξ (ξ (ξ w (ν d m1 m2 m3 ra n rc) 29) #[ω,ψ,ψ] 29) #[vI d,ψ,ψ] 29) (w+1+1) 1:=ϣ;have co:Ϟ w (ξ (ξ (ξ w (ν d m1 m2 m3 ra n rc) 29) #[ω,ψ,ψ] 29) #[vI d,ψ,ψ] 29):=by
  repeat (first|exact bR|(refine Below.alloc ?_ Ϧ _))
 have cz:(((w.alloc (.cells (ν d m1 m2 m3 ra n rc) 29)).alloc (.cells #[ω,ψ,ψ] 29)).alloc (.cells #[vI d,ψ,ψ] 29)).heap.size=w.heap.size+1+1+1:=ϡ;have cm:ϝ (KSt (ξ (ξ (ξ w (ν d m1 m2 m3 ra n rc) 29) #[ω,ψ,ψ] 29) #[vI d,ψ,ψ] 29) (w.heap.size+1) (w.heap.size+1+1) (w.heap.size+1) Ib ⟨d,[],[]⟩):=by
  have nb:=EZ (ξ w (ν d m1 m2 m3 ra n rc) 29);rw[World.size_alloc]at nb;have k:=Zq (base:=w.heap.size+1) (base':=w.heap.size+1) (hh:=(none,0,0)) (es:=[]) (l:=[]) (lim:=d) nb (BD ϡ) nR nR;rw[World.size_alloc,World.size_alloc]at k;exact k
 go_enter func93,ntmps93;go_wp2;generalize ((w.alloc (.cells (ν d m1 m2 m3 ra n rc) 29)).alloc (.cells #[ω,ψ,ψ] 29)).alloc (.cells #[vI d,ψ,ψ] 29)=V at *
 go_loopw [6,7,8,9,10] (λii _ _ _ _ wr=> ∃(k:Nat) (G:BX),k<=n+1/\ii=vI ((k:Int) - 1)/\KSt wr (w.heap.size+1) (w.heap.size+1+1) (w.heap.size+1) G (stB P d aj F k)/\(k=0->G=Ib/\Ξ wr (w+1+1) 1)/\Below (w.heap.size+1) V wr) (λii _ _ _ _ _=>n+1 - (intOf ii+1).toNat)
 case atStart=>exact⟨0,Ib,Nat.zero_le _,rfl,cm.o,λ_=>⟨rfl,kf⟩,bR⟩
 case round=>
  obtain⟨k,G,hk,rfl,f,ap,av⟩:=hrel;have ab:=hV0 f;have cn:=hV0 ap;have bk:Ϟ w wr:=co.trans (av.mono ϟ);have c0:=(av.cell (p:=⟨w,0,none⟩) ϥ).trans k0;have c1:=(av.cell (p:=⟨w,1,none⟩) ϥ).trans k1;have c2:=(av.cell (p:=⟨w,2,none⟩) ϥ).trans k2;have lw:w.heap.size<wr.heap.size:=bLt _ _ c0;clear f ap;by_cases ct:k<n+1
  ·have am:k<I.length:=by rw[bj.o];exact ct
   cases k with
   |zero=>
    have N:=HP.o 0 am;have az:=bo.o 0 am;have a0:ϝ (∀j,j<(I.getD 0 ϰ).length->((I.getD 0 ϰ).getD j ϰ).row.length<=2000000):=λj S=>bv.o 0 j am S;have a4:ϝ (∀j e a,j<(I.getD 0 ϰ).length->ER a e ((I.getD 0 ϰ).getD j ϰ)->Ϟ w a->CT R (#[e.val]++aq) a (θ a (.bool (P ((I.getD 0 ϰ).getD j ϰ))))):=λj e a S he hb=>HW.o 0 j e a am S he hb;obtain⟨c,ar⟩:=nM (I.getD 0 ϰ);have bs:ϝ (c=aj):=by show c=aj;rw[<-ar];exact bi.o.1
    rw[ar]at N az a0 a4;obtain⟨pl,ai⟩:=nM c.length;have af:=hV0 ai;have bz:pl=m2:=by rw[<-ai,<-N.1];rfl
    have bg:ϝ (BG w m1 ml):=N.2.1;have ax:ϝ (ERs w ml c):=N.2.2;obtain⟨T,cg⟩:=nM ml;rw[cg]at bg ax;rw[ai]at az;subst bz;clear N ai cg ar;go_wp2;generalize wr=J at *
    go_loopw [8,9,10] (λo jj _ wq=> ∃(j:Nat) (hh:Hdr) (es:List EM),o=hdV hh/\jj=vI j/\j<=pl/\OE wq J (hdV hh) es ((c.take j).filter P)/\Ϟ J wq) (λ_ jj _ _=>pl - (intOf jj).toNat)
    case atStart=>exact⟨0,(none,0,0),[],rfl,rfl,Nat.zero_le _,BD nR,bR⟩
    case round=>
     obtain⟨j,⟨p1,t,p3⟩,ac,rfl,rfl,S,ah,q⟩:=hrel;have ae:=hV0 ah;have a9:ac.length=t:=by
      obtain⟨ad,cp,e⟩:=ah.form;unfold hdV at e
      cases e;rfl
     have ak:=hV0 a9;have cq:t<=100000:=by
      have h1:=ah.len;have h2:=length_filter_le P (c.take j);rw[length_take,af.o]at h2;omega
     have D:Ϟ w wr:=bT bk q;have aw:=q.size;have e0:=cLz q c0;have e1:=cLz q c1;have e2:=cLz q c2;have lw:w.heap.size<wr.heap.size:=bLt _ _ e0;clear ah a9;unfold hdV;dsimp only;by_cases a8:j<pl
     ·have ag:j<c.length:=by rw[af.o];exact a8
      obtain⟨b1,o1,ee,x1,x2,x3,x4,x5⟩:=bg.o j (by rw[ax.o.1,af.o];exact a8);subst ee;have z1:=cLz D x1;have z2:=cLz D x2;have z3:=cLz D x3;have z4:=cLz D x4;have z5:=cLz D x5;have aa:=ax.o.2 j ag;have M:=hV0 aa;have A:ϝ (CT R (#[(T.getD j ϰ).val]++aq) wr (θ wr (.bool (P (c.getD j ϰ))))):=a4.o j _ wr ag (aa.below D) D;have Q:ϝ (∀a,Ϟ w a->CT 86 #[hdV (T.getD j ϰ).row] a λr w'=>(∃a5 c',r= .returned (vS a5 (c.getD j ϰ).row.length c')/\A4 w' a (vS a5 (c.getD j ϰ).row.length c') (c.getD j ϰ).row)/\Ϟ a w'):=λa hb=>by
       have k:=Lp (T.getD j ϰ).row.1 (T.getD j ϰ).row.2.2 (c.getD j ϰ).row a (aa.below hb).row (a0.o j ag);unfold hdV;rw[aa.len];exact k
      have U:ϝ ((c.take (j+1)).filter P=(c.take j).filter P++(if P (c.getD j ϰ)=true then [c.getD j ϰ]else [])):=EY ag;obtain⟨xx,bc⟩:=nM (c.getD j ϰ);rw[bc]at A Q U M;obtain⟨⟨X,et,Z,⟨r1,r2,r3⟩,Y⟩,hz⟩:∃z,T.getD j ϰ=z:=⟨_,rfl⟩;rw[hz]at z1 z2 z3 z4 z5 A Q M;unfold EM.val hdV at A;unfold hdV at z4 Q;dsimp only at z1 z2 z3 z4 z5 A Q;obtain⟨L,E⟩:=nM xx.row.length;have bu:=hV0 E;rw[E]at Q;have i1:(0:Int)<=(j:Int):=ϟ;have i2:(j:Int)<(pl:Int):=ϟ;have cw:b1<wr.heap.size:=bLt _ _ z1;clear hz bc aa E x1 x2 x3 x4 x5
      cases hp:P xx with
      |false=>
       rw[hp]at A U;go_wp2_with (go_at_fn R;refine A.o.mono ?_;rintro e6 a ⟨rfl,i⟩);go_roundw
       case rel=>exact⟨j+1,(p1,t,p3),ac,rfl,by go_num,ϟ,by rw[U.o,if_neg Bool.false_ne_true,append_nil];exact ae.o.below i,q.trans (i.mono aw)⟩
       case measure=>simp[intOf]<;>omega
      |true=>
       rw[hp]at A U;go_wp2_with (first
        |(go_at_fn R;refine A.o.mono ?_;rintro e6 a ⟨rfl,i⟩;have y1:=cLz i z1;have y2:=cLz i z2;have y3:=cLz i z3;have y4:=cLz i z4;have y5:=cLz i z5;have cx:b1<a.heap.size:=bLt _ _ y1;have au:Ϟ wr (ξ a (ζ X et Z r1 r2 r3 Y) 63):=i.alloc i.size _)
        |(go_at_call 86;refine(Q.o _ (bT D au)).mono ?_;rintro e6 s ⟨⟨K,B,rfl,b3⟩,C⟩;have v0:Δ s a 0 (.string X):=cLz C ϣ;have v1:Δ s a 1 (vI et):=cLz C ϣ;have v2:Δ s a 2 (vI Z):=cLz C ϣ;have v3:Δ s a 3 (vS r1 r2 r3):=cLz C ϣ;have v4:Δ s a 4 (.bool Y):=cLz C ϣ;have vf:Ξ s a 3:=(C.frozen (p:=⟨a.heap.size,3,none⟩) ϡ).trans ϣ;have a6:Ϟ wr (φ s a 3 (vS K L B)):=(bT au C).setCell i.size _;have br:ϝ (A4 (φ s a 3 (vS K L B)) wr.heap.size (vS K L B) xx.row):=Pb b3 i.size ϡ;have bp:ϝ ((s.setCell ⟨a.heap.size,3,none⟩ (vS K L B)).ownsRow J.heap.size 63 5 (vS p1 t p3) t (Aq ac)):=(by have h:=own_below ae.o.own a6;rw[ak.o]at h;exact h);have cu:J.heap.size<=s.heap.size:=Nat.le_trans aw (Nat.le_trans au.size C.size))
        |(at_builtin;refine wpList_append_own _ rfl (.tmp 50) (.tmp 52) 26 rfl J.heap.size 63 iE (.agg #[ϊ,ω,ω,ψ,ϋ]) 5 64 underlying26 HJ.o.1 HJ.o.2.1 HJ.o.2.2.1 HJ.o.2.2.2 rfl Ϡ _ _ _ rfl (World.ownsRow.alloc bp.o _) ⟨s.heap.size,0,none⟩ 1 1 [.string X,vI et,vI Z,vS K L B,.bool Y] rfl rfl (RH (by simp[World.setCell]) X et Z (K,L,B) Y) (by intro u hu;simp at hu;rcases hu with rfl|rfl|rfl|rfl|rfl<;>rfl) ϩ ϟ Ϥ ?_;intro v9 w3 an ay cd))
       obtain⟨g3,c4,bb⟩:=Fa an;subst bb;have O:=IG (e:=⟨X,et,Z,(K,L,B),Y⟩) (x:=xx) (g:=g3) (cap2:=c4) ae.o a6 ⟨M.o.key,M.o.time,M.o.seq,M.o.met,bu.o.symm,CK br.o aw⟩ (by rw[ak.o];exact an) ay;rw[ak.o]at O;go_roundw
       case rel=>exact⟨j+1,(some ⟨g3,0,none⟩,t+1,c4),_,rfl,by go_num,ϟ,by rw[U.o,if_pos ϧ];exact O.1,q.trans O.2⟩
       case measure=>simp[intOf]<;>omega
     ·have bx:pl=j:=ϟ;have bw:ϝ ((c.take j).filter P=c.filter P):=by show _=_;rw[take_of_length_le (by rw[af.o];omega)]
      have bh:ϝ (OE wr J (hdV (p1,t,p3)) ac (c.filter P)):=by rw[<-bw.o];exact ae.o
      clear bx;have cr:¬((j:Int)<(pl:Int)):=ϟ;obtain⟨cv,cc⟩:=cn.o ϧ;subst cv;have f:=ab.o;have bn:KSt J (w.heap.size+1) (w.heap.size+1+1) (w.heap.size+1) Ib ⟨d,[],[]⟩:=f;have ck:=bn.below q;have q1:=ck.c1;unfold Ib hdV at q1;dsimp only at q1;have lN:w.heap.size+1+1<J.heap.size:=AX bn.ty;have qf:Ξ wr (w+1+1) 1:=(q.frozen (p:=⟨w+1+1,1,none⟩) lN).trans cc;have b8:ϝ _:=AcL bn cc q bh.o;clear f bn ck;go_wp2;go_roundw
      case rel=>exact⟨1,_,ϟ,by go_num,by rw[<-bs.o];exact b8.o.1,(λh=>by cases h),av.trans b8.o.2⟩
      case measure=>simp[intOf]<;>omega
   |succ k=>
    obtain⟨b2,o4,e4,x4⟩:=HD.o k (by rw[lMp,HN.o.1];omega);subst e4;have z0:=cLz bk x4;have ca:(rs.map (·.1)).getD k (none,0,0)=(rs.getD k ϰ).1:=by rw[gDe,getElem?_map,gEe (by rw[HN.o.1];omega),gDe,gEe (by rw[HN.o.1];omega)];rfl
    rw[ca]at z0;have N:(rs.getD k ϰ).1.2.1=(I.getD (k+1) ϰ).length/\BG w (rs.getD k ϰ).1.1 (rs.getD k ϰ).2/\ERs w (rs.getD k ϰ).2 (I.getD (k+1) ϰ):=HP.o (k+1) am;have az:=bo.o (k+1) am;have a0:ϝ (∀j,j<(I.getD (k+1) ϰ).length->((I.getD (k+1) ϰ).getD j ϰ).row.length<=2000000):=λj S=>bv.o (k+1) j am S;have a4:ϝ (∀j e a,j<(I.getD (k+1) ϰ).length->ER a e ((I.getD (k+1) ϰ).getD j ϰ)->Ϟ w a->CT R (#[e.val]++aq) a (θ a (.bool (P ((I.getD (k+1) ϰ).getD j ϰ))))):=λj e a S he hb=>HW.o (k+1) j e a am S he hb;obtain⟨c,ar⟩:=nM (I.getD (k+1) ϰ);have bs:ϝ (F.getD k ϰ=c):=by show _=c;rw[<-ar];exact(bi.o.2 k).symm
    rw[ar]at N az a0 a4;obtain⟨⟨⟨m4,m5,m6⟩,T⟩,hz⟩:∃z,rs.getD k ϰ=z:=⟨_,rfl⟩;rw[hz]at z0 N;unfold hdV at z0;dsimp only at z0 N;obtain⟨pl,ai⟩:=nM c.length;have af:=hV0 ai;have bz:pl=m5:=by rw[<-ai,<-N.1]
    have bg:ϝ (BG w m4 T):=N.2.1;have ax:ϝ (ERs w T c):=N.2.2;rw[ai]at az;subst bz;have ba:((k+1:Nat):Int) - 1=(k:Int):=ϟ;have i3:(0:Int)<=(k:Int):=ϟ;have i4:(k:Int)<(n:Int):=ϟ;have i5:¬((k:Int)<0):=ϟ;clear N ai hz ca x4 ar;rw[ba];clear ba;go_wp2;generalize wr=J at *
    go_loopw [8,9,10] (λo jj _ wq=> ∃(j:Nat) (hh:Hdr) (es:List EM),o=hdV hh/\jj=vI j/\j<=pl/\OE wq J (hdV hh) es ((c.take j).filter P)/\Ϟ J wq) (λ_ jj _ _=>pl - (intOf jj).toNat)
    case atStart=>exact⟨0,(none,0,0),[],rfl,rfl,Nat.zero_le _,BD nR,bR⟩
    case round=>
     obtain⟨j,⟨p1,t,p3⟩,ac,rfl,rfl,S,ah,q⟩:=hrel;have ae:=hV0 ah;have a9:ac.length=t:=by
      obtain⟨ad,cp,e⟩:=ah.form;unfold hdV at e
      cases e;rfl
     have ak:=hV0 a9;have cq:t<=100000:=by
      have h1:=ah.len;have h2:=length_filter_le P (c.take j);rw[length_take,af.o]at h2;omega
     have D:Ϟ w wr:=bT bk q;have aw:=q.size;have e0:=cLz q c0;have e1:=cLz q c1;have e2:=cLz q c2;have lw:w.heap.size<wr.heap.size:=bLt _ _ e0;clear ah a9;unfold hdV;dsimp only;by_cases a8:j<pl
     ·have ag:j<c.length:=by rw[af.o];exact a8
      obtain⟨b1,o1,ee,x1,x2,x3,x4,x5⟩:=bg.o j (by rw[ax.o.1,af.o];exact a8);subst ee;have z1:=cLz D x1;have z2:=cLz D x2;have z3:=cLz D x3;have z4:=cLz D x4;have z5:=cLz D x5;have aa:=ax.o.2 j ag;have M:=hV0 aa;have A:ϝ (CT R (#[(T.getD j ϰ).val]++aq) wr (θ wr (.bool (P (c.getD j ϰ))))):=a4.o j _ wr ag (aa.below D) D;have Q:ϝ (∀a,Ϟ w a->CT 86 #[hdV (T.getD j ϰ).row] a λr w'=>(∃a5 c',r= .returned (vS a5 (c.getD j ϰ).row.length c')/\A4 w' a (vS a5 (c.getD j ϰ).row.length c') (c.getD j ϰ).row)/\Ϟ a w'):=λa hb=>by
       have k:=Lp (T.getD j ϰ).row.1 (T.getD j ϰ).row.2.2 (c.getD j ϰ).row a (aa.below hb).row (a0.o j ag);unfold hdV;rw[aa.len];exact k
      have U:ϝ ((c.take (j+1)).filter P=(c.take j).filter P++(if P (c.getD j ϰ)=true then [c.getD j ϰ]else [])):=EY ag;obtain⟨xx,bc⟩:=nM (c.getD j ϰ);rw[bc]at A Q U M;obtain⟨⟨X,et,Z,⟨r1,r2,r3⟩,Y⟩,hz⟩:∃z,T.getD j ϰ=z:=⟨_,rfl⟩;rw[hz]at z1 z2 z3 z4 z5 A Q M;unfold EM.val hdV at A;unfold hdV at z4 Q;dsimp only at z1 z2 z3 z4 z5 A Q;obtain⟨L,E⟩:=nM xx.row.length;have bu:=hV0 E;rw[E]at Q;have i1:(0:Int)<=(j:Int):=ϟ;have i2:(j:Int)<(pl:Int):=ϟ;have cw:b1<wr.heap.size:=bLt _ _ z1;clear hz bc aa E x1 x2 x3 x4 x5
      cases hp:P xx with
      |false=>
       rw[hp]at A U;go_wp2_with (go_at_fn R;refine A.o.mono ?_;rintro e6 a ⟨rfl,i⟩);go_roundw
       case rel=>exact⟨j+1,(p1,t,p3),ac,rfl,by go_num,ϟ,by rw[U.o,if_neg Bool.false_ne_true,append_nil];exact ae.o.below i,q.trans (i.mono aw)⟩
       case measure=>simp[intOf]<;>omega
      |true=>
       rw[hp]at A U;go_wp2_with (first
        |(go_at_fn R;refine A.o.mono ?_;rintro e6 a ⟨rfl,i⟩;have y1:=cLz i z1;have y2:=cLz i z2;have y3:=cLz i z3;have y4:=cLz i z4;have y5:=cLz i z5;have cx:b1<a.heap.size:=bLt _ _ y1;have au:Ϟ wr (ξ a (ζ X et Z r1 r2 r3 Y) 63):=i.alloc i.size _)
        |(go_at_call 86;refine(Q.o _ (bT D au)).mono ?_;rintro e6 s ⟨⟨K,B,rfl,b3⟩,C⟩;have v0:Δ s a 0 (.string X):=cLz C ϣ;have v1:Δ s a 1 (vI et):=cLz C ϣ;have v2:Δ s a 2 (vI Z):=cLz C ϣ;have v3:Δ s a 3 (vS r1 r2 r3):=cLz C ϣ;have v4:Δ s a 4 (.bool Y):=cLz C ϣ;have vf:Ξ s a 3:=(C.frozen (p:=⟨a.heap.size,3,none⟩) ϡ).trans ϣ;have a6:Ϟ wr (φ s a 3 (vS K L B)):=(bT au C).setCell i.size _;have br:ϝ (A4 (φ s a 3 (vS K L B)) wr.heap.size (vS K L B) xx.row):=Pb b3 i.size ϡ;have bp:ϝ ((s.setCell ⟨a.heap.size,3,none⟩ (vS K L B)).ownsRow J.heap.size 63 5 (vS p1 t p3) t (Aq ac)):=(by have h:=own_below ae.o.own a6;rw[ak.o]at h;exact h);have cu:J.heap.size<=s.heap.size:=Nat.le_trans aw (Nat.le_trans au.size C.size))
        |(at_builtin;refine wpList_append_own _ rfl (.tmp 50) (.tmp 52) 26 rfl J.heap.size 63 iE (.agg #[ϊ,ω,ω,ψ,ϋ]) 5 64 underlying26 HJ.o.1 HJ.o.2.1 HJ.o.2.2.1 HJ.o.2.2.2 rfl Ϡ _ _ _ rfl (World.ownsRow.alloc bp.o _) ⟨s.heap.size,0,none⟩ 1 1 [.string X,vI et,vI Z,vS K L B,.bool Y] rfl rfl (RH (by simp[World.setCell]) X et Z (K,L,B) Y) (by intro u hu;simp at hu;rcases hu with rfl|rfl|rfl|rfl|rfl<;>rfl) ϩ ϟ Ϥ ?_;intro v9 w3 an ay cd))
       obtain⟨g3,c4,bb⟩:=Fa an;subst bb;have O:=IG (e:=⟨X,et,Z,(K,L,B),Y⟩) (x:=xx) (g:=g3) (cap2:=c4) ae.o a6 ⟨M.o.key,M.o.time,M.o.seq,M.o.met,bu.o.symm,CK br.o aw⟩ (by rw[ak.o];exact an) ay;rw[ak.o]at O;go_roundw
       case rel=>exact⟨j+1,(some ⟨g3,0,none⟩,t+1,c4),_,rfl,by go_num,ϟ,by rw[U.o,if_pos ϧ];exact O.1,q.trans O.2⟩
       case measure=>simp[intOf]<;>omega
     ·have bx:pl=j:=ϟ;have bw:ϝ ((c.take j).filter P=c.filter P):=by show _=_;rw[take_of_length_le (by rw[af.o];omega)]
      have bh:ϝ (OE wr J (hdV (p1,t,p3)) ac (c.filter P)):=by rw[<-bw.o];exact ae.o
      clear bx;have cr:¬((j:Int)<(pl:Int)):=ϟ;have f:=ab.o.below q;have E:=ab.o.ob.rlen;have ci:G.rs.length<=100000:=by
       have h1:=Pa P (F.take k);rw[length_take]at h1;unfold stB at E;dsimp only at E;rw[E];simp only[Nat.add_sub_cancel];omega
      have q2:=f.c2;have qf:=f.f2;have bq:ϝ (wr.ownsRow (w.heap.size+1) 26 1 (vS G.ra G.rs.length G.rc) G.rs.length (G.rs.map λp=>hdV p.1)):=f.ob.hds;have c5:w.heap.size+1<=wr.heap.size:=f.ob.low;have b7:ϝ (Dg P (F.take (k+1))=Dg P (F.take k)++(if 0<(c.filter P).length then [c.filter P]else [])):=by
       show _=_;rw[MU (by rw[HN.o.2];omega),bs.o]
      have bm:t=(c.filter P).length:=by rw[<-ak.o];exact bh.o.len
      have lN:w.heap.size+1+1<wr.heap.size:=AX f.ty;clear f E;by_cases cf:0<t
      ·have HE:ϝ (stB P d aj F (k+1+1)=(stB P d aj F (k+1)).more (c.filter P)):=by
        have e1:Dg P (F.take (k+1))=Dg P (F.take k)++[c.filter P]:=by rw[b7.o,if_pos (by rw[<-bm];exact cf)]
        show _=_;simp[stB,Buf.more,e1]
       obtain⟨rn,ao⟩:=nM G.rs.length;have al:=hV0 ao;obtain⟨b4,b5,c8,b6⟩:=G;dsimp only at ao al q2 bq ci;rw[ao]at q2 bq ci;clear ao bm;go_wp2_with (at_builtin;refine wpList_append_own _ rfl (.tmp 62) (.tmp 64) 27 rfl (w.heap.size+1) 26 i0 (vS none 0 0) 1 24 underlying27 HI.o.1 HI.o.2.1 HI.o.2.2.1 HI.o.2.2.2 rfl Ϡ _ _ _ rfl (World.ownsRow.alloc bq.o _) ⟨wr,0,none⟩ 1 1 [vS p1 t p3] rfl rfl (cell_one_new _ _ rfl _) (by intro u hu;simp at hu;rcases hu with rfl;rfl) ϩ ϟ Ϥ ?_;intro v3 w3 an ay cd;have b0:=VI ab.o q (by dsimp only;rw[al.o];exact ay);dsimp only at b0;rw[al.o]at b0;obtain⟨t2,tf⟩:=b0;obtain⟨g3,B,bb⟩:=Fa an;subst bb);have O:=RG (g:=g3) (cap2:=B) (p:=((p1,t,p3),ac)) (l:=c.filter P) ab.o q bh.o (by dsimp only;rw[al.o];exact an) (by dsimp only;rw[al.o];exact ay);rw[<-HE.o]at O;dsimp only at O;rw[al.o]at O;go_roundw
       case rel=>exact⟨k+1+1,_,ϟ,(by first|go_num|(congr 1;omega)),O.1,(λh=>by cases h),av.trans O.2⟩
       case measure=>simp[intOf]<;>omega
      ·have HE:ϝ (stB P d aj F (k+1+1)=stB P d aj F (k+1)):=by
        have e1:Dg P (F.take (k+1))=Dg P (F.take k):=by rw[b7.o,if_neg (by rw[<-bm];exact cf),append_nil]
        show _=_;simp[stB,e1]
       clear bm;go_wp2;go_roundw
       case rel=>exact⟨k+1+1,G,ϟ,(by first|go_num|(congr 1;omega)),by rw[HE.o];exact ab.o.below q,(λh=>by cases h),av.trans (q.mono ϟ)⟩
       case measure=>simp[intOf]<;>omega
  ·have cs:k=n+1:=ϟ;subst cs;have f:=ab.o;have cl:ϝ (stB P d aj F (n+1)=Bt P ⟨d,aj,F⟩):=by
    show _=_;unfold stB Bt;rw[Nat.add_sub_cancel,take_of_length_le (by rw[HN.o.2];exact Nat.le_refl _)];rfl
   rw[cl.o]at f ab;have d0:=f.c0;have d1:=f.c1;have d2:=f.c2;have r0:=f.r0;have r1:=f.r1;have r2:=f.r2;have g0:=f.g0;have g1:=f.g1;have g2:=f.g2;have lC:w.heap.size+1<wr.heap.size:=AX f.rt;have lN:w.heap.size+1+1<wr.heap.size:=AX f.ty;obtain⟨b4,b5,⟨⟨a1,a2,a3⟩,cy⟩,b6⟩:=G;unfold hdV at d1;unfold Bt at d0;dsimp only at d0 d1 d2;obtain⟨rn,ao⟩:=nM b6.length;have al:=hV0 ao;rw[ao]at d2;have ba:((n+1:Nat):Int) - 1=(n:Int):=ϟ;have c7:¬((n:Int)<(n:Int)):=ϟ;rw[ba];clear ba ao f;go_wp2;refine bodyPost_ret (v:=.agg (ν d a1 a2 a3 b4 rn b5)) (by simp[results,results93,go_sem,r0,r1,r2,d0,d1,d2]) rfl ⟨⟨⟨b4,b5,((a1,a2,a3),cy),b6⟩,?_,?_⟩,?_⟩
   ·unfold Bt;dsimp only;rw[al.o]
   ·exact A5 (Gd ab.o.ob ab.o.rt _ _ _) ϟ
   ·exact((bk.setCell ϥ _).setCell ϥ _).setCell ϥ _
end bf
end Go.Proofs.YtdohnkkbkfhphaaGreat
