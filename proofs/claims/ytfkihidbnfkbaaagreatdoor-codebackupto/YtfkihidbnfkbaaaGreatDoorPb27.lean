import Derived.Test.YtfkihidbnfkbaaaGreatDoorPb26
import Derived.Test.YtfkihidbnfkbaaaGreatDoorPb25
set_option linter.all false
set_option maxHeartbeats 8000000
set_option maxRecDepth 100000
open Go.ChangeShapes Go.WideShapes Go.ChangeAt Go.RowKit Go.Maps Go.WideMaps List
namespace Go.Proofs.YtfkihidbnfkbaaaGreatDoor
open Go.Proofs.Tryz
namespace jn
open vl bf
variable {w w' : ϙ} {M nn : Nat} {k : ByteArray}
def JS(w:World)(M nn:Nat)(f:ByteArray->Int):Prop:=∃D:DataW Unit,w.ownsMap Tryz.prog 9 (plainElem (H:=Unit) Tryz.prog 3) M nn D/\∀k:ByteArray,k.size<=maxLen->D.atKey (.string k.data.toList) (.lit (.int .i64 0))= .lit (.int .i64 (f k))
theorem ZB(w:ϙ):JS (w.alloc (.map #[] 0)) w.heap.size 0 (λ_=>0):=⟨_,World.ownsMap_made _ _ _ _,λs a=>rfl⟩
theorem AbL{f:ByteArray->Int}(h:JS w M nn f):M<w.heap.size:=by
 obtain⟨D,a,_⟩:=h;exact a.lt
theorem Xd{f:ByteArray->Int}(h:JS w M nn f)(i:w'.heap[M]? =w.heap[M]?):JS w' M nn f:=by
 obtain⟨D,⟨b,a,g,F,d,e⟩,c⟩:=h;exact⟨D,⟨b,a,i.trans g,F,d,e⟩,c⟩
theorem Fu{f:ByteArray->Int}(h:JS w M nn f)(a:Ϝ w w'):JS w' M nn f:=Xd h (a.block M (AbL h))
theorem Xe{f:ByteArray->Int}(h:JS w M nn f)(d:k.size<=maxLen):(Instr.lookup 222 (.map (some M)) (.string k) false).run Tryz.prog w= .ok (.int .i64 (f k)) w:=by
 obtain⟨D,g,i⟩:=h;obtain⟨c,n,j,_⟩:=g.lookup_int ch.law underlying222 underlying3 (Tryz.zeroValue3 w) (keyOf_string_mk underlying9 d);have m:=(i k d).symm.trans j;have e:∀a b:Int,(DataW.lit (Lit.int .i64 a):DataW Unit)= .lit (.int .i64 b)->a=b:=λa b h=>(Lit.int.inj (DataW.lit.inj h)).2;rw[n,e _ _ m]
theorem ZC{f:ByteArray->Int}(h:JS w M nn f)(c:k.size<=maxLen){v:Int}(p:pl.i64 v)(j:nn<maxLen):
 ∃w',(Instr.mapUpdate 222 (.map (some M)) (.string k) (.int .i64 v)).run Tryz.prog w= .ok () w'/\JS w' M (nn+1) (λd=>if d=k then v else f d)/\w.grownBy w' (some M):=by
 obtain⟨D,b,g⟩:=h;obtain⟨w',n,m,i⟩:=b.update ch.law underlying222 j (keyOf_string_mk underlying9 c) (plainElem_int (H:=Unit) (a:=v) underlying3 (MI p));refine⟨w',n,⟨_,m,λt o=>?_⟩,i⟩;by_cases e:t=k
 ·subst e;rw[atKey_put_same b.isMap (ch.law.key (keyOf_string_mk underlying9 c))];simp
 ·rw[atKey_put_other (λq:Lit.string t.data.toList=Lit.string k.data.toList=>e (PG (Lit.string.inj q))),g t o];simp[e]
end jn
namespace jn
open vl bf
attribute [local go_sem] Oper.semAt_some
variable {l : List Ent} {low : Int} {y : Ent}
def Du(l:List Ent)(low:Int)(key:ByteArray):Int:=match (l.filter λy=>decide (y.key=key)&&decide (y.time<=low)).getLast? with
 |some y=>y.seq
 |none=>0
theorem Xf(s:Jn)(a:ByteArray)(low:Int):lastOf s a low=Du (El (Ac s.R)) low a:=rfl
theorem Xg(h:¬y.time<=low):Du (l++[y]) low=Du l low:=by
 funext k
 unfold Du;rw[filter_append];have:([y].filter λz=>decide (z.key=k)&&decide (z.time<=low))=[]:=by simp[h]
 rw[this,append_nil]
theorem TC(h:y.time<=low):Du (l++[y]) low=λk=>if k=y.key then y.seq else Du l low k:=by
 funext k
 unfold Du;rw[filter_append];by_cases e:k=y.key
 ·have:([y].filter λz=>decide (z.key=k)&&decide (z.time<=low))=[y]:=by simp[h,e]
  rw[this,if_pos e,getLast?_append];rfl
 ·have:([y].filter λz=>decide (z.key=k)&&decide (z.time<=low))=[]:=by simp;intro a;exact absurd a.symm e
  rw[this,append_nil,if_neg e]
theorem TD{k:Nat}(h:k<l.length):l.take (k+1)=l.take k++[l.getD k default]:=by
 rw[take_succ_eq_append_getElem h,gDe,gEe h];rfl
theorem Xh(e:EM)(z:Ent)(low:Int)(f:ByteArray->Int)(A C M nn:Nat)(w:ϙ)(h:ER w e z)(r:z.key.size<=maxLen)(u:Δ w A 0 (vI low))(v:Δ w C 0 (.map (some M)))(p:JS w M nn f):
 η 387 #[e.val,μ A,μ C] w (θ w (.bool (decide (low<z.time)||decide (f z.key=z.seq)))):=by
 have J:=bLt _ _ u;have K:=bLt _ _ v;have g:=h.key;have i:=h.time;have j:=h.seq;obtain⟨n,a,d,⟨E,G,H⟩,s⟩:=e;dsimp only at g i j;rw[<-g]at r;rw[<-g,<-i,<-j];have q:=Fu p ((Below.refl w.heap.size w).alloc nR (.cells (ζ n a d E G H s) 166));have D:=Xe q r;obtain⟨F,o⟩:=nM (f n);rw[o]at D⊢;clear h g i j p q o;unfold EM.val hdV;dsimp only;by_cases b:low<a
 ·have c:decide (low<a)=true:=by simpa using b
  have x:∀t,binOp .gtr t (vI a) (vI low)=pure (.bool true):=pl.GG true (by simpa using b);rw[c,Bool.true_or];clear c b;go_enter func387,ntmps387;go_wp2;go_ret;exact⟨rfl,Ϩ⟩
 ·have c:decide (low<a)=false:=by simpa using b
  have x:∀t,binOp .gtr t (vI a) (vI low)=pure (.bool false):=pl.GG false (by simpa using b);rw[c,Bool.false_or];clear c b;obtain⟨B,m⟩:=nM (decide (F=d));have I:∀t,binOp .eql t (vI F) (vI d)=pure (.bool B):=pl.Tn B (by rw[<-m];by_cases e:F=d<;>simp[e]);rw[m];clear m;go_enter func387,ntmps387;go_wp2;go_ret;exact⟨rfl,Ϩ⟩
def OH(s:Jn)(z:Ent):Bool:=decide (Ux s<z.time)||decide (lastOf s z.key (Ux s)=z.seq)
theorem AdJ(s:Jn):Ym s=A7 s 2 (CY (OH s) s.R):=rfl
theorem R9(b:Nat)(p:pl.Pln)(x:pl.PA)(s:Jn)(y:JX)(t:Value)(L:List CO)(P w:ϙ)(h:JSt P w b 274 p x s y t L)(hw:pl.wfPlan p)(hp:pl.planAt P p x)(hg:goodJ p s):
 η 384 #[μ b] w λe w'=>e= .returned (.tuple #[])/\∃y',JSt P w' b 274 p x (Ym (FL p s)) y' t L/\Bz 274 w w':=by
 have hT:calmC 274:=⟨⟨Ϟ,Ϟ,Ϟ⟩,Ϟ⟩;have KF:ϛ (CT 338 #[μ b] w λe w'=>e= .returned (.tuple #[])/\∃y',JSt P w' b 274 p x (FL p s) y' t L/\Bz 274 w w'):=Ja b _ p x s y t L P w h hT Ϟ hw hp hg;have aw:goodJ p (FL p s):=K7 hg;obtain⟨c,ba⟩:=nM (FL p s);rw[ba]at KF aw⊢;have HG:=hqz aw;clear h hw hp hg ba aw;rw[AdJ];obtain⟨U,au⟩:=nM (CY (OH c) c.R);have bm:=hqz au;rw[au];clear au;go_enter func384,ntmps384;go_wp2_with (go_at_call 338;refine KF.o.mono ?_;rintro e u ⟨rfl,E,a4,a5⟩;have ah:ϛ (JSt P u b 274 p x c E t L):=a4;have bg:ϛ (Bz 274 w u):=a5;clear a4 a5);have l1:=ah.o.box.join.2.2.2.2.2.2.1;have l2:=ah.o.box.join.2.2.2.2.2.2.2.1;obtain⟨low,ad⟩:=nM (Ux c);have bj:=hqz ad;unfold Ux at ad;obtain⟨lm,a7⟩:=nM c.lm;obtain⟨rm,a9⟩:=nM c.rm;rw[a7]at l1 ad;rw[a9]at l2 ad;clear a7 a9;have lb:b<u.heap.size:=ah.o.box.lt;have aj:ϛ (∀w',Ϝ u w'->Δ w' b 19 (vI lm)/\Δ w' b 20 (vI rm)):=λw' B=>⟨cLz B l1,cLz B l2⟩
 go_cut [2] (λpt wc=> ∃A:Nat,pt= .pointer (τ A)/\u.heap.size<=A/\Δ wc A 0 (vI low)/\Ϝ u wc)
 case first=>
  refine gr.Ds 15 rfl Ϡ (S:=λw'=>Δ w' b 19 (vI lm)/\Δ w' b 20 (vI rm)) (aj.o _ bR.drew) (λo=>?_);refine tkz 0 12 o ?_;refine tkz 1 13 o ?_;refine tkz 2 14 o ?_;refine tkz 3 15 o ?_;refine tkz 4 16 o ?_;refine tkz 5 17 o ?_;refine tkz 6 18 o ?_;refine tkz 7 19 o ?_;refine tkz 8 20 o ?_;refine tkz 9 21 o ?_;refine tkz 10 22 o ?_;refine tkz 11 23 o ?_;refine gr.Rf (v:=vI low) 12 (some 24) o ?_ (hy:=by intro w' b4;go_simp);refine rD 13 λK hK=>?_;go_simp;refine hK.out _ _ (aj.o _ ((Below.refl u.heap.size u).drew.alloc nR _)) (λo=>?_);clear hK K
  try simp only[Act.put,sI,sZ,sS]
  refine rD 14 λK hK=>?_;go_simp;refine hK.out _ _ (aj.o _ ((Below.refl u.heap.size u).alloc nR _).drew) (λo=>?_);clear hK K;refine wpAnyH_done Ϡ ?_ _;go_wp2;go_meet;exact⟨u.heap.size,rfl,Nat.le_refl _,ϡ,((Below.refl u.heap.size u).alloc nR _).drew⟩
 case rest=>
  obtain⟨A,rfl,hA,ca,a2⟩:=hcut;rename World=>W;have G:ϛ (JSt P W b 274 p x c E t L):=ah.o.below a2;have ok:=HG.o.ok.R;have ae:∀z∈Ac c.R,wfE z/\wfP (Bd z):=λz B=>HG.o.wf z (mem_append.2 (.inr B));have H:ϛ (∀j,Ϝ W j->CT 386 #[AZ c.R E.r] j λe w'=>(∃(D:Hdr) (ar:List EM),e= .returned (.tuple #[hdV D,ω])/\OE w' j (hdV D) ar (El (Ac c.R)))/\Ϝ j w'):=λj hb=>(H3 c.R E.r j (An G.o.r.at hb) ae (by have:=ok.all;omega) (Ez ok)).mono (by
   rintro e w' ⟨⟨D,ar,l',rfl,hp,bu,ho⟩,bs⟩;rw[NM hp bu ok.once]at ho;exact⟨⟨D,ar,rfl,ho⟩,bs⟩)
  obtain⟨m,ak⟩:=nM (El (Ac c.R));have bk:=hqz ak;have az:ϛ (m.length<=4096/\∀k,k<m.length->(m.getD k default).key.size<=maxLen/\pl.i64 (m.getD k default).seq):=by
   rw[<-ak];refine⟨by rw[(BL _).length_eq];exact ok.all,λk hk=>?_⟩;have hm:=(BL (Ac c.R)).mem_iff.1 (Bj (d:=default) hk);exact⟨(ae _ hm).1.key,(ae _ hm).2.seq⟩
  rw[ak]at H;have T:ϛ (∀(f:ByteArray->Int) (A C M nn:Nat) (j:ϙ),f=Du m low->Ϝ W j->Δ j A 0 (vI low)->Δ j C 0 (.map (some M))->JS j M nn f->CT 253 #[AZ c.R E.r,.func (.func 387) #[] #[μ A,μ C]] j λe w'=>(∃X,e= .returned (AZ U X)/\OB w' j X U)/\Ϝ j w'):=λf A C M nn j hf hb h1 h2 h3=>by
   have ay:=ok.small;have hk:=H8 387 (enters_of func387 Ϡ rfl) #[μ A,μ C] (OH c) c.R E.r j (An G.o.r.at hb) ay.1 ay.2.1 ay.2.2 (λe z w2 N B av=>by
    have:=Xh e z low f A C M nn w2 N (ae z B).1.key (cLz av h1) (cLz av h2) (Fu h3 av);have e1:OH c z=(decide (low<z.time)||decide (f z.key=z.seq)):=by unfold OH;rw[bj.o,Xf,bk.o,hf]
    rw[e1];exact this)
   rw[bm.o]at hk;exact hk
  obtain⟨ag,ac,Q⟩:=Ff G.o.box.join 2;have ao:ϛ (∀j,Ϝ W j->∀i,i<23->Ξ j b i):=λj hb i hi=>by
   have:=((G.o.below hb).box.room i hi).2;simpa using this
  have eb:Au 2=3:=rfl;have e2:Ak c 2=c.R:=rfl;have e3:B7 E 2=E.r:=rfl;rw[eb,e2]at ag;rw[eb,e3]at ac Q;obtain⟨yr,bc⟩:=nM E.r;rw[bc]at H T ac Q;obtain⟨b2,b3,⟨⟨m1,m2,m3⟩,ml⟩,rs⟩:=yr;obtain⟨b1,a6⟩:=nM c.R.lim;unfold AZ hdV at H T;dsimp only at H T ac Q;rw[a6]at H T ag;obtain⟨n,hn⟩:=nM rs.length;rw[hn]at H T Q;obtain⟨ln,ax⟩:=nM m.length;have ap:=hqz ax;have b7:ln<=4096:=by rw[<-ax];exact az.o.1
  have lW:b<W.heap.size:=G.o.box.lt;have lA:A<W.heap.size:=bLt _ _ ca;clear ok ae ak eb e2 e3 bc a6 hn ax l1 l2 aj ad lb;have b6:=@run_makeMap Tryz.prog;go_wp2_with (go_at_call 386;refine(H.o _ bR).mono ?_;rintro e X ⟨⟨D,es,rfl,ho⟩,a3⟩;have R:ϛ (OE X W (vS D.1 D.2.1 D.2.2) es m):=ho;clear ho;have bi:ϛ (D.2.1=ln):=(by show _=_;rw[<-ap.o,<-R.o.len];exact(C9 (p:=(D,es)) R.o).1.1);obtain⟨g1,I,g3⟩:=D;have F:I=ln:=bi.o;subst F;dsimp only at R⊢;have lX:b<X.heap.size:=Nat.lt_of_lt_of_le lW a3.size);have bq:ϛ (∀w',Ϝ X w'->Ϝ W w'):=λw' B=>bT a3 B
  go_loopw [38] (λi wr=> ∃(k nn:Nat),k<=I/\i=vI k/\nn<=k/\ϛ (JS wr X.heap.size nn (Du (m.take k) low))/\Δ wr (X+1) 0 (.map (some X.heap.size))/\Ϝ X wr) (λi _=>I - (intOf i).toNat)
  case atStart=>exact⟨0,0,Nat.zero_le _,rfl,Nat.le_refl _,Fu (ZB X) Ϩ,ϡ,Ϩ.alloc ϟ _⟩
  case round=>
   obtain⟨k,nn,hk,rfl,b8,aq,an,r⟩:=hrel;have lw:X.heap.size+1<wr.heap.size:=bLt _ _ an;have J:Ϝ W wr:=bq.o _ r;have a0:=cLz J ca;by_cases bz:k<I
   ·have am:k<m.length:=by rw[ap.o];exact bz
    obtain⟨gb,cb,ea,x1,x2,x3,x4,x5⟩:=(C9 (p:=((g1,I,g3),es)) R.o).2 k (by rw[R.o.len];exact am);dsimp only at ea;subst ea;have q1:=cLz r x1;have q2:=cLz r x2;have q3:=cLz r x3;have q4:=cLz r x4;have q5:=cLz r x5;clear x1 x2 x3 x4 x5;have N:=R.o.ers.2 k am;have af:=az.o.2 k am;have ai:=TD am;have V:=N.key;have aa:=N.time;have Y:=N.seq;obtain⟨⟨ek,et,a1,⟨r1,r2,r3⟩,em⟩,B⟩:∃z,es.getD k default=z:=⟨_,rfl⟩;rw[B]at q1 q2 q3 q4 q5 V aa Y;unfold hdV at q4;dsimp only at q1 q2 q3 q4 q5 V aa Y;rw[<-V,<-Y]at af;have i1:(0:Int)<=(k:Int):=ϝ;have i2:(k:Int)<(I:Int):=ϝ;have la:A<wr.heap.size:=bLt _ _ a0;by_cases F:et<=low
    ·have bx:∀t,binOp .leq t (vI et) (vI low)=pure (.bool true):=pl.Hm true (by simpa using F);have HF:ϛ (Du (m.take (k+1)) low=λq=>if q=ek then a1 else Du (m.take k) low q):=by
      show _=_;rw[ai,TC (by rw[<-aa];exact F),<-V,<-Y]
     have bb:=Fu aq.o ((Below.refl wr.heap.size wr).alloc nR (.cells (ζ ek et a1 r1 r2 r3 em) 166));obtain⟨X1,b9,q0,O⟩:=ZC bb af.1 af.2 ϧ;have bo:ϛ (JS X1 X.heap.size (nn+1) (Du (m.take (k+1)) low)):=by
      show JS _ _ _ _;rw[HF.o];exact q0
     have b0:Δ X1 (X+1) 0 (.map (some X.heap.size)):=(cOb (w:=wr) (a:=⟨X+1,0,none⟩) ((O.block (X.heap.size+1) (by rw[World.size_alloc];omega) (λe=>by injection e with e;omega)).trans (Below.heap_alloc _ _ _ lw))).trans an;have bd:ϛ (Ϝ X X1):=⟨O.os.trans r.os,O.tape.trans r.tape,O.output.trans r.output,Nat.le_trans r.size (Nat.le_trans (Nat.le_of_lt (by rw[World.size_alloc];exact Nat.lt_succ_self _)) O.size),λg bv=>((O.block g (by rw[World.size_alloc];have:=r.size;omega) (λe=>by injection e with e;omega)).trans (Below.heap_alloc _ _ _ (by have:=r.size;omega))).trans (r.block g bv)⟩;clear B bb q0 O N V aa Y ai F af;go_wp2;go_roundw
     case rel=>exact⟨k+1,nn+1,ϝ,by go_num,ϝ,bo,b0,bd.o⟩
     case measure=>simp[intOf];omega
    ·have bx:∀t,binOp .leq t (vI et) (vI low)=pure (.bool false):=pl.Hm false (by simpa using F);have HF:ϛ (Du (m.take (k+1)) low=Du (m.take k) low):=by
      show _=_;rw[ai,Xg (by rw[<-aa];exact F)]
     clear B N V aa Y ai F af;go_wp2;go_roundw
     case rel=>exact⟨k+1,nn,ϝ,by go_num,ϝ,by rw[HF.o];exact Fu aq.o Ϩ,cLz Ϩ an,r.alloc r.size _⟩
     case measure=>simp[intOf];omega
   ·have bw:k=I:=ϝ;subst bw;have b5:¬((k:Int)<(k:Int)):=ϝ;have be:ϛ (Du (m.take k) low=Du m low):=by show _=_;rw[<-ap.o,take_length]
    have br:ϛ (CT 253 #[.agg (ν b1 m1 m2 m3 b2 n b3),.func (.func 387) #[] #[μ A,μ (X+1)]] wr λe w'=>(∃Z,e= .returned (.agg (Ω U Z))/\OB w' wr Z U)/\Ϝ wr w'):=T.o _ A (X.heap.size+1) X.heap.size nn wr be.o J a0 an aq.o;have c0:=cLz J ag;have c1:=cLz J ac;have c2:=cLz J Q;clear ag ac Q;go_wp2_with (go_at_call 253;refine br.o.mono ?_;rintro e wp ⟨⟨Z,rfl,a8⟩,al⟩;have bn:ϛ (OB wp wr Z U):=a8;have ab:Ϝ W wp:=bT J al;have d0:=cLz al c0;have d1:=cLz al c1;have d2:=cLz al c2;have f0:=ao.o _ ab 16 ϝ;have f1:=ao.o _ ab (16+1) ϝ;have f2:=ao.o _ ab (16+1+1) ϝ;clear a8 c0 c1 c2);have bp:=PD G.o hT ab 2 bn.o J.size 16 rfl;have bh:=(bg.o.trans (Aw (bT a2 ab))).trans (F6 (G.o.below ab).ty 16 (vI U.lim) (hdV Z.m.1) (vS Z.ra Z.rs.length Z.rc));exact bodyPost_end (v:=.tuple #[]) (by simp[results,results384,go_sem]) rfl ⟨rfl,_,bp,bh⟩
end jn
namespace gr
open vl pl bt
attribute [local go_sem] Oper.semAt_some
theorem Xi(w:ϙ)(x:Value)(t:TypeId)(h:x.oneCell'=true):∀j u,[x][j]? =some u->(w.alloc (.cells #[x] t)).cell? ((⟨w,0,none⟩:Addr).add j)=some u:=by
 intro j u a;rw[GA]
 match j,a with
 |0,a=>simp at a;subst a;go_simp
theorem Xj{G:Array Oper}{o:Oper}{a:Act}{K:Act->World->Prop}{Q:Exit->Act->World->Prop}{E:Prop}(p:o.guard=none)(s x:Operand)
 (r:o.op= .call {callee:=.builtin .append,args:=#[s,x],argTypes:=#[29,29]})
 (base:Nat) (v:Value) (L:List Int) (z:Int) (b:ϙ) (c:Nat) (i:L.length=c) (f:CQ b base v L) (N:c<=1000000) (J:base<=b.heap.size)
 (t:a.eval s=v) (A:a.eval x=vS (τ b) 1 1)
 (h:∀g e d,CQ d base (vS (τ g) (c+1) e) (L++[z])->(b.alloc (.cells #[vI z] 3)).grownBy d v.ownBlock->K (a.put o.dst (vS (τ g) (c+1) e)) d):
 if Region.wanted o (yielded G a.tmps)=true then Oper.wp Tryz.prog o a (ξ b #[vI z] 3) K Q else E:=by
 obtain⟨F,q,B,C,D⟩:=info_parts Tryz.info3;unfold CQ at f;rw[i]at f;exact step_append_lies _ p s x 29 r base 3 F (vI 0) 1 8 underlying29 q B C D rfl Ϟ v c (L.map IW) t
  (f.alloc _) ⟨b,0,none⟩ 1 1 [vI z] A rfl (Xi _ _ _ rfl) (by intro u j;simp at j;rcases j with rfl;rfl) Ϟ ϧ ϝ Ϣ (b.heap.size+1) ϟ (λg e d m n H I=>h g e d (by
   unfold CQ;rw[map_append,lAp,i];exact m) n)
theorem Xk{base:Nat}{c wr a:ϙ}{v u:Value}{r:List Int}{o:Obj}{C:Nat}(f:Below C c wr)(j:C<base)(m:base<=wr.heap.size)(i:CQ wr base v r)(e:(wr.alloc o).grownBy a v.ownBlock)(d:Δ wr C 0 u)(g:Ξ wr C 0):
 Below C c a/\Δ a C 0 u/\Ξ a C 0/\base<=a.heap.size:=by
 have n:C<wr.heap.size:=bLt _ _ d;have b:Below (C+1) wr a:=(bR.alloc ϝ o).grown e Ϣ (λk h=>by have:=(World.ownsRow.lt i k h).1;omega);refine⟨f.trans (b.mono ϝ),?_,?_,?_⟩
 ·rw[b.cell (p:=⟨C,0,none⟩) ϟ];exact d
 ·rw[b.frozen (p:=⟨C,0,none⟩) ϟ];exact g
 ·have:=e.size;simp at this;omega
theorem EI(p:Pln):(BF p).length=p.group.length:=by unfold BF;rw[lMp]
theorem PV(p:Pln)(k:Nat)(h:k<p.group.length):(BF p).take (k+1)=(BF p).take k++[(Bb p).getD (p.group.getD k 0).toNat 0]:=by
 rw[take_succ_eq_append_getElem (by rw[EI];exact h)];unfold BF;simp[gDe,h]
theorem Cz(p:Pln)(x:PA)(a:Ϛ)(cap:Nat)(xs:List GX)(d:List Grp)(w:ϙ)(X:planAt w p x)(h0:Ag p=0)(ak:gsAt w a xs d)(a3:∀g∈d,wfG g)(aj:d.length<=χ)
 (n1:0<p.left.length) (n2:0<p.right.length) (m1:p.left.length<=400) (m2:p.right.length<=400) (mg:p.group.length<=400) (ma:p.aggs.length<=400):
 η 172 #[Ap p x,vS a d.length cap] w (θ w (.bool (allB d.length (Ji p d)))):=by
 have aw:(Bb p).length<=800:=by unfold Bb;rw[lAp];omega
 have B:ϛ (∀c,Ϝ w c->CT 133 #[Ap p x] c λe w'=>(∃W cap,e= .returned (vS W (Bb p).length cap)/\Ay w' W (Bb p))/\Ϝ c w'):=λc hb=>
  (Cy p x c (Ae X hb) n1 n2 m1 m2).mono (λe w' ⟨⟨W,cp,h1,h2⟩,h3⟩=>⟨⟨W,cp,h1,(Il h2).1⟩,h3⟩)
 have m:ϛ (∀O G L C Y oc q v c,Ϝ w c->Δ c O 0 (vS Y (BF p).length oc)->Δ c G 0 (vS a d.length cap)->Δ c L 12 (vS x.a p.aggs.length x.ac)->Δ c C 0 (vS q (Bb p).length v)->Ay c Y (BF p)->Ay c q (Bb p)->
  η 238 #[vS a d.length cap,.func (.func 239) #[] #[μ O,μ G,μ L,μ C]] c (θ c (.bool (allB d.length (Ji p d))))):=λO G L C Y oc q v c r hO hG hP hC ho hc=>
  Qb 239 (enters_of func239 Ϡ rfl) #[μ O,μ G,μ L,μ C] (Ji p d) a cap xs d c aj (ak.below r) (λi w2 hi f=>by
   have ar:=bT r f;exact WJ p x i O G L C Y a q oc cap v xs d w2 (cLz f hO) (cLz f hG) (cLz f hP) (cLz f hC) (ak.below ar) a3 hi aj (Ao ho f) (Ao hc f) (CP X.a ar) (by rw[EI];omega) ϝ ϝ (λj hj=>by
    have hm:p.aggs.getD j (0,0)∈p.aggs:=by rw[gDe,gEe hj];exact getElem_mem hj
    exact AbX h0 hm))
 have J:ϛ (∀k,k<p.group.length->∃b o,x.g=some ⟨b,o,none⟩/\Δ w b (o+k) (vI (p.group.getD k 0))/\0<=p.group.getD k 0/\(p.group.getD k 0).toNat<(Bb p).length):=λk s=>by
  obtain⟨b,o,e,y⟩:=X.g k s;have hm:p.group.getD k 0∈p.group:=by rw[gDe,gEe s];exact getElem_mem s
  have:=ZV h0 _ hm;exact⟨b,o,e,y,this.1,ϝ⟩
 have K:ϛ (∀k,k<p.group.length->(BF p).take (k+1)=(BF p).take k++[(Bb p).getD (p.group.getD k 0).toNat 0]):=λk s=>PV p k s;have U:ϛ (∀k,k<=p.group.length->((BF p).take k).length=k):=λk s=>by show _=_;rw[length_take,EI];omega
 have T:ϛ ((BF p).take p.group.length=BF p):=by show _=_;rw[<-EI,take_length]
 have Q:ϛ ((BF p).length=p.group.length):=EI p;obtain⟨R,hR⟩:=nM (allB d.length (Ji p d));rw[hR]at m⊢;obtain⟨u,aq⟩:=nM (BF p);obtain⟨CO,ap⟩:=nM (Bb p);rw[aq]at m K U T Q;rw[ap]at B m J K aw;obtain⟨gn,ay⟩:=nM d.length;rw[ay]at m⊢;clear hR aq ap ay X h0 ak a3 aj n1 n2 m1 m2;obtain⟨b1,cb,low,b0,cg,b3,left,right,br,bs,bz,ae,bh⟩:=p;obtain⟨la,lc,rr,rc,lk,b4,rk,cd,ga,gc,ag,ac⟩:=x;unfold Ap at B⊢;dsimp only at B m J K U T Q mg ma⊢;obtain⟨n6,h6⟩:∃n,left.length=n:=⟨_,rfl⟩;obtain⟨n7,h7⟩:∃n,right.length=n:=⟨_,rfl⟩;obtain⟨n8,h8⟩:∃n,br.length=n:=⟨_,rfl⟩;obtain⟨n9,h⟩:∃n,bs.length=n:=⟨_,rfl⟩;obtain⟨A,an⟩:∃n,ae.length=n:=⟨_,rfl⟩;obtain⟨a4,ao⟩:∃n,bh.length=n:=⟨_,rfl⟩;simp only[h6,h7,h8,h,an,ao]at B m J K U T Q mg ma⊢;clear h6 h7 h8 h an ao;obtain⟨cn,ai⟩:=nM CO.length;have bb:=hqz ai;rw[ai]at B m J aw;rw[Q.o]at m;clear ai;go_enter func172,ntmps172;go_wp2_with fail;generalize N:((World.alloc w _).alloc _)=V;have af:Ϝ w V:=by rw[<-N];exact Ϩ.alloc ϟ _
 have a5:Δ V w 11 (vS ga A gc):=by subst N;go_simp
 have a6:Δ V w 12 (vS ag a4 ac):=by subst N;go_simp
 have vG:Δ V (w+1) 0 (vS a gn cap):=by subst N;go_simp
 clear N;refine(B.o _ af).mono ?_;rintro e c ⟨⟨q,v,rfl,av⟩,r⟩;have ba:=hqz av;have bn:Ϝ w c:=bT af r;have a7:=cLz r a5;have a8:=cLz r a6;have wG:=cLz r vG;have b9:w.heap.size+1<c.heap.size:=bLt _ _ wG;have b7:w.heap.size<c.heap.size:=ϝ;clear av r a5 a6 vG af;go_wp2;generalize E:((World.alloc c _).alloc _)=D;have f:Ϝ c D:=by rw[<-E];exact Ϩ.alloc ϟ _
 have a2:D.heap.size=c.heap.size+1+1:=by rw[<-E];simp
 have b5:Δ D c 0 (vS q cn v):=by subst E;go_simp
 have b6:Δ D (c+1) 0 (vS none 0 0):=by subst E;go_simp
 have f6:Ξ D (c+1) 0:=by subst E;go_simp
 have bu:=cLz f a7;have bv:=cLz f a8;have bw:=cLz f wG;have be:=hqz a2;have a9:=hqz f;clear E a7 a8 wG a2 f
 go_loopw [14] (λt wr=> ∃k H P,k<=A/\t=vI (k:Nat)/\Below (c.heap.size+1) D wr/\Δ wr (c+1) 0 (vS H k P)/\Ξ wr (c+1) 0/\c.heap.size+1+1<=wr.heap.size/\CQ wr (c.heap.size+1+1) (vS H k P) (u.take k)) (λt _=>A - (intOf t).toNat)
 case atStart=>exact⟨0,none,0,Nat.zero_le _,rfl,bR,b6,f6,by rw[be.o];exact Nat.le_refl _,World.ownsRow_nil _ _ _ _⟩
 case round=>
  obtain⟨k,H,P,s,rfl,F,cv,cf,az,a1⟩:=hrel;have aa:=hqz a1;have am:=hqz az;have lB:c.heap.size+1<wr.heap.size:=bLt _ _ cv;have au:Ϝ c wr:=a9.o.trans (F.mono ϝ);have ah:Ϝ w wr:=bT bn au;have c5:Δ wr c 0 (vS q cn v):=by rw[F.cell (p:=⟨c,0,none⟩) ϟ];exact b5
  have bx:Δ wr w 11 (vS ga A gc):=by rw[F.cell (p:=⟨w,11,none⟩) Ϣ];exact bu
  have bi:Δ wr w 12 (vS ag a4 ac):=by rw[F.cell (p:=⟨w,12,none⟩) Ϣ];exact bv
  have cG:Δ wr (w+1) 0 (vS a gn cap):=by rw[F.cell (p:=⟨w+1,0,none⟩) Ϣ];exact bw
  have al:ϛ (Ay wr q CO):=Ao ba.o au;clear a1 az;by_cases a0:k<A
  ·obtain⟨b,o,e,x1,x2,x3⟩:=J.o k a0;have S:ϛ (u.take (k+1)=u.take k++[CO.getD (ae.getD k 0).toNat 0]):=K.o k a0;have bc:ϛ ((u.take k).length=k):=U.o k s;obtain⟨z,hz⟩:=nM (ae.getD k 0);rw[hz]at x1 x2 x3 S;obtain⟨Z,rfl⟩:=Int.eq_ofNat_of_zero_le x2;simp only[Int.toNat_natCast]at x3 S;obtain⟨b8,o8,e8,y8⟩:=al.o Z (by rw[bb.o];omega);obtain⟨bj,ax⟩:=nM (CO.getD Z 0);rw[ax]at y8 S;subst e;subst e8;have q1:=cLz ah x1;have i1:(0:Int)<=(k:Int):=ϝ;have i2:(k:Int)<(A:Int):=ϝ;have j1:(0:Int)<=(Z:Int):=ϝ;have j2:(Z:Int)<(cn:Int):=ϝ;have b2:b8<wr.heap.size:=bLt _ _ y8;clear hz ax x1 x2;go_wp2
   go_region_law (first
    |(refine Xj (by rfl) (.tmp 18) (.tmp 23) (by rfl) (c.heap.size+1+1) (vS H k P) (u.take k) bj wr.drew k bc.o (World.ownsRow.drew aa.o) ϝ (by exact am.o) (by rfl) (by rfl) ?_;intro g9 ab w2 bq bo;obtain⟨p1,p2,p3,p4⟩:=Xk F.drew ϝ am.o (World.ownsRow.drew aa.o) bo cv cf))
   all_goals
    have bk:CQ (φ w2 (c+1) 0 (vS (τ g9) (k+1) ab)) (c.heap.size+1+1) (vS (τ g9) (k+1) ab) (u.take (k+1)):=by
     rw[S.o];exact ownsRow_setCell_below bq (a:=⟨c+1,0,none⟩) ϟ _
    go_wp2;go_roundw
    case rel=>exact⟨k+1,some ⟨g9,0,none⟩,ab,ϝ,by go_num,p1.setCell ϟ _,World.cell?_setCell_same _ _ _ p2,by simpa using p3,by simpa using p4,bk⟩
    case measure=>simp[intOf];omega
  ·have bp:k=A:=ϝ;subst bp;have bd:ϛ (Ay wr H u):=by have:=(Il aa.o).1;rw[T.o]at this;exact this
   have bg:ϛ (∀I,Ϝ wr I->CT 238 #[vS a gn cap,.func (.func 239) #[] #[μ (c+1),μ (w+1),μ w,μ c]] I (θ I (.bool R))):=λI h=>m.o _ _ _ _ H P q v I (bT ah h) (cLz h cv) (cLz h cG) (cLz h bi) (cLz h c5) (Ao bd.o h) (Ao al.o h);go_wp2_with (go_at_call 238;refine(bg.o _ bR).mono ?_;rintro e I ⟨rfl,bm⟩);go_ret;exact⟨rfl,bT ah bm⟩
theorem AdK{p:Pln}(h:Ag p=0):(0<p.left.length/\p.left.length<=4)/\0<p.right.length/\p.right.length<=4:=by
 have a:=(Bf h).2.2.1;exact⟨⟨a.1.1.1,a.1.1.2⟩,a.1.2.1.1,a.1.2.1.2⟩
theorem AH(p:Pln)(x:PA)(a:Ϛ)(cap:Nat)(xs:List GX)(f:List Grp)(w:ϙ)(Q:wfPlan p)(z:planAt w p x)(P:gsAt w a xs f)(S:∀g∈f,wfG g)(N:f.length<=χ):
 η 103 #[Ap p x,vS a f.length cap] w (θ w (vI (FC p f))):=by
 have q:=hIz (λ(d:ϙ) (r:Ϝ w d)=>C0 p x d Q (Ae z r));have j:ϛ (∀d,Ag p=0->p.grouped=true->Ϝ w d->CT 172 #[Ap p x,vS a f.length cap] d (θ d (.bool (allB f.length (Ji p f))))):=λd m hg r=>by
  have L:=AdK m;have ar:=Li m hg;exact Cz p x a cap xs f d (Ae z r) m (P.below r) S N L.1.1 L.2.1 ϝ ϝ ϝ ϝ
 obtain⟨R,t⟩:=nM (FC p f);have h:=hqz t;unfold FC at h;rw[t];clear t Q z P S;obtain⟨AB,J⟩:=nM (allB f.length (Ji p f));rw[J]at j h;obtain⟨E,K⟩:=nM (Ag p);rw[K]at q j h;obtain⟨s,O⟩:=nM f.length;rw[O]at j h N⊢;clear J K O;obtain⟨af,ak,low,ae,ap,ah,left,right,aj,ao,B,ab,aa⟩:=p;obtain⟨la,lc,rr,rc,lk,ai,rk,an,ga,gc,ag,ac⟩:=x;unfold Ap at q j⊢;dsimp only at q j h⊢;obtain⟨n6,F⟩:∃n,left.length=n:=⟨_,rfl⟩;obtain⟨n7,G⟩:∃n,right.length=n:=⟨_,rfl⟩;obtain⟨n8,H⟩:∃n,aj.length=n:=⟨_,rfl⟩;obtain⟨n9,I⟩:∃n,ao.length=n:=⟨_,rfl⟩;obtain⟨al,C⟩:∃n,ab.length=n:=⟨_,rfl⟩;obtain⟨am,D⟩:∃n,aa.length=n:=⟨_,rfl⟩;simp only[F,G,H,I,C,D]at q j⊢;clear F G H I C D;go_enter func103,ntmps103;go_wp2_with fail;generalize b:(World.alloc w _)=V;have u:Ϝ w V:=by rw[<-b];exact Ϩ
 have T:Δ V w 0 (vI af):=by subst b;go_simp
 have U:Δ V w 1 (vI ak):=by subst b;go_simp
 have Z:Δ V w 2 (vI low):=by subst b;go_simp
 have v3:Δ V w 3 (vI ae):=by subst b;go_simp
 have v4:Δ V w 4 (vI ap):=by subst b;go_simp
 have v5:Δ V w 5 (vI ah):=by subst b;go_simp
 have v6:Δ V w 6 (vS la n6 lc):=by subst b;go_simp
 have v7:Δ V w 7 (vS rr n7 rc):=by subst b;go_simp
 have v8:Δ V w 8 (vS lk n8 ai):=by subst b;go_simp
 have v9:Δ V w 9 (vS rk n9 an):=by subst b;go_simp
 have W:Δ V w 10 (.bool B):=by subst b;go_simp
 have X:Δ V w 11 (vS ga al gc):=by subst b;go_simp
 have Y:Δ V w 12 (vS ag am ac):=by subst b;go_simp
 clear b;refine(q.o _ u).mono ?_;rintro e d ⟨rfl,c⟩;have o:Ϝ w d:=bT u c;replace T:=cLz c T;replace U:=cLz c U;replace Z:=cLz c Z;replace v3:=cLz c v3;replace v4:=cLz c v4;replace v5:=cLz c v5;replace v6:=cLz c v6;replace v7:=cLz c v7;replace v8:=cLz c v8;replace v9:=cLz c v9;replace W:=cLz c W;replace X:=cLz c X;replace Y:=cLz c Y;clear c u q;by_cases m:E=0
 ·subst m
  cases B with
  |false=>
   have i:ϛ (1=R):=by show _=_;rw[<-h.o];simp
   go_wp2;go_ret;exact⟨Aj i.o,o⟩
  |true=>
   by_cases h1:s>4096
   ·have i:ϛ (2=R):=by show _=_;rw[<-h.o];simp;omega
    have ad:(s:Int)>4096:=ϝ;go_wp2;go_ret;exact⟨Aj i.o,o⟩
   ·have ad:¬((s:Int)>4096):=ϝ;have A:ϛ (∀d,Ϝ w d->_):=λd r=>j.o d rfl rfl r;clear j
    cases AB with
    |true=>
     have i:ϛ (0=R):=by show _=_;rw[<-h.o];simp;omega
     go_wp2_with (go_at_call 172;refine(A.o _ o).mono ?_;rintro e w2 ⟨rfl,v⟩);go_ret;exact⟨Aj i.o,bT o v⟩
    |false=>
     have i:ϛ (1=R):=by show _=_;rw[<-h.o];simp;omega
     go_wp2_with (go_at_call 172;refine(A.o _ o).mono ?_;rintro e w2 ⟨rfl,v⟩);go_ret;exact⟨Aj i.o,bT o v⟩
 ·have aq:(E !=0)=true:=by simpa using m
  have i:ϛ (E=R):=by show _=_;rw[<-h.o,if_pos m]
  go_wp2;go_ret;exact⟨Aj i.o,o⟩
end gr
end Go.Proofs.YtfkihidbnfkbaaaGreatDoor
