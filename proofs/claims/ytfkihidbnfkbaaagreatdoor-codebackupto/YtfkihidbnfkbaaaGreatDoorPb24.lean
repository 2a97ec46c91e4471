import Derived.Test.YtfkihidbnfkbaaaGreatDoorPb22
import Derived.Test.YtfkihidbnfkbaaaGreatDoorPb23
import Derived.Test.YtfkihidbnfkbaaaGreatDoorPb19
set_option linter.all false
set_option maxHeartbeats 8000000
set_option maxRecDepth 100000
open Go.ChangeShapes Go.WideShapes Go.ChangeAt Go.RowKit Go.Shelf Go.Maps Go.Joins Go.Deep List
open Inhabited renaming default->ϰ
namespace Go.Proofs.YtfkihidbnfkbaaaGreatDoor
open Go.Proofs.Tryz
namespace jn
open vl bf
attribute [local go_sem] Oper.semAt_some
theorem Xy{l:List Ent}{k:Nat}(h:k<l.length):(l.take (k+1)).map (·.seq)=(l.take k).map (·.seq)++[(l.getD k ϰ).seq]:=Kh h
theorem Xz(l:List Int)(s:Int):decide ((0:Int)<((l.count s:Nat):Int))=decide (s∈l):=by
 by_cases h:s∈l
 ·have:=count_pos_iff.2 h;rw[decide_eq_true h,decide_eq_true ϝ]
 ·have:l.count s=0:=count_eq_zero.2 h;rw[decide_eq_false h,this];rfl
theorem Ns(b:Nat)(T:TypeId)(p:pl.Pln)(x:pl.PA)(s:Jn)(y:JX)(t:Value)(L:List CO)(side:Int)(hh:Hdr)(R:List EM)(l:List Ent)(A w:ϙ)(h:JSt A w b T p x s y t L)(hT:calmC T)(ok:okB (Ak s side))(Z:∀z∈Ac (Ak s side),pl.i64 z.seq)(ab:hh.2.1=l.length)(bh:Cm w hh.1 R)(b9:R.length=l.length)(cg:∀k,k<l.length->(R.getD k ϰ).seq=(l.getD k ϰ).seq)(hl:l.length<=1000000)(hq:∀z∈l,pl.i64 z.seq):
 η 358 #[μ b,vI side,hdV hh] w λe m=>e= .returned (.tuple #[])/\∃y',JSt A m b T p x (A7 s side (CJ (l.map (·.seq)) (Ak s side))) y' t L/\Ki w m:=by
 have KB:ϛ (∀w1,CT 252 #[.pointer (some ⟨b,13,none⟩),vI side] w1 λe m=>e= .returned (.pointer (some ⟨b,13+Au side,none⟩))/\m=w1):=λw1=>FJ b 13 side w1;have HJ:=hqz h;have b2:ϛ (okB (Ak s side)/\∀z∈Ac (Ak s side),pl.i64 z.seq):=⟨ok,Z⟩;have HQ:ϛ (∀k,k<l.length->pl.i64 (l.getD k ϰ).seq):=λk hk=>hq _ (Bj hk);obtain⟨U,M,h3⟩:=hh;dsimp only at ab bh;have HE:ϛ (Cm w U R/\R.length=l.length/\∀k,k<l.length->(R.getD k ϰ).seq=(l.getD k ϰ).seq):=⟨bh,b9,cg⟩;obtain⟨ln,bq⟩:=nM l.length;have b1:=hqz bq;rw[bq]at hl ab;subst ab;clear h ok Z bh b9 cg hq bq;unfold hdV;dsimp only;have dm:=@run_makeMap Tryz.prog;refine(callsIn_wide (n:=0)).1 ?_;refine callsIn_of_wp_marks func358 rfl trivial ?_ rfl;simp only[ntmps358,size_toArray,length_cons,length_nil,Nat.reduceAdd,Nat.reduceSub,Array.replicate_succ,Array.replicate_zero,push_toArray,append_toArray,nil_append,cons_append]
 gi_wp2
 gi_loopw [14] (λi wr=> ∃k:Nat,k<=M/\i=vI k/\DR wr w.heap.size k ((l.take k).map (·.seq))/\Δ wr (w+1) 0 (.map (some w.heap.size))/\ϛ (Ai wr (w+1) 298)/\Ϝ w wr) (λi _=>M - (intOf i).toNat)
 case atStart=>exact⟨0,Nat.zero_le _,rfl,Ch (Rt w) Ϩ,ϡ,(by have:=World.alloc_heap_new (w.alloc (.map #[] 0)) (.cells #[.map (some w.heap.size)] 298);rw[World.size_alloc]at this;exact⟨_,_,this⟩),Ϩ.alloc ϟ _⟩
 case round=>
  obtain⟨k,hk,rfl,ai,aq,ba,J⟩:=hrel;by_cases db:k<M
  ·have a0:k<l.length:=by rw[b1.o];exact db
   obtain⟨gb,dr,ea,x1,x2,x3,x4,x5⟩:=HE.o.1 k (by rw[HE.o.2.1];exact a0);subst ea;have q1:=cLz J x1;have q2:=cLz J x2;have q3:=cLz J x3;have q4:=cLz J x4;have q5:=cLz J x5;clear x1 x2 x3 x4 x5;have bv:(R.getD k ϰ).seq=(l.getD k ϰ).seq:=HE.o.2.2 k a0;have ar:=HQ.o k a0;rw[<-bv]at ar;have bd:ϛ ((l.take (k+1)).map (·.seq)=(l.take k).map (·.seq)++[(R.getD k ϰ).seq]):=by
    show _=_;rw[bv];exact Xy a0
   obtain⟨⟨ek,et,F,⟨r1,r2,r3⟩,em⟩,hz⟩:∃z,R.getD k ϰ=z:=⟨_,rfl⟩;rw[hz]at q1 q2 q3 q4 q5 ar bd;unfold hdV at q4;dsimp only at q1 q2 q3 q4 q5 ar bd;have i1:(0:Int)<=(k:Int):=ϝ;have i2:(k:Int)<(M:Int):=ϝ;have bi:=Ch ai ((Below.refl wr.heap.size wr).alloc nR (.cells (ζ ek et F r1 r2 r3 em) 166));have da:=Ex bi ar;have b8:=count_le_length (a:=F) (l:=(l.take k).map (·.seq));rw[lMp,length_take]at b8;obtain⟨X1,de,q0,N⟩:=MQ bi ar ϧ (by rw[lMp,length_take];omega);have dg:ϛ (∃o:Obj,wr.heap[w.heap.size]? =some o/\o.isCells=false):=JQ ai;have cy:ϛ (DR X1 w.heap.size (k+1) ((l.take (k+1)).map (·.seq))):=by
    show DR _ _ _ _;rw[bd.o];exact q0
   obtain⟨c,hc⟩:=nM (((l.take k).map (·.seq)).count F);rw[hc]at da de b8;have dq:IntKind.i64.wrap ((c:Int)+1)=(c:Int)+1:=by rw[ch.Co];omega
   have lw:w.heap.size+1<wr.heap.size:=bLt _ _ aq;have a1:Δ X1 (w+1) 0 (.map (some w.heap.size)):=(cOb (w:=wr) (a:=⟨w+1,0,none⟩) ((N.block (w.heap.size+1) (by rw[World.size_alloc];omega) (λe=>by injection e with e;omega)).trans (Below.heap_alloc _ _ _ lw))).trans aq;have cv:ϛ (Ai X1 (w+1) 298):=A0 ba.o ((N.block (w.heap.size+1) (by rw[World.size_alloc];omega) (λe=>by injection e with e;omega)).trans (Below.heap_alloc _ _ _ lw));have cm:ϛ (Ϝ w X1):=⟨N.os.trans J.os,N.tape.trans J.tape,N.output.trans J.output,Nat.le_trans J.size (Nat.le_trans (Nat.le_of_lt (by rw[World.size_alloc];exact Nat.lt_succ_self _)) N.size),λg c5=>((N.block g (by rw[World.size_alloc];have:=J.size;omega) (λe=>by injection e with e;omega)).trans (Below.heap_alloc _ _ _ (by have:=J.size;omega))).trans (J.block g c5)⟩;clear hz ai bi q0 hc bv N
   gi_wp2
   exact⟨⟨k+1,ϝ,by go_num,cy.o,a1,cv,cm.o⟩,by simp[intOf];omega⟩
  ·have cc:k=M:=ϝ;have ca:(l.take k).map (·.seq)=l.map (·.seq):=by rw[cc,<-b1.o,take_length]
   rw[ca]at ai;have bw:=hqz ai;have az:¬((k:Int)<(M:Int)):=ϝ;have ag:ϛ (JSt A wr b T p x s y t L):=HJ.o.below J;obtain⟨ak,au,al⟩:=Ff ag.o.box.join side;have cf:OB wr A (B7 y side) (Ak s side):=by
    unfold B7 Ak;split
    ·exact ag.o.r
    ·exact ag.o.l
   have av:=hqz cf;have dl:w.heap.size+1<wr.heap.size:=bLt _ _ aq;obtain⟨kk,cb⟩:=nM (13+Au side);rw[cb]at KB ak au al;obtain⟨aj,cd⟩:=nM ((Ak s side).lim);rw[cd]at ak;obtain⟨ck,bg⟩:=nM (B7 y side);rw[bg]at au al av;obtain⟨ad,ae,⟨⟨m1,m2,m3⟩,ml⟩,rs⟩:=ck;dsimp only at au al;obtain⟨n',bs⟩:=nM rs.length;have HN:=hqz bs;rw[bs]at al;have co:=hqz bg;clear ai cf bs cb cd bg cc ca hk;have lb:b<wr.heap.size:=ag.o.box.lt
   gi_wp2_with (refine⟨trivial,rfl,?_⟩;first
    |(gi_at_call 252;refine(callsIn_wide.2 (KB.o _)).mono ?_;rintro e m ⟨rfl,rfl⟩)
    |(gi_at_call 233;refine(callsIn_wide.2 (Iq _ _ _ rfl rfl rfl _)).mono ?_;rintro e m ⟨rfl,rfl⟩))
   have V1:Δ (ξ m (ν aj m1 m2 m3 ad n' ae) 36) m 1 (vS m1 m2 m3):=ϡ;have V2:Δ (ξ m (ν aj m1 m2 m3 ad n' ae) 36) m 2 (vS ad n' ae):=ϡ;have V8:Ϝ m (ξ m (ν aj m1 m2 m3 ad n' ae) 36):=Ϩ;have T2:Ai (ξ m (ν aj m1 m2 m3 ad n' ae) 36) m.heap.size 36:=⟨_,_,World.alloc_heap_new m _⟩;have VM:=cLz V8 aq;have TM:=Ad ba.o V8;generalize (m.alloc (.cells (ν aj m1 m2 m3 ad n' ae) 36))=V at *;have a9:ϛ (JSt A V b T p x s y t L):=ag.o.below V8;have cl:ϛ (Ϝ w V):=bT J V8;have a5:ϛ (DR V w.heap.size k (l.map (·.seq))):=Ch bw.o V8;have bb:ϛ (w.heap.size<V.heap.size/\A.heap.size<=V.heap.size):=⟨UY a5.o,a9.o.bl.size⟩;have bc:ϛ (OB V A ⟨ad,ae,((m1,m2,m3),ml),rs⟩ (Ak s side)):=av.o.below V8;obtain⟨P,hP⟩:∃z:List Part,(((m1,m2,m3),ml)::rs)=z:=⟨_,rfl⟩;have cw:=hqz hP;obtain⟨G,ax⟩:∃z:List Hdr,P.map (·.1)=z:=⟨_,rfl⟩;have bx:=hqz ax;have bn:=Je av.o.at V8 m.heap.size (So G) V1 (by rw[HN.o];exact V2) (GU T2 Ϟ) (λa h0 ha=>GU (Av bc.o.hds (by dsimp only at ha⊢;rw[ha];rfl)) Ϟ);obtain⟨C,ah⟩:=nM (partsB (Ak s side));have cx:=hqz ah;have am:ϛ (C.length=P.length):=by show _=_;rw[<-ah,<-hP];have:=bc.o.rlen;dsimp only at this;simp[partsB,this]
   have c0:ϛ (∀i,i<C.length->(C.getD i []).length<=χ):=λi I=>by
    have:=(b2.o.1.small).1 (C.getD i []) (by rw[ah];exact Bj I);omega
   have c1:ϛ (∀i j,i<C.length->j<(C.getD i []).length->pl.i64 ((C.getD i []).getD j ϰ).seq):=λi j I hj=>b2.o.2 _ (by unfold Ac;rw[ah];exact mem_flatten.2 ⟨C.getD i [],Bj I,Bj hj⟩);obtain⟨E,bu⟩:=nM (l.map (·.seq));have cz:=hqz bu;rw[bu]at a5;have c2:ϛ (NSt A V V A.heap.size G (C4 (metE E) C 0)):=by
    show NSt _ _ _ _ _ _;rw[<-ah,<-ax,<-hP];exact XC bc.o a9.o.bl
   dsimp only at bn;rw[hP]at bn;have aw:G.length=P.length:=by rw[<-ax,lMp]
   clear ah hP ax bu V1 V2 T2 bw ag av aq ba KB ak au al;refine Db (gf:=268) (lb:=#[.pointer (some ⟨m,0,none⟩)]) rfl (enters_of func268 Ϡ rfl) bn bR (λx hx=>by obtain⟨p,_,rfl⟩:=mem_map.1 hx;rfl) (λh k=>Aq.trans h k) (λW l o o' _ h ho=>Aq.put W l o o' h ho)
    (λi X=>NSt A V X A.heap.size G (C4 (metE E) C i)/\DR X w.heap.size k E) (λc X=>False)
    (λi X X' cj Z hg hr=>⟨Z.1.row (by have:=bb.o.2;omega) hg hr,Lc Z.2 hg (λe=>by have:=(hr _ e.symm).1;have:=bb.o.1;omega)⟩)
    (λc X X' cj Z hg hr=>Z)
    ⟨c2.o,a5.o⟩
    (λi a' X=>a'={tmps:=#[.pointer (some ⟨b,0,none⟩),vI side,vS U M h3,undef,undef,undef,.pointer (some ⟨w+1,0,none⟩),undef,u8,hdV (P.getD i ϰ).1,undef,.map (some w.heap.size),vS U M h3,vI M,vI k,.bool false,u16,u17,u18,u19,u20,u21,u22,u23,.pointer (some ⟨b,0,none⟩),.pointer (some ⟨b,0,none⟩),.pointer (some ⟨b,13,none⟩),vI side,.pointer (some ⟨b,kk,none⟩),.pointer (some ⟨b,kk,none⟩),.agg #[vI aj,vS m1 m2 m3,vS ad n' ae],.func (.func 268) #[] #[.pointer (some ⟨m,0,none⟩)],hdV (P.getD i ϰ).1,undef,undef,undef,undef,undef,undef,undef,undef,undef,undef,undef,undef,undef,undef,undef,undef,undef,undef,undef,undef,undef,undef,undef,undef,undef],defers:=[]})
    (λi a' u X X' cj Z hg hr=>Z) ?assign ?body ?done ?stop
   case assign=>
    intro l' k1 x1 X K hx I r;obtain⟨hk,a3⟩:=List.getElem?_eq_some_iff.1 hx;rw[lMp]at hk;rw[getElem_map]at a3;subst a3;have hd:P.getD k1 ϰ=P[k1]:=by rw[gDe,gEe hk];rfl
    have ap:=λW' U M h3=>r _ W' U M h3 rfl;rw[hd]at ap;clear r hd hx;obtain⟨⟨⟨z1,z2,z3⟩,zl⟩,hz⟩:∃z,P[k1]=z:=⟨_,rfl⟩;rw[hz]at ap⊢;unfold hdV at ap⊢;dsimp only at ap⊢
    gi_wp2
    exact ap X (KeepsFrom.refl _ _) (Aq.refl _ _) I
   case body=>
    intro l' i x1 a' X hx dj dp ao b6;obtain⟨ao,b7⟩:=ao;obtain⟨I,a3⟩:=List.getElem?_eq_some_iff.1 hx;rw[lMp]at I;have hd:P.getD i ϰ=P[i]:=by rw[gDe,gEe I];rfl
    have an:G.getD i hd0=(P[i]).1:=by rw[<-bx.o,gDe,getElem?_map,gEe I];rfl
    rw[hd]at b6;subst b6;have ab:=ao.hlen (by rw[aw];exact I) (by rw[am.o,aw]);have dd:=c0.o i (by rw[am.o];exact I);clear hx a3 hd;obtain⟨⟨⟨z1,z2,z3⟩,zl⟩,hz⟩:∃z,P[i]=z:=⟨_,rfl⟩;rw[hz]at an⊢;rw[an]at ab;dsimp only at an ab⊢;obtain⟨q,hq⟩:∃q,(C.getD i []).length=q:=⟨_,rfl⟩;have b3:=hqz hq;rw[hq]at ab dd;subst ab;have a6:=hqz an;have a7:ϛ (i<G.length):=by show _<_;rw[aw];exact I
    have a8:ϛ (i<C.length):=by show _<_;rw[am.o];exact I
    have bz:ϛ (C.length=G.length):=by show _=_;rw[am.o,aw]
    have cr:=hqz ao;have ak:=hqz b7;unfold hdV;dsimp only;clear hz hq an ao I b7
    gi_wp2
    gi_loopw [35] (λt wr=> ∃j:Nat,j<=z2/\t=vI j/\NSt A V wr A.heap.size G (doneD (metE E) C i j)/\DR wr w.heap.size k E/\Aq (So G) X wr/\KeepsFrom V.heap.size X wr) (λt _=>z2 - (intOf t).toNat)
    case atStart=>exact⟨0,Nat.zero_le _,rfl,by rw[TY a8.o];exact cr.o,ak.o,Aq.refl _ _,KeepsFrom.refl _ _⟩
    case round=>
     obtain⟨j,hj,rfl,ac,af,bo,az⟩:=hrel;have ct:=hqz ac;have c6:=ac.ko.cell (GU TM Ϟ) VM;by_cases c9:j<z2
     ·have ay:j<(C.getD i []).length:=by rw[b3.o];exact c9
      obtain⟨g,e,hg,x3,x5,x6,bm,bk⟩:=ac.read a7.o bz.o ay;rw[a6.o]at hg;injection hg with N c4
      clear c4;have HG:ϛ ((G.getD i hd0).1=some ⟨g,0,none⟩):=by show _=_;rw[a6.o];exact N
      have a2:=c1.o i j a8.o ay;rw[bm]at a2;have bp:=Ex af a2;have aa:ϛ (∀Y,Ϝ wr Y->NSt A V (φ Y g (j * 5+4) (.bool (e.met||decide (e.seq∈E)))) A.heap.size G (doneD (metE E) C i (j+1))/\Aq (So G) Y (φ Y g (j * 5+4) (.bool (e.met||decide (e.seq∈E))))):=λY O=>(ct.o.below O).put nR a7.o bz.o ay HG.o (by rw[bk];exact cLz O x5) (by rw[bk,bm]);have be:ϛ (Ai wr g 166):=by
       obtain⟨dh,ho⟩:=ac.op;have dc:=ho.oe i a7.o;refine Av dc.own ?_;rw[a6.o,N];rfl
      have a4:ϛ (∀Y v,Ϝ wr Y->DR (φ Y g (j * 5+4) v) w.heap.size k E):=λY v O=>OD (Ch af O) (heap_setCell_other _ _ _ _ (λQ=>by
       dsimp only at Q;obtain⟨o,U,M⟩:=JQ af;obtain⟨c,f,h3⟩:=be.o;rw[Q,h3]at U
       cases U
       cases M))
      have c3:=N.symm;subst c3;obtain⟨ek,et,F,⟨r1,r2,r3⟩,em⟩:=e;dsimp only at bp aa x3 x5 x6 a2;have lg:g<wr.heap.size:=bLt _ _ x3;have i1:(0:Int)<=(j:Int):=ϝ;have i2:(j:Int)<(z2:Int):=ϝ;have a1:Tryz.prog.follows .mixedOrders=true:=Ϡ;obtain⟨B,hB⟩:=nM (decide (F∈E));have c7:∀t,binOp .gtr t (vI ((E.count F:Nat):Int)) (vI 0)=pure (.bool B):=pl.GG B (by rw[<-hB,<-Xz]);rw[hB]at aa;obtain⟨cn,bj⟩:=nM (E.count F);rw[bj]at bp c7;have b0:ϛ (∀Y,DR Y w.heap.size k E->(Instr.lookup 298 (.map (some w.heap.size)) (vI F) false).run Tryz.prog Y= .ok (vI cn) Y):=λY hc=>by
       have:=Ex hc a2;rw[bj]at this;exact this
      have cp:=hqz af;have cq:ϛ (g≠w.heap.size+1):=tyAt_apart be.o (A0 TM (ac.ko.block (GU TM Ϟ) VM)) Ϟ;clear ac N ay HG bm bk af hB bj be;have b4:ϛ (∀Y,Ϝ wr Y->Δ Y g (j * 5+2) (vI F)/\Δ Y (w+1) 0 (.map (some w.heap.size))/\(Instr.lookup 298 (.map (some w.heap.size)) (vI F) false).run Tryz.prog Y= .ok (vI cn) Y):=λY O=>⟨cLz O x3,cLz O c6,b0.o _ (Ch cp.o O)⟩;have b5:ϛ (∀Y v,Ϝ wr Y->Δ (φ Y g (j * 5+4) v) g (j * 5+2) (vI F)/\Δ (φ Y g (j * 5+4) v) (w+1) 0 (.map (some w.heap.size))/\(Instr.lookup 298 (.map (some w.heap.size)) (vI F) false).run Tryz.prog (φ Y g (j * 5+4) v)= .ok (vI cn) (φ Y g (j * 5+4) v)):=λY v O=>⟨(World.cell?_setCell_other _ _ _ _ (λQ=>by injection Q with _ Q;omega)).trans (cLz O x3),(World.cell?_setCell_other _ _ _ _ (λQ=>by injection Q with Q _;exact cq.o Q)).trans (cLz O c6),b0.o _ (a4.o Y v O)⟩;clear bp
      cases em with
      |true=>
       rw[Bool.true_or]at aa
       gi_wp2
       refine Zy 20 rfl a1 Ϡ (λ⟨_,_,h⟩=>h) (S:=λm=>Δ m g (j * 5+2) (vI F)/\Δ m (w+1) 0 (.map (some w.heap.size))/\(Instr.lookup 298 (.map (some w.heap.size)) (vI F) false).run Tryz.prog m= .ok (vI cn) m) (b4.o _ bR.drew) (λd=>?_);refine tkz 0 38 d ?_;refine tkz 1 39 d ?_;refine tkz 2 40 d ?_;refine tkz 3 41 d ?_;refine tkz 4 42 d ?_;refine tkz 5 43 d ?_;refine rD 6 λK r=>?_;go_simp;refine r.out _ _ d (λd=>?_);clear r K
       try simp only[Act.put,sI,sZ,sS]
       refine tkz 7 45 d ?_;refine sk 8 46 d ?_;refine sk 9 47 d ?_;refine sk 10 48 d ?_;refine sk 11 49 d ?_;refine sk 12 50 d ?_;refine sk 13 51 d ?_;refine sk 14 52 d ?_;refine sk 15 53 d ?_;refine tkz 16 54 d ?_;refine tkz 17 55 d ?_;refine tkz 18 56 d ?_;refine rD 19 λK r=>?_;go_simp;refine r.out _ _ (b5.o _ _ bR.drew) (λd=>?_);clear r K;refine wpAnyH_done Ϡ ?_ _
       gi_wp2
       exact⟨⟨j+1,ϝ,by go_num,(aa.o _ bR).1.below bR.drew,Ch (a4.o _ _ bR) bR.drew,bo.trans ((aa.o _ bR).2.trans (MW bR.drew)),az.trans (((KeepsOthers.setCell _ _ _).from _).trans (BH bR.drew))⟩,by simp[intOf];omega⟩
      |false=>
       rw[Bool.false_or]at aa
       gi_wp2
       refine Zy 20 rfl a1 Ϡ (λ⟨_,_,h⟩=>h) (S:=λm=>Δ m g (j * 5+2) (vI F)/\Δ m (w+1) 0 (.map (some w.heap.size))/\(Instr.lookup 298 (.map (some w.heap.size)) (vI F) false).run Tryz.prog m= .ok (vI cn) m) (b4.o _ bR.drew) (λd=>?_);refine tkz 0 38 d ?_;refine tkz 1 39 d ?_;refine tkz 2 40 d ?_;refine tkz 3 41 d ?_;refine tkz 4 42 d ?_;refine tkz 5 43 d ?_;refine rD 6 λK r=>?_;go_simp;refine r.out _ _ d (λd=>?_);clear r K
       try simp only[Act.put,sI,sZ,sS]
       refine tkz 7 45 d ?_;refine tkz 8 46 d ?_;refine tkz 9 47 d ?_;refine tkz 10 48 d ?_;refine tkz 11 49 d ?_;refine tkz 12 50 d ?_;refine tkz 13 51 d ?_;refine tkz 14 52 d ?_;refine tkz 15 53 d ?_;refine tkz 16 54 d ?_;refine tkz 17 55 d ?_;refine tkz 18 56 d ?_;refine rD 19 λK r=>?_;go_simp;refine r.out _ _ (b5.o _ _ bR.drew) (λd=>?_);clear r K;refine wpAnyH_done Ϡ ?_ _
       gi_wp2
       exact⟨⟨j+1,ϝ,by go_num,(aa.o _ bR).1.below bR.drew,Ch (a4.o _ _ bR) bR.drew,bo.trans ((aa.o _ bR).2.trans (MW bR.drew)),az.trans (((KeepsOthers.setCell _ _ _).from _).trans (BH bR.drew))⟩,by simp[intOf];omega⟩
     ·have c8:j=z2:=ϝ;have cu:ϛ (NSt A V wr A.heap.size G (C4 (metE E) C (i+1))/\DR wr w.heap.size k E):=by
       refine⟨?_,af⟩;rw[<-XB a8.o,b3.o,<-c8];exact ac
      have di:¬((j:Int)<(z2:Int)):=ϝ;clear ac af
      gi_wp2
      exact⟨az,bo,cu.o⟩
   case done=>
    rintro D X hD br r;have cs:ϛ (NSt A V X A.heap.size G (C4 (metE E) C P.length)):=by
     show NSt _ _ _ _ _ _;rw[lMp]at br;exact br.1
    clear br
    gi_wp2
    refine⟨ϟ,.inl ⟨_,_,rfl,run_takeDeferred r,?_⟩⟩;have hn:=cs.o.rec_put r rfl (by have:=bb.o.2;omega) (.deferred none);rw[<-am.o,<-bx.o,<-cw.o,<-cx.o,TX]at hn;refine⟨.tuple #[],(by simp[results,results358,go_sem]),rfl,?_⟩;rw[cz.o];have ci:V.heap.size<=(X.putObj D (.deferred none)).heap.size:=by have U:=(Array.getElem?_eq_some_iff.1 r).1;simp;omega
    obtain⟨y',df⟩:=JSt.met a9.o hT side E (by rw[co.o];exact hn) ci;exact⟨y',df,Aah HJ.o cl.o hn ci⟩
   case stop=>
    rintro D c X hD h r;exact h.elim
theorem TP(b:Nat)(T:TypeId)(p:pl.Pln)(x:pl.PA)(s:Jn)(y:JX)(t:Value)(L:List CO)(side:Int)(c:Hdr)(f:List EM)(l:List Ent)(base:Nat)(g w:ϙ)(h:JSt g w b T p x s y t L)(m:calmC T)(ok:okB (Ak s side))(r:∀z∈Ac (Ak s side),pl.i64 z.seq)(d:OE w base (hdV c) f l)(o:l.length<=1000000)(q:∀z∈l,pl.i64 z.seq):
 η 358 #[μ b,vI side,hdV c] w λe j=>e= .returned (.tuple #[])/\∃u,JSt g j b T p x (A7 s side (CJ (l.map (·.seq)) (Ak s side))) u t L/\Ki w j:=
 have i:=C9 (p:=(c,f)) d
 Ns b T p x s y t L side c f l g w h m ok r (by rw[<-d.len];exact i.1.1) i.2 d.len (λk n=>(d.rows k n).seq) o q
end jn
namespace pl
open vl
variable {w : ϙ} {b : Nat} {x y : Int} {a : Ϛ}
def FF:Pln:=⟨1,4, -5,5,0,2,[2,2],[2,2],[0],[0],false,[],[]⟩
theorem Lk:wfPlan FF:=⟨by unfold i64;decide,by unfold i64;decide,Ϟ,Ϟ,Ϟ,Ϟ,Ϟ,Ϟ⟩
theorem C2:Ag FF=0:=Ϡ
theorem AcP(c:Δ w b 0 (vI x)):Ay w (τ b) [x]:=by
 intro i d
 match i,d with
 |0,_=>exact⟨b,0,rfl,c⟩
theorem AcQ(c:Δ w b 0 (vI x))(d:Δ w b 1 (vI y)):Ay w (τ b) [x,y]:=by
 intro i e
 match i,e with
 |0,_=>exact⟨b,0,rfl,c⟩
 |1,_=>exact⟨b,0,rfl,d⟩
theorem Aey:Ay w a []:=λi c=>absurd c (Nat.not_lt_zero i)
theorem Aez:Es w a []:=λi c=>absurd c (Nat.not_lt_zero i)
theorem X0{p:Pln}{x:PA}(c:Ay w x.l p.left)(d:Ay w x.r p.right)(e:Ay w x.lk p.lkeys)(f:Ay w x.rk p.rkeys)(g:Ay w x.g p.group)(h:Es w x.a p.aggs):planAt w p x:=⟨c,d,e,f,g,h⟩
def Sb(n:Nat)(a:Option Addr):Prop:=∀y,a=some y->n<=y.block
theorem Kf{n o:Nat}(h:n<=b):Sb n (some ⟨b,o,none⟩):=λy hy=>by cases hy;exact h
theorem TQ(w:ϙ):η 23 #[] w λe c=>(∃x,e= .returned (Ap FF x)/\planAt c FF x/\Sb w.heap.size x.l/\Sb w.heap.size x.r/\Sb w.heap.size x.lk/\Sb w.heap.size x.rk)/\Ϝ w c:=by
 go_enter func23,ntmps23;go_wp2;exact bodyPost_ret (v:=.agg #[vI 1,vI 4,vI (-5),vI 5,ω,vI 2,vS (τ (w+1)) 2 2,vS (τ (w+1)) 2 2,vS (τ (w+1+1)) 1 1,vS (τ (w+1+1+1)) 1 1,ϋ,ψ,ψ]) (by simp[results,results23,go_sem]) rfl
  ⟨⟨⟨some ⟨w+1,0,none⟩,2,some ⟨w+1,0,none⟩,2,some ⟨w+1+1,0,none⟩,1,some ⟨w+1+1+1,0,none⟩,1,none,0,none,0⟩,rfl,
   X0 (AcQ ϡ ϡ) (AcQ ϡ ϡ) (AcP ϡ) (AcP ϡ) Aey Aez,Kf (n:=w.heap.size) (b:=w.heap.size+1) ϝ,Kf (n:=w.heap.size) (b:=w.heap.size+1) ϝ,Kf (n:=w.heap.size) (b:=w.heap.size+1+1) ϝ,Kf (n:=w.heap.size) (b:=w.heap.size+1+1+1) ϝ⟩,by
   repeat (first|exact bR|apply Below.drew|(refine Below.setCell ?_ ϟ _)|(refine Below.alloc ?_ Ϥ _))
   ⟩
theorem Vf(n:Int)(w:ϙ):η 99 #[vI n] w (θ w (.agg #[vI 2,vI n,ϊ])):=by
 go_enter func99,ntmps99;go_wp2;exact bodyPost_ret (v:=.agg #[vI 2,vI n,ϊ]) (by simp[results,results99,go_sem]) rfl ⟨rfl,by repeat (first|exact bR|apply Below.drew|(refine Below.setCell ?_ ϟ _)|(refine Below.alloc ?_ Ϥ _))⟩
theorem AdO(c:Δ w b 0 (vI 2))(d:Δ w b 1 (vI x))(e:Δ w b 2 (.string ⟨#[]⟩))(f:Δ w b 3 (vI 2))(g:Δ w b 4 (vI y))(h:Δ w b 5 (.string ⟨#[]⟩)):
 vl.rowAt w (τ b) [⟨2,x,⟨#[]⟩⟩,⟨2,y,⟨#[]⟩⟩]:=by
 intro i j
 match i,j with
 |0,_=>exact⟨b,0,rfl,c,d,e⟩
 |1,_=>exact⟨b,0,rfl,f,g,h⟩
theorem GQ(x y:Int)(w:ϙ):η 49 #[vI x,vI y] w λe f=>(∃c,e= .returned (vS c 2 2)/\vl.rowAt f c [⟨2,x,⟨#[]⟩⟩,⟨2,y,⟨#[]⟩⟩])/\Ϝ w f:=by
 go_enter func49,ntmps49;go_wp2_with fail;refine(Vf _ _).mono ?_;rintro e i ⟨rfl,g⟩;go_wp2_with fail;refine(Vf _ _).mono ?_;rintro e j ⟨rfl,h⟩;have d:=bT g h;go_wp2;go_ret;exact⟨⟨_,rfl,AdO ϡ ϡ ϡ ϡ ϡ ϡ⟩,d.alloc d.size _⟩
end pl
namespace gr
open vl pl bt
theorem AdP:Tryz.prog.cellsOf 121=4:=Ϡ
theorem Aca:Tryz.prog.cellsOf 102=3:=Ϡ
theorem Acb:Tryz.prog.cellsOf 117=1:=Ϡ
theorem Acd:Tryz.prog.cellsOf 100=1:=Ϡ
theorem Aac:Tryz.prog.cellsOf 80=1:=Ϡ
def wfT(t:Tal):Prop:=t.1.s.size<=maxLen/\i64 t.1.n/\i64 t.2
section
variable {H : Type} {enc : TypeId × Value -> H} {w : ϙ} {base : Nat} {spare : Nat -> Bool} {held : Bool}
theorem Hv{v:Value}{y:DataW H×List MemPlace}{fuel:Nat}(h:DataW.trod enc Tryz.prog w base spare held fuel 80 [v]=some y):
 ∃a f g r,v= .slice a f g/\List.length (α:=Cel) r=f/\vl.rowAt w a r/\B9 r/\f<=9223372036854775807:=by
 rcases open_slice underlying80 h with⟨e,_⟩|⟨x,l,c,m,n,D,q,e,_⟩
 ·simp at e;subst e;obtain⟨r,i,j,k,o⟩:=open_row (a:=none) (len:=0) (cap:=0) (d:=y.1) (p:=y.2) ⟨fuel,h⟩;exact⟨_,_,_,r,rfl,i,j,k,o⟩
 ·simp at e;subst e;obtain⟨r,i,j,k,o⟩:=open_row (a:=some x) (len:=l) (cap:=c) (d:=y.1) (p:=y.2) ⟨fuel,h⟩;exact⟨_,_,_,r,rfl,i,j,k,o⟩
theorem Sc{x:Addr}{f:List Value}{y:DataW H×List MemPlace}{fuel:Nat}(u:w.cells? base x 4=some f)(B:DataW.trod enc Tryz.prog w base spare held fuel 121 f=some y):
 ∃(b c:Nat) (t:Tal),x=⟨b,c,none⟩/\Δ w b c (.int .i64 t.1.k)/\Δ w b (c+1) (.int .i64 t.1.n)/\Δ w b (c+2) (.string t.1.s)/\Δ w b (c+3) (.int .i64 t.2)/\wfT t:=by
 obtain⟨_,v,e⟩:=World.cells?_some u;obtain⟨I,J,n,_,_,o,r⟩:=trod_struct2 underlying121 B
 match f,v with
 |[a0,a1,a2,a3],_=>
  simp[Y1]at o;obtain⟨K,L,M,F,_,_,d,g,h⟩:=trod_struct3 underlying119 o;obtain⟨k,e0,_,G⟩:=DataW.trod_int underlying3 d;obtain⟨m,i,_,D⟩:=DataW.trod_int underlying3 g;obtain⟨s,j,_,z⟩:=DataW.trod_string underlying9 h;obtain⟨q,l,_,E⟩:=DataW.trod_int underlying3 r;simp[Cn]at e0;simp[Cn]at i;simp[Q1]at j;simp[Cn]at l;subst e0 i j l;obtain⟨b,c,C⟩:=x;have d:=e 0 ϝ;have g:=e 1 ϝ;have h:=e 2 ϝ;have p:=e 3 ϝ;have A:C=none:=by simpa[Addr.add]using World.cell?_spot d
  subst A;refine⟨b,c,(⟨k,m,s⟩,q),rfl,?_,?_,?_,?_,z,bounds_i64 D,bounds_i64 E⟩
  ·simpa[Addr.add]using d
  ·simpa[Addr.add]using g
  ·simpa[Addr.add]using h
  ·simpa[Addr.add]using p
theorem LO(b c j:Nat):(⟨b,c,none⟩:Addr).add j=⟨b,c+j,none⟩:=by unfold Addr.add;split<;>simp_all
theorem Aad{v:Value}{y:DataW H×List MemPlace}{fuel:Nat}(K:DataW.trod enc Tryz.prog w base spare held fuel 117 [v]=some y):
 ∃(h:Option Addr×Nat×Nat) (l:List Tal),v= .slice h.1 h.2.1 h.2.2/\h.2.1=l.length/\EV w h.1 l/\l.length<=χ/\∀t∈l,wfT t:=by
 rcases open_slice underlying117 K with⟨k,_⟩|⟨x,j,c,m,n,D,P,k,_,T,L,M,_,u⟩
 ·simp at k;subst k;exact⟨(none,0,0),[],rfl,rfl,λi g=>absurd g (Nat.not_lt_zero i),ϟ,λt z=>by cases z⟩
 ·simp at k;subst k;have U:j<=m:=by rw[M];split<;>omega
  rw[AdP]at u;obtain⟨f,B⟩:=choose_lt (α:=Tal) (n:=j) (p:=λi t=> ∃b d,x=⟨b,d,none⟩/\Δ w b (d+i * 4) (.int .i64 t.1.k)/\Δ w b (d+i * 4+1) (.int .i64 t.1.n)/\Δ w b (d+i * 4+2) (.string t.1.s)/\Δ w b (d+i * 4+3) (.int .i64 t.2)/\wfT t) (λi g=>by
   obtain⟨R,I,J⟩:=u i ϝ;obtain⟨b,d,t,e,o,q,r,s,A⟩:=Sc I J;obtain⟨S,N,O⟩:=u 0 ϝ;obtain⟨F,E,Q,e0,_⟩:=Sc N O;have G:x=⟨F,E,none⟩:=by simpa[Addr.add]using e0
   subst G;rw[LO]at e
   cases e
   exact⟨t,b,E,rfl,o,q,r,s,A⟩)
  refine⟨(some x,j,c),(List.range j).map f,rfl,ϟ,λi g=>?_,by unfold maxLen at L;simp;omega,λt z=>?_⟩
  ·have C:i<j:=by simpa using g
   obtain⟨b,d,rfl,o,q,r,s,_⟩:=B i C;have e:((List.range j).map f).getD i ϰ=f i:=by simp[gDe,C]
   rw[e];exact⟨b,d,rfl,o,q,r,s⟩
  ·obtain⟨i,g,rfl⟩:=mem_map.1 z;obtain⟨_,_,_,_,_,_,_,A⟩:=B i (mem_range.1 g);exact A
theorem X3{v:Value}{y:DataW H×List MemPlace}{fuel:Nat}(d:DataW.trod enc Tryz.prog w base spare held fuel 117 [v]=some y):
 ∃(h:Option Addr×Nat×Nat) (l:List Tal),v= .slice h.1 h.2.1 h.2.2/\h.2.1=l.length/\EV w h.1 l/\(l.length<=χ/\l.length<=Rows.uptoBulk y.1)/\∀t∈l,wfT t:=by
 obtain⟨h,l,rfl,c,e,f,g⟩:=Aad d;exact⟨h,l,rfl,c,e,⟨f,by rw[<-c];exact bf.NC underlying117 d⟩,g⟩
theorem X4{v:Value}{y:DataW H×List MemPlace}{fuel:Nat}(W:DataW.trod enc Tryz.prog w base spare held fuel 100 [v]=some y):
 ∃(J:Ϛ) (M:Nat) (A:List (Option Addr×Nat×Nat)) (j:List (List Tal)),v= .slice J j.length M/\IU w J A/\A.length=j.length/\j.length<=χ/\
  (∀i,i<j.length->(A.getD i (none,0,0)).2.1=(j.getD i []).length/\EV w (A.getD i (none,0,0)).1 (j.getD i []))/\∀l∈j,(l.length<=χ/\l.length<=Rows.uptoBulk y.1)/\∀t∈l,wfT t:=by
 rcases open_slice underlying100 W with⟨s,_⟩|⟨x,g,c,m,n,D,Pl,s,_,z,Z,aa,hy,C⟩
 ·simp at s;subst s;exact⟨none,0,[],[],rfl,λi d=>absurd d (Nat.not_lt_zero i),rfl,ϟ,λi d=>absurd d (Nat.not_lt_zero i),λl z=>by cases z⟩
 ·simp at s;subst s;have ad:g<=m:=by rw[aa];split<;>omega
  rw[Acb]at C;obtain⟨f,E⟩:=choose_lt (α:=(Option Addr×Nat×Nat)×List Tal) (n:=g) (p:=λi q=> ∃b k,x=⟨b,k,none⟩/\Δ w b (k+i) (.slice q.1.1 q.1.2.1 q.1.2.2)/\q.1.2.1=q.2.length/\EV w q.1.1 q.2/\(q.2.length<=χ/\q.2.length<=Rows.uptoBulk (D i))/\∀t∈q.2,wfT t) (λi d=>by
   obtain⟨N,R,S⟩:=C i ϝ;obtain⟨_,Y,T⟩:=World.cells?_some R
   match N,Y with
   |[u],_=>
    obtain⟨h,l,hv,F,G,B,I⟩:=X3 S;have o:=T 0 ϝ;obtain⟨b,k,L⟩:=x;obtain⟨K,z1,_⟩:=C 0 ϝ;obtain⟨_,X,U⟩:=World.cells?_some z1;obtain⟨u0,ac⟩:∃u0,K=[u0]:=by
     match K,X with
     |[u0],_=>exact⟨u0,rfl⟩
    subst ac;have Q:w.cell? ((Addr.mk b k L).add (0 * 1)|>.add 0)=some u0:=U 0 ϝ;have ab:L=none:=by simpa[Addr.add]using World.cell?_spot Q
    subst ab;rw[Nat.mul_one,LO]at o;rw[LO]at o;simp at o;subst hv;exact⟨(h,l),b,k,rfl,o,F,G,B,I⟩)
  have V:∀i,i<g->Rows.uptoBulk (D i)<=Rows.uptoBulk y.1:=λi d=>by
   rw[hy];have:=bf.NA (l:=(List.range g).map D) (mem_map.2 ⟨i,mem_range.2 d,rfl⟩);simp only[Rows.uptoBulk];omega
  refine⟨some x,c,(List.range g).map λi=>(f i).1,(List.range g).map λi=>(f i).2,ϟ,λi d=>?_,ϟ,by unfold maxLen at Z;simp;omega,λi d=>?_,λl z=>?_⟩
  ·have r:i<g:=by simpa using d
   obtain⟨b,k,rfl,o,_⟩:=E i r;refine⟨b,k,rfl,?_⟩;have e:((List.range g).map λi=>(f i).1).getD i (none,0,0)=(f i).1:=by simp[gDe,r]
   rw[e];exact o
  ·have r:i<g:=by simpa using d
   obtain⟨_,_,_,_,F,G,_⟩:=E i r;have O:((List.range g).map λi=>(f i).1).getD i (none,0,0)=(f i).1:=by simp[gDe,r]
   have P:((List.range g).map λi=>(f i).2).getD i []=(f i).2:=by simp[gDe,r]
   rw[O,P];exact⟨F,G⟩
  ·obtain⟨i,d,rfl⟩:=mem_map.1 z;obtain⟨_,_,_,_,_,_,B,I⟩:=E i (mem_range.1 d);exact⟨⟨B.1,Nat.le_trans B.2 (V i (mem_range.1 d))⟩,I⟩
theorem Sd{x:Addr}{f:List Value}{y:DataW H×List MemPlace}{fuel:Nat}(I:w.cells? base x 3=some f)(j:DataW.trod enc Tryz.prog w base spare held fuel 102 f=some y):
 ∃(b d:Nat) (q:GX×Grp),x=⟨b,d,none⟩/\Δ w b d (.slice q.1.r q.2.row.length q.1.rc)/\Δ w b (d+1) (.int .i64 q.2.n)/\Δ w b (d+2) (.slice q.1.b q.2.bags.length q.1.bc)/\gAt w q.1 q.2/\(wfG q.2/\∀l∈q.2.bags,l.length<=Rows.uptoBulk y.1):=by
 obtain⟨_,J,g⟩:=World.cells?_some I;obtain⟨U,V,W,n,hy,_,p,G,s⟩:=trod_struct3 underlying102 j
 match f,J with
 |[a0,a1,a2],_=>
  simp[Aac]at p;simp[Acd]at s;obtain⟨P,T,Q,r,e0,c,L,O,K⟩:=Hv p;obtain⟨q,m,_,S⟩:=DataW.trod_int underlying3 G;obtain⟨A,C,M,B,D,u,v,z,k,e⟩:=X4 s;simp[Cn]at m;subst e0 m D c;obtain⟨b,d,R⟩:=x;have o:=g 0 ϝ;have E:=g 1 ϝ;have F:=g 2 ϝ;have N:R=none:=by simpa[Addr.add]using World.cell?_spot o
  subst N;refine⟨b,d,(⟨P,Q,A,C,M⟩,⟨r,q,B⟩),rfl,?_,?_,?_,⟨L,u,v,λi h=>(k i h).1,λi h=>(k i h).2⟩,⟨⟨O,K,bounds_i64 S,z,λl c=>⟨(e l c).1.1,λt j=>(e l c).2 t j⟩⟩,λl c=>by have:=(e l c).1.2;rw[hy];simp only[Rows.uptoBulk,Rows.uptoBulkAll];omega⟩⟩
  ·simpa[Addr.add]using o
  ·simpa[Addr.add]using E
  ·simpa[Addr.add]using F
theorem Se{a:Ϛ}{len cap:Nat}{d:DataW H}{p:List MemPlace}(h:DataW.Trod enc Tryz.prog w base spare held 39 (.slice a len cap) d p):
 ∃(S:List GX) (C:List Grp),C.length=len/\gsAt w a S C/\(∀g∈C,wfG g/\∀l∈g.bags,l.length<=Rows.uptoBulk d)/\len<=9223372036854775807:=by
 obtain⟨fuel,P⟩:=h;rcases open_slice underlying39 P with⟨r,_⟩|⟨x,l,c,m,n,D,V,r,_,I,Q,R,hy,E⟩
 ·simp[Value.cells]at r;obtain⟨rfl,rfl,rfl⟩:=r;exact⟨[],[],rfl,⟨rfl,λi j=>absurd j (Nat.not_lt_zero i),λi j=>absurd j (Nat.not_lt_zero i)⟩,(λg G=>by cases G),ϝ⟩
 ·simp[Value.cells]at r;obtain⟨rfl,rfl,rfl⟩:=r;have Z:len<=m:=by rw[R];split<;>omega
  rw[Aca]at E;obtain⟨f,F⟩:=choose_lt (α:=GX×Grp) (n:=len) (p:=λi q=> ∃b o,x=⟨b,o,none⟩/\Δ w b (o+i * 3) (.slice q.1.r q.2.row.length q.1.rc)/\Δ w b (o+i * 3+1) (.int .i64 q.2.n)/\Δ w b (o+i * 3+2) (.slice q.1.b q.2.bags.length q.1.bc)/\gAt w q.1 q.2/\(wfG q.2/\∀l∈q.2.bags,l.length<=Rows.uptoBulk (D i))) (λi j=>by
   obtain⟨X,M,N⟩:=E i ϝ;obtain⟨b,o,q,e,v,z,A,B,s⟩:=Sd M N;obtain⟨Y,T,U⟩:=E 0 ϝ;obtain⟨K,J,W,e0,_⟩:=Sd T U;have L:x=⟨K,J,none⟩:=by simpa[Addr.add]using e0
   subst L;rw[LO]at e
   cases e
   exact⟨q,b,J,rfl,v,z,A,B,s⟩)
  have O:∀i,i<len->Rows.uptoBulk (D i)<=Rows.uptoBulk d:=λi j=>by
   have:=bf.NA (l:=(List.range len).map D) (mem_map.2 ⟨i,mem_range.2 j,rfl⟩);have e:d=_:=congrArg Prod.fst hy;rw[e];simp only[Rows.uptoBulk];omega
  refine⟨(List.range len).map λi=>(f i).1,(List.range len).map λi=>(f i).2,ϟ,⟨ϟ,λi j=>?_,λi j=>?_⟩,λg G=>?_,by unfold maxLen at Q;omega⟩
  ·have k:i<len:=by simpa using j
   obtain⟨b,o,rfl,v,z,A,_⟩:=F i k;have t:((List.range len).map λi=>(f i).1).getD i ϰ=(f i).1:=by simp[gDe,k]
   have u:((List.range len).map λi=>(f i).2).getD i ϰ=(f i).2:=by simp[gDe,k]
   rw[t,u];exact⟨b,o,rfl,v,z,A⟩
  ·have k:i<len:=by simpa using j
   obtain⟨_,_,_,_,_,_,B,_⟩:=F i k;have t:((List.range len).map λi=>(f i).1).getD i ϰ=(f i).1:=by simp[gDe,k]
   have u:((List.range len).map λi=>(f i).2).getD i ϰ=(f i).2:=by simp[gDe,k]
   rw[t,u];exact B
  ·obtain⟨i,j,rfl⟩:=mem_map.1 G;obtain⟨_,_,_,_,_,_,_,s⟩:=F i (mem_range.1 j);exact⟨s.1,λl I=>Nat.le_trans (s.2 l I) (O i (mem_range.1 j))⟩
end
end gr
end Go.Proofs.YtfkihidbnfkbaaaGreatDoor
