import Derived.Test.YtdohnkkbkfhphaaGreatPw21
set_option linter.all false
set_option maxHeartbeats 1000000
open Go.ChangeShapes Go.WideShapes Go.ChangeAt Go.RowKit List
open Inhabited renaming default->ϰ
namespace Go.Proofs.YtdohnkkbkfhphaaGreat
open Go.Proofs.Tryz
namespace bf
open vl
variable {p : Plc} {ls : List (List Ent)} {B C base cap g hi hn i j k lo m n size : Nat} {V W X w : ϛ} {e : TypeId} {A hx xs : List Value} {hs : List Hdr} {a b c hv : Value} {x : BX} {y : Ent} {l : List Ent}
theorem TN(W:ϛ)(N k:Nat)(u0 u1 u2:Value)(h:k≠N):(((W.setCell ⟨N,0,none⟩ u0).setCell ⟨N,1,none⟩ u1).setCell ⟨N,2,none⟩ u2).heap[k]? =W.heap[k]? :=by
 rw[heap_setCell_other _ _ _ _ h,heap_setCell_other _ _ _ _ h,heap_setCell_other _ _ _ _ h]
def Fq(p:Plc)(ls:List (List Ent))(i j:Nat):List (List Ent):=(DG p ls i).set i (metL p (ls.getD i []) j)
theorem Qj(h:i<ls.length):(Fq p ls i j).getD i []=metL p (ls.getD i []) j:=D5 (by rw[OD];exact h)
theorem OU(h:i<ls.length):Fq p ls i 0=DG p ls i:=by
 unfold Fq;rw[Wz,<-QZ (p:=p) h];exact set_self (by rw[OD];exact h)
theorem R8(h:i<ls.length):Fq p ls i (ls.getD i []).length=DG p ls (i+1):=by
 unfold Fq;rw[YL,Tt h]
theorem VB(h:w.ownsRow base e size (vS (τ g) n cap) n xs)(j:Nat):Ξ w g j:=by
 rcases h.2 with⟨e,_⟩|⟨s,q,r,hv,o⟩
 ·cases e
 ·cases hv
  simp[World.frozen?,o]
theorem MSt.read(h:MSt w V X base hs hv hn hx (Fq p ls i j))(hi:i<hs.length)(K:ls.length=hs.length)(H:j<(ls.getD i []).length):
 ∃(g:Nat) (e:EM),hs.getD i hd0=(some ⟨g,0,none⟩,(ls.getD i []).length,(hs.getD i hd0).2.2)/\Δ X g (j * 5) (.string e.key)/\Δ X g (j * 5+1) (vI e.time)/\Δ X g (j * 5+2) (vI e.seq)/\Δ X g (j * 5+3) (hdV e.row)/\Δ X g (j * 5+4) (.bool e.met)/\Ξ X g (j * 5+4)/\Az ((ls.getD i []).getD j ϰ)=(e.key,e.time,e.seq):=by
 obtain⟨s,J⟩:=h.op;have q:=J.oe i hi;rw[Qj ϟ]at q;have I:(metL p (ls.getD i []) j).length=(ls.getD i []).length:=Hy _ _ _;obtain⟨g,t⟩:=Hx q ϟ;have u:(s.getD i []).length=(ls.getD i []).length:=by rw[q.len,I]
 rw[u]at t;have hv:hdV (hs.getD i hd0)=vS (τ g) (s.getD i []).length (hs.getD i hd0).2.2:=by rw[t,u];rfl
 rw[hv]at q;obtain⟨b,o,G,v,z,D,E,F⟩:=q.at j ϟ
 cases G
 have r:=q.ers.2 j ϟ;rw[PV H]at r;rw[Nat.zero_add]at v z D E F;exact⟨g,(s.getD i []).getD j ϰ,t,v,z,D,E,F,VB q.own _,by unfold Az;rw[r.key,r.time,r.seq]⟩
theorem MSt.yes(h:MSt w V X base hs hv hn hx (Fq p ls i j))(t:w.heap.size<=base)(hi:i<hs.length)(u:ls.length=hs.length)(q:j<(ls.getD i []).length)(r:(hs.getD i hd0).1=some ⟨g,0,none⟩)(s:Az ((ls.getD i []).getD j ϰ)=p):
 MSt w V (φ X g (j * 5+4) (.bool true)) base hs hv hn hx (Fq p ls i (j+1))/\KeepO notE X (φ X g (j * 5+4) (.bool true)):=by
 have o:i<ls.length:=ϟ;have k:=h.met (i:=j) t hi (by rw[Qj o,Hy];exact q) r;rw[Qj o,YK q s]at k;have e:(Fq p ls i j).set i (metL p (ls.getD i []) (j+1))=Fq p ls i (j+1):=by unfold Fq;rw[List.set_set]
 rw[e]at k;exact k
theorem MSt.no(h:MSt w V X base hs hv hn hx (Fq p ls i j))(o:j<(ls.getD i []).length)(q:Az ((ls.getD i []).getD j ϰ)≠p):MSt w V X base hs hv hn hx (Fq p ls i (j+1)):=by
 unfold Fq at h⊢;rw[<-AaO o q];exact h
theorem Xf{b:Buf}(h:OB V base x b)(o:Ϟ w V):MSt w V V base ((x.m::x.rs).map (·.1)) (vS x.ra x.rs.length x.rc) x.rs.length (x.rs.map λq=>hdV q.1) (DG p (partsB b) 0):=
 ⟨⟨_,by rw[Tu];exact Acp h⟩,h.hds,KeepO.refl _ _,o⟩
theorem Aba(h:nbAt V B)(r:KeepO notE V X):nbAt X B:=by
 obtain⟨c,f,q⟩:=h.ty;have o:X.heap[B]? =V.heap[B]? :=by
  rw[q];exact r B _ q rfl (λs t e=>by cases e)
 exact⟨(cOb (a:=⟨B,0,none⟩) o).trans h.n0,(cOb (a:=⟨B,1,none⟩) o).trans h.n1,(cOb (a:=⟨B,2,none⟩) o).trans h.n2,(AG (p:=⟨B,0,none⟩) o).trans h.o0,(AG (p:=⟨B,1,none⟩) o).trans h.o1,(AG (p:=⟨B,2,none⟩) o).trans h.o2,⟨c,f,by rw[o];exact q⟩⟩
theorem R9{b o:Nat}{v:Value}(h:Δ W b o v):W.setCell ⟨b,o,none⟩ v=W:=by
 unfold World.cell? at h;unfold World.setCell;dsimp only at h⊢
 cases hb:W.heap[b]? with
 |none=>rw[hb]at h;cases h
 |some x=>
  rw[hb]at h
  cases x with
  |cells c t f=>
   simp only[Option.isSome_none,Bool.false_eq_true,if_false]at h;have u:W.heap.modify b (λx=>match x with
    | .cells c elem frozen=>.cells (if (none:Option Nat).isSome then c else c.setIfInBounds o v) elem frozen
    |o=>o)=W.heap:=by
    refine Array.ext ϡ (λi E r=>?_);rw[Array.getElem_modify];by_cases e:b=i
    ·subst e;have hx:W.heap[b]= .cells c t f:=by
      have:=Array.getElem?_eq_getElem r;rw[hb]at this;injection this with this
      exact this.symm
     rw[if_pos rfl,hx];dsimp only;have s:c.setIfInBounds o v=c:=by
      obtain⟨F,hv⟩:=Array.getElem?_eq_some_iff.1 h;refine Array.ext ϡ (λj G D=>?_);rw[Array.getElem_setIfInBounds D];by_cases q:o=j
      ·subst q;simp[hv]
      ·simp[q]
     simp[s]
    ·rw[if_neg e]
   exact congrArg (λz:Array Obj=>{W with heap:=z}) u
  |_=>cases h
theorem MSt.put{m v:Bool}(h:MSt w V X base hs hv hn hx (Fq p ls i j))(z:w.heap.size<=base)(hi:i<hs.length)(u:ls.length=hs.length)(q:j<(ls.getD i []).length)(t:(hs.getD i hd0).1=some ⟨g,0,none⟩)
 (s:Δ X g (j * 5+4) (.bool m)) (r:v=(m||decide (Az ((ls.getD i []).getD j ϰ)=p))):MSt w V (φ X g (j * 5+4) (.bool v)) base hs hv hn hx (Fq p ls i (j+1)):=by
 by_cases o:Az ((ls.getD i []).getD j ϰ)=p
 ·have e:v=true:=by rw[r,decide_eq_true o,Bool.or_true]
  rw[e];exact(h.yes z hi u q t o).1
 ·have e:v=m:=by rw[r,decide_eq_false o,Bool.or_false]
  rw[e,R9 s];exact h.no q o
theorem MSt.hlen(h:MSt w V X base hs hv hn hx (DG p ls i))(hi:i<hs.length)(v:ls.length=hs.length):(hs.getD i hd0).2.1=(ls.getD i []).length:=by
 obtain⟨u,r⟩:=h.op;have o:=r.oe i hi;rw[QZ ϟ]at o;obtain⟨s,t,e⟩:=o.form;unfold hdV at e;injection e with _ q _
 rw[q,o.len]
theorem MSt.head{L:List (List Ent)}(h:MSt w V X base ((x.m::x.rs).map (·.1)) (vS x.ra x.rs.length x.rc) x.rs.length (x.rs.map λq=>hdV q.1) L)(s:k<x.rs.length):∃g,x.ra=some ⟨g,0,none⟩/\Δ X g (0+k) (hdV (((x.m::x.rs).map (·.1)).getD (k+1) hd0)):=by
 rcases h.hds.2 with⟨_,u⟩|⟨g,cap,t,hv,_⟩
 ·omega
 ·injection hv with o _ _
  refine⟨g,o,?_⟩;have r:=World.ownsRow.cells h.hds (g:=g) (by rw[o];rfl) k (hdV (x.rs[k]).1) (by rw[getElem?_map,gEe s];rfl);rw[Ch]at r;rw[r,map_cons,getD_cons_succ,gDe,getElem?_map,gEe s];rfl
theorem VC(h0:Δ W C 0 a)(h1:Δ W C 1 b)(h:Δ W C 2 c)(u0 u1 u2:Value):Δ (φ (φ (φ W C 0 u0) C 1 u1) C 2 u2) C 0 u0:=ϣ
theorem VD(h0:Δ W C 0 a)(h1:Δ W C 1 b)(h:Δ W C 2 c)(u0 u1 u2:Value):Δ (φ (φ (φ W C 0 u0) C 1 u1) C 2 u2) C 1 u1:=ϣ
theorem VE(h0:Δ W C 0 a)(h1:Δ W C 1 b)(h:Δ W C 2 c)(u0 u1 u2:Value):Δ (φ (φ (φ W C 0 u0) C 1 u1) C 2 u2) C 2 u2:=ϣ
theorem MSt.shed2{Y:ϛ}{b:Buf}(h:MSt w V X base ((x.m::x.rs).map (·.1)) (vS x.ra x.rs.length x.rc) x.rs.length (x.rs.map λq=>hdV q.1) (DG p (partsB b) (partsB b).length))(E:X.heap.size<=Y.heap.size)(r:∀g t,An X g t->t≠29->Y.heap[g]? =X.heap[g]?):∃o,AF (D9 p b) o=AF b x/\OB Y base o (D9 p b):=by
 obtain⟨F,u⟩:=h.op;rw[W8]at u;have D:=u.same E (λg s=>by
  rcases s with k|k
  ·exact r g _ k Ϡ
  ·exact r g _ k Ϡ)
 obtain⟨o,v,z⟩:=YM (b:=b) D (A2 h.hds (λg s=>r g _ (A6 h.hds s) Ϡ));exact⟨o,v,z⟩
theorem TO(h:An X B 29)(u0 u1 u2:Value):∀g t,An X g t->t≠29->(((X.setCell ⟨B,0,none⟩ u0).setCell ⟨B,1,none⟩ u1).setCell ⟨B,2,none⟩ u2).heap[g]? =X.heap[g]? :=λg t o q=>TN _ _ _ _ _ _ (tyAt_apart o h q)
theorem Xg(t e:TypeId)(z:TypeInfo)(s:Nat)(K:Tryz.prog.underlying t=some (.slice e))(hi:Tryz.prog.info? e=some z)(L:z.size=s)(N:TypeId)(g o r E:Nat)(a:Addr)(u M:Nat)(q:Array Value)(D:TypeId)(h:List Value)(G:w.heap[g]? =some (.cells q D (0,0)))(hn:h.length=Nat.min u r * s)
 (I:∀j v,h[j]? =some v->w.cell? (a.add j)=some v) (F:o+h.length<=q.size) (h1:∀v∈h,v.oneCell'=true):
 (Builtin.copy_ #[t,t] N #[vS (some ⟨g,o,none⟩) r E,vS (some a) u M]).run Tryz.prog w= .ok (goInt (Nat.min u r)) (w.setRow g (q.toList.take o++h++q.toList.drop (o+h.length)).toArray):=by
 have H:=run_loadCells_list (P:=Tryz.prog) w a h I;have J:=run_storeCells_at Tryz.prog g o D h 0 q w G (by simpa using F) h1;simp[Builtin.copy_,run_underlying K,Builtin.lenOf,Builtin.firstCells,sizeOf,typeInfo,hi,L,<-hn,H,J]
theorem MS(t e:TypeId)(q:TypeInfo)(s:Nat)(D:Tryz.prog.underlying t=some (.slice e))(hi:Tryz.prog.info? e=some q)(E:q.size=s)(G:TypeId)(d:Ϝ)(o u:Nat)(a:Ϝ)(r F:Nat)(hn:Nat.min r o=0):
 (Builtin.copy_ #[t,t] G #[vS d o u,vS a r F]).run Tryz.prog w= .ok (goInt 0) w:=by
 have z:∀x,(loadCells x 0).run Tryz.prog w= .ok #[] w:=λx=>run_loadCells_list (P:=Tryz.prog) w x [] (λj v h=>by cases h)
 cases a<;>cases d<;>simp[Builtin.copy_,run_underlying D,Builtin.lenOf,Builtin.firstCells,sizeOf,typeInfo,hi,E,hn,z,storeCells]
theorem TP(s:Nat)(h o z S:List Value)(t:z.length=s):((h++(o++z)++S).take (h.length+s)++o++(h++(o++z)++S).drop (h.length+s+o.length))=(h++(o++z).take s++o)++S:=by
 have q:(h++(o++z)++S).take (h.length+s)=h++(o++z).take s:=by
  rw[append_assoc,take_length_add_append,take_append_of_le_length (by rw[lAp];omega)]
 have r:(h++(o++z)++S).drop (h.length+s+o.length)=S:=by
  rw[show h.length+s+o.length=(h++(o++z)).length by rw[lAp,lAp];omega];exact drop_left
 rw[q,r]
theorem Zi{w2:ϛ}{na nb s:Nat}{r o z:List Value}(t e:TypeId)(I:TypeInfo)(v:Tryz.prog.underlying t=some (.slice e))(hi:Tryz.prog.info? e=some I)(ad:I.size=s)
 (G:w2.ownsRow base e s (vS (τ g) (n+1) cap) (n+1) (r++o++z)) (L:r.length=na * s) (M:o.length=nb * s) (H:z.length=s) (hn:na+nb=n) (aj:∀u∈o,u.oneCell'=true)
 (J O:Ϝ) (K P:Nat) (hd:0<nb->J=some ⟨g,(na+1) * s,none⟩) (hs:0<nb->O=some ⟨g,na * s,none⟩) (Q:TypeId):
 ∃F,(Builtin.copy_ #[t,t] Q #[vS J nb K,vS O (nb+1) P]).run Tryz.prog w2= .ok (goInt nb) F/\
  (∃y,y.length=s/\F.ownsRow base e s (vS (τ g) (n+1) cap) (n+1) (r++y++o))/\F.heap.size=w2.heap.size/\(∀b,b≠g->F.heap[b]? =w2.heap[b]?)/\Below g w2 F:=by
 have ab:Nat.min (nb+1) nb=nb:=Nat.min_eq_right ϟ;have N:((o++z).take s).length=s:=by rw[length_take,lAp,H];omega
 by_cases ac:0<nb
 ·have ed:=hd ac;have es:=hs ac;subst ed es;rcases G.2 with⟨hv,_⟩|⟨g',al,q,hv,h1,Z,R,h3,h4,h5⟩
  ·cases hv
  ·injection hv with D e2 e3
   injection D with D
   injection D with D _ _
   subst D e3;have ag:∀j u,o[j]? =some u->w2.cell? ((⟨g,na * s,none⟩:Addr).add j)=some u:=λj u v=>by
    rw[Ch];have Y:=World.ownsRow.cells G (g:=g) rfl (na * s+j) u (by
     have hj:j<o.length:=by
      rcases Nat.lt_or_ge j o.length with h|h
      ·exact h
      ·rw[getElem?_eq_none h]at v;cases v
     rw[append_assoc,getElem?_append_right ϟ,L,show na * s+j - na * s=j by omega,getElem?_append_left hj];exact v)
    rw[Ch,Nat.zero_add]at Y;exact Y
   have ah:(na+1) * s+o.length<=q.size:=by
    have h6:(n+1) * s<=cap * s:=Nat.mul_le_mul_right _ R;have T:(n+1) * s=(na+1) * s+nb * s:=by rw[<-hn,show na+nb+1=(na+1)+nb by omega,Nat.add_mul]
    omega
   have E:=Xg t e I s v hi ad Q g ((na+1) * s) nb K ⟨g,na * s,none⟩ (nb+1) P q e o Z (by rw[ab,M]) ag ah aj;rw[ab]at E;obtain⟨S,U⟩:∃S,q.toList=r++(o++z)++S:=⟨q.toList.drop ((n+1) * s),by
    have e:=take_append_drop ((n+1) * s) q.toList;rw[h5,append_assoc r o z]at e;exact e.symm⟩
   have h8:(na+1) * s=r.length+s:=by rw[Nat.add_mul,Nat.one_mul,L]
   have ai:q.toList.take ((na+1) * s)++o++q.toList.drop ((na+1) * s+o.length)=(r++(o++z).take s++o)++S:=by
    rw[U,h8];exact TP s r o z S H
   rw[ai]at E;have aa:(r++(o++z).take s++o).length=(n+1) * s:=by
    simp only[lAp,N,L,M];have T:(n+1) * s=(na+1) * s+nb * s:=by rw[<-hn,show na+nb+1=(na+1)+nb by omega,Nat.add_mul]
    rw[T,Nat.add_mul,Nat.one_mul]
   have ak:q.size=((r++(o++z).take s++o)++S).length:=by
    have h9:q.size=q.toList.length:=Array.length_toList.symm;rw[h9,U];simp only[lAp,N,H];omega
   refine⟨_,E,⟨(o++z).take s,N,aa,.inr ⟨g,cap,_,rfl,h1,setRow_heap w2 g q _ _ _ Z,R,h3,?_,?_⟩⟩,by simp[World.setRow],λb hb=>setRow_other w2 g b _ hb,⟨rfl,rfl,rfl,by simp[World.setRow],λk hk=>setRow_other w2 g k _ ϟ⟩⟩
   ·rw[size_toArray,<-ak];exact h4
   ·rw[<-aa];exact take_left
 ·have ae:o=[]:=length_eq_zero_iff.1 (by rw[M,show nb=0 by omega,Nat.zero_mul]);have af:nb=0:=ϟ;subst ae af;have E:=MS (w:=w2) t e I s v hi ad Q J 0 K O 1 P rfl;refine⟨w2,E,⟨z,H,by rw[append_nil]at G⊢;exact G⟩,rfl,λb _=>rfl,bR⟩
theorem TQ(h:w.ownsRow base e size (vS (τ g) n cap) n xs)(j:Nat):Ξ w g j:=by
 rcases h.2 with⟨hv,_⟩|⟨s,q,r,hv,_,o,_⟩
 ·cases hv
 ·cases hv
  simp[World.frozen?,o]
theorem Qk{ad:Ϝ}(h:w.ownsRow base e size (vS ad n cap) m xs):n<=cap:=by
 rcases h.2 with⟨hv,r⟩|⟨g,c,q,hv,_,_,o,_⟩
 ·cases hv;exact Nat.le_refl _
 ·cases hv;exact o
theorem Zj{D:Array Oper}{o:Oper}{a:Act}{t:ϛ}{K:Act->World->Prop}{Q:Exit->Act->World->Prop}{E:Prop}(u:o.guard=none)(s x:Operand)
 (v:o.op= .call {callee:=.builtin .copy,args:=#[s,x],argTypes:=#[26,26]}) (q r v':Value) (hs:a.eval s=q) (hx:a.eval x=r)
 (z:(Builtin.copy_ #[26,26] o.type #[q,r]).run Tryz.prog w= .ok v' t) (h:K (a.put o.dst v') t):
 if Region.wanted o (yielded D a.tmps)=true then Oper.wp Tryz.prog o a w K Q else E:=by
 rw[if_pos (by simp[Region.wanted,u])];unfold Oper.wp;simp[execOp,v,resolve,invoke,builtin,hs,hx,z,Result.andThen];exact h
theorem AcH(w:ϛ):(sizeOf 63).run Tryz.prog w= .ok 5 w:=Ϣ
theorem Zk:Tryz.prog.elem 26=63:=Ϣ
theorem Acv:Tryz.prog.underlying 26=some (.slice (Tryz.prog.elem 26)):=by rw[Zk];exact underlying26
theorem VF(g n cap k:Nat)(q:k<=n)(hn:n<=cap):∃o:Addr,(∀w,(Instr.sliceAt 26 (vS (τ g) n cap) (some (vI k)) none none).run Tryz.prog w= .ok (vS (some o) (n - k) (cap - k)) w)/\(k<n->o=⟨g,k * 5,none⟩):=by
 refine⟨if cap=k then⟨g,0,none⟩else⟨g,k * 5,none⟩,?_,λh=>by rw[if_neg ϟ]⟩;intro w;rw[run_sliceAt_slice (t:=26) (h:=Acv),run_slice_l (t:=26) (ht:=Acv) (h0:=by omega) (h1:=by omega),Zk,AcH];simp[Result.andThen,sliced];split
 ·rfl
 ·simp[Addr.add];omega
theorem JS(a b:List EM):Aq (a++b)=Aq a++Aq b:=by unfold Aq;rw[flatMap_append]
theorem Ql(l:List EM):∀u∈Aq l,u.oneCell'=true:=by
 intro u o;unfold Aq at o;obtain⟨e,_,h⟩:=mem_flatMap.1 o;obtain⟨k,t,s,⟨a,b,c⟩,m⟩:=e;simp[hdV]at h;rcases h with rfl|rfl|rfl|rfl|rfl<;>rfl
theorem Xh{B y:List Value}(q:A.length=i * 5)(hy:y.length=5)(a b c d e:Value):(((((A++y++B).set (i * 5) a).set (i * 5+1) b).set (i * 5+2) c).set (i * 5+3) d).set (i * 5+4) e=A++([a,b,c,d,e]++B):=by
 match y,hy with
 |[y0,y1,y2,y3,y4],_=>
  rw[append_assoc];have h:∀(j:Nat) (u:Value) (L:List Value),(A++L).set (i * 5+j) u=A++L.set j u:=λj u L=>by
   rw[set_append_right _ _ ϟ,q,show i * 5+j - i * 5=j by omega]
  have o:=h 0 a;rw[Nat.add_zero]at o;rw[o,h 1,h 2,h 3,h 4];rfl
theorem Zl{B y:List Value}{u:Value}(r:A.length=i)(o:y[j]? =some u):(A++y++B)[i+j]? =some u:=by
 have q:j<y.length:=by
  rcases Nat.lt_or_ge j y.length with h|h
  ·exact h
  ·rw[getElem?_eq_none h]at o;cases o
 rw[append_assoc,getElem?_append_right ϟ,show i+j - A.length=j by omega,getElem?_append_left q];exact o
theorem AcI(h:m<l.length)(hs:Eb l[m] y):hasB l (Az y)=true:=by
 unfold hasB;exact any_eq_true.2 ⟨l[m],getElem_mem h,by simpa using L9.2 hs⟩
structure Cut(l:List Ent)(y:Ent)(lo hi:Nat):Prop where
 le:lo<=hi
 top:hi<=l.length
 fst:∀i (h:i<l.length),i<lo->ltP l[i] y
 snd:∀i (h:i<l.length),hi<=i->ltP y l[i]
theorem Cut.start(l:List Ent)(y:Ent):Cut l y 0 l.length:=⟨Nat.zero_le _,Nat.le_refl _,λi _ h=>absurd h (Nat.not_lt_zero i),λi h o=>absurd h ϟ⟩
theorem Cut.up(h:Cut l y lo hi)(u:Dh l)(z:m<hi)(t:m<l.length)(v:lo<=m)(q:ltP l[m] y):Cut l y (m+1) hi:=
 ⟨ϟ,h.top,λi s r=>by
  rcases Nat.lt_succ_iff_lt_or_eq.1 r with o|o
  ·exact Co (pairwise_iff_getElem.1 u i m s t o) q
  ·subst o;exact q,h.snd⟩
theorem Cut.down(h:Cut l y lo hi)(v:Dh l)(z:m<hi)(t:m<l.length)(u:lo<=m)(q:ltP y l[m]):Cut l y lo m:=
 ⟨u,ϟ,h.fst,λi s r=>by
  rcases Nat.lt_or_eq_of_le r with o|o
  ·exact Co q (pairwise_iff_getElem.1 v m i t s o)
  ·subst o;exact q⟩
theorem Cut.none(h:Cut l y k k):hasB l (Az y)=false:=by
 unfold hasB;refine any_eq_false.2 λx hx=>?_;obtain⟨i,hi,rfl⟩:=getElem_of_mem hx;have:¬Az l[i]=Az y:=λe=>by
  have hs:=L9.1 e;by_cases o:i<k
  ·exact Ik (h.fst i hi o) hs
  ·exact Ik (h.snd i hi ϟ) (FC hs)
 simpa using this
theorem Cut.rise(h:Cut l y k k)(s:Dh l):Dh (l.take k++y::l.drop k):=by
 refine pairwise_append.2 ⟨s.sublist (List.take_sublist _ _),pairwise_cons.2 ⟨λz t=>?_,s.sublist (List.drop_sublist _ _)⟩,λa ha b o=>?_⟩
 ·obtain⟨i,hi,rfl⟩:=getElem_of_mem t;rw[getElem_drop];exact h.snd _ _ ϟ
 ·obtain⟨i,hi,rfl⟩:=getElem_of_mem ha;rw[getElem_take];have q:i<k:=by rw[length_take]at hi;omega
  have r:i<l.length:=by rw[length_take]at hi;omega
  rcases mem_cons.1 o with rfl|o
  ·exact h.fst i r q
  ·obtain⟨j,u,rfl⟩:=getElem_of_mem o;rw[getElem_drop];exact Co (h.fst i r q) (h.snd _ _ ϟ)
theorem Cut.perm(k:Nat):(l.take k++y::l.drop k).Perm (y::l):=by
 have h:=perm_middle (a:=y) (l₁:=l.take k) (l₂:=l.drop k);rw[take_append_drop]at h;exact h
end bf
namespace bf
open vl
attribute [local go_sem] Oper.semAt_some
variable {d l : List Ent} {y : Ent} {f : Bool} {i k : Nat} {ps : List (List Ent)}
structure ES(done l:List Ent)(f:Bool):Prop where
 rise:Dh l
 len:l.length<=done.length
 fine:f=true↔(done.map Az).Nodup
 perm:f=true->l.Perm done
 has:∀p,hasB l p=hasB done p
theorem ES.nil:ES [] [] true:=⟨List.Pairwise.nil,Nat.le_refl _,ϡ,λ_=>List.Perm.refl _,λ_=>rfl⟩
theorem Mm(a b:List Ent)(p:Plc):hasB (a++b) p=(hasB a p||hasB b p):=by unfold hasB;rw[any_append]
theorem VG{p:Plc}(h:hasB l p=true):p∈l.map Az:=by
 unfold hasB at h;obtain⟨x,hx,e⟩:=any_eq_true.1 h;exact mem_map.2 ⟨x,hx,by simpa using e⟩
theorem Zm(y:Ent)(l:List Ent)(p:Plc):hasB (y::l) p=(hasB [y] p||hasB l p):=Mm [y] l p
theorem Abb(h:hasB l (Az y)=true)(p:Plc)(k:hasB [y] p=true):hasB l p=true:=by
 have e:p=Az y:=by
  have:=VG k;simpa using this
 rw[e];exact h
theorem OV:((d++[y]).map Az).Nodup↔(d.map Az).Nodup/\hasB d (Az y)=false:=by
 rw[map_append,nodup_append]
 constructor
 ·rintro ⟨h,_,q⟩;refine⟨h,?_⟩
  cases e:hasB d (Az y)with
  |false=>rfl
  |true=>exact absurd rfl (q _ (VG e) (Az y) ϡ)
 ·rintro ⟨h,o⟩;refine⟨h,ϡ,λa ha b r e=>?_⟩;have:b=Az y:=by simpa using r
  subst this;subst e;exact PQ o ha
theorem ES.there(h:ES d l f)(hy:hasB l (Az y)=true):ES (d++[y]) l false:=by
 have o:hasB d (Az y)=true:=by rw[<-h.has];exact hy
 refine⟨h.rise,by have:=h.len;simp;omega,?_,(λe=>by cases e),λp=>?_⟩
 ·rw[OV,o];simp
 ·rw[Mm,h.has p]
  cases e:hasB [y] p with
  |false=>simp
  |true=>rw[Abb o p e];rfl
theorem ES.more{q:List Ent}(h:ES d l f)(hy:hasB l (Az y)=false)(o:q.Perm (y::l))(s:Dh q):ES (d++[y]) q f:=by
 have r:hasB d (Az y)=false:=by rw[<-h.has];exact hy
 refine⟨s,by have:=h.len;have:=o.length_eq;simp at *;omega,?_,λe=>?_,λp=>?_⟩
 ·rw[OV,r,h.fine];simp
 ·exact o.trans (((h.perm e).cons y).trans (perm_append_singleton y d).symm)
 ·rw[YJ o,Zm,Mm,h.has p,Bool.or_comm]
theorem Eo{α:Type}{l:List α}{d:α}(h:k<l.length):l.take (k+1)=l.take k++[l.getD k d]:=by
 rw[take_add_one,gDe,gEe h];rfl
def GA(ps:List (List Ent))(i k:Nat):List Ent:=(ps.take i).flatten++(ps.getD i ϰ).take k
theorem OW(h:k<(ps.getD i ϰ).length):GA ps i (k+1)=GA ps i k++[(ps.getD i ϰ).getD k ϰ]:=by
 unfold GA;rw[Eo (d:=ϰ) h,append_assoc]
theorem Lo(h:i<ps.length):GA ps i (ps.getD i ϰ).length=(ps.take (i+1)).flatten:=by
 unfold GA;rw[take_length,Eo (d:=ϰ) h,flatten_append,flatten_cons,flatten_nil,append_nil]
theorem OX(ps:List (List Ent))(i:Nat):GA ps i 0=(ps.take i).flatten:=by unfold GA;simp
theorem JU(h:i<ps.length):(GA ps i k).length<=ps.flatten.length:=by
 have q:(GA ps i k).length<=((ps.take (i+1)).flatten).length:=by
  rw[<-Lo h];unfold GA;rw[lAp,lAp];have:((ps.getD i ϰ).take k).length<=((ps.getD i ϰ).take (ps.getD i ϰ).length).length:=by
   rw[length_take,length_take];omega
  omega
 have o:ps.flatten=(ps.take (i+1)).flatten++(ps.drop (i+1)).flatten:=by rw[<-flatten_append,take_append_drop]
 rw[o,lAp];omega
end bf
namespace bf
open vl
theorem Lp(a:Ϝ)(cap:Nat)(r:List Cel)(w:ϛ)(v:vl.rowAt w a r)(K:r.length<=2000000):
 η 86 #[vS a r.length cap] w λe O=>(∃q c,e= .returned (vS q r.length c)/\A4 O w (vS q r.length c) r)/\Ϟ w O:=by
 obtain⟨s,hi,L,M,N⟩:=info_parts Tryz.infoV;have t:ϝ (Tryz.prog.info? 103=some s/\s.zero=some (.agg #[ω,ω,ϊ])/\s.size=3/\s.bytes=32):=⟨hi,L,M,N⟩;clear hi L M N;have D:ϝ ((w.alloc (.cells #[] 103)).ownsRow w 103 3 (vS (τ w) 0 0) 0 []):=World.ownsRow_made w #[] 0 nR (Nat.zero_le _) rfl;have I:Ϟ w (ξ w #[] 103):=Ϫ;obtain⟨n,hn⟩:∃n,r.length=n:=⟨_,rfl⟩;have z:=hV0 hn
 cases a with
 |none=>
  have F:r=[]:=by
   cases r with
   |nil=>rfl
   |cons c r=>
    obtain⟨_,_,e,_⟩:=v 0 ϡ
    cases e
  subst F;simp only[length_nil];clear v K hn z;go_enter func86,ntmps86;go_wp2_with (at_builtin;refine Du rfl (.tmp 3) (.tmp 4) 41 rfl w.heap.size 103 s 3 cap underlying41 t.o.1 _ _ _ rfl D.o rfl ?_);go_ret;exact⟨⟨_,_,rfl,D.o⟩,I⟩
 |some x=>
  have J:∀j u,(celCells r)[j]? =some u->(w.alloc (.cells #[] 103)).cell? (x.add j)=some u:=by
   intro j u H;have S:0<r.length:=by
    rcases Nat.eq_zero_or_pos r.length with h|h
    ·rw[length_eq_zero_iff.1 h]at H;cases H
    ·exact h
   obtain⟨b,o,e,_⟩:=v 0 S
   cases e
   exact cLz Ϫ (DL v j u H)
  have P:=hV0 J;rw[hn]at K⊢;clear J v hn;go_enter func86,ntmps86;go_wp2_with (at_builtin;refine wpList_append_own _ rfl (.tmp 3) (.tmp 4) 41 rfl w.heap.size 103 s (.agg #[ω,ω,ϊ]) 3 32 underlying41 t.o.1 t.o.2.1 t.o.2.2.1 t.o.2.2.2 rfl Ϡ _ _ _ rfl D.o x n cap (celCells r) rfl (by rw[Db,z.o]) P.o (Dw r) ϩ ϟ ϡ ?_;intro T U G R aa);rw[Nat.zero_add,nil_append]at G;obtain⟨q,E,hv⟩:∃q E,T=vS q n E:=by
   rcases G.2 with⟨rfl,F⟩|⟨g,Y,Z,rfl,_⟩
   ·exact⟨none,0,by rw[F]⟩
   ·exact⟨_,_,rfl⟩
  subst hv;go_ret;exact⟨⟨q,E,rfl,by show U.ownsRow _ _ _ _ r.length _;rw[z.o];exact G⟩,I.grown R ϡ (λb Q=>by cases Q;exact Nat.le_refl _)⟩
end bf
end Go.Proofs.YtdohnkkbkfhphaaGreat
