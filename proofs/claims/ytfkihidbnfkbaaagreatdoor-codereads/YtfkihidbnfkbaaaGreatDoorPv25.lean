import Derived.Test.YtfkihidbnfkbaaaGreatDoorPv23
set_option linter.all false
set_option maxHeartbeats 1000000
open Inhabited renaming default->ϰ
open List renaming length->ϲ
namespace Go.Proofs.YtfkihidbnfkbaaaGreatDoor
open ChangeShapes WideShapes ChangeAt RowKit List Proofs.Tryz
namespace bf
open vl
variable {w : ϟ} {base cap g hi i k lo m n size : Nat} {e : TypeId} {A B xs : List Value} {y : Ent} {l : List Ent}
def Af3(h:w.ownsRow base e size (vS (ϋ g) n cap) n xs)(j:Nat):Ξ w g j:=by
 rcases h.2 with⟨e,_⟩|⟨p,c,o,b,a⟩
 ·cases e
 ·cases b
  simp[World.frozen?,a]
theorem AdE{W:ϟ}{b o:Nat}{v:Value}(h:Δ W b o v):W.setCell ⟨b,o,none⟩ v=W:=by
 unfold World.cell? at h;unfold World.setCell;dsimp only at h⊢
 cases hb:W.heap[b]? with
 |none=>rw[hb]at h;cases h
 |some x=>
  rw[hb]at h
  cases x with
  |cells c t f=>
   simp only[Option.isSome_none,dE,bK]at h;have r:W.heap.modify b (λx=>match x with
    | .cells c elem frozen=>.cells (if (none:Option Nat).isSome then c else c.setIfInBounds o v) elem frozen
    |o=>o)=W.heap:=by
    refine eZ ϥ (λi D p=>?_);rw[fy];by_cases e:b=i
    ·subst e;have u:W.heap[b]= .cells c t f:=by
      have:=Array.getElem?_eq_getElem p;rw[hb]at this;injection this with this
      exact this.symm
     rw[AE rfl,u];dsimp only;have q:c.setIfInBounds o v=c:=by
      obtain⟨E,s⟩:=GS.1 h;refine eZ ϥ (λj F C=>?_);rw[Array.getElem_setIfInBounds C];by_cases a:o=j
      ·subst a;simp[s]
      ·simp[a]
     simp[q]
    ·rw[AC e]
   exact Bk (λz:Array Obj=>{W with heap:=z}) r
  |_=>cases h
theorem AaT(t e:TypeId)(q:TypeInfo)(s:Nat)(G:prog.underlying t=some (.slice e))(hi:prog.info? e=some q)(H:q.size=s)(J:TypeId)(g o h u:Nat)(a:Addr)(p I:Nat)(c:Array Value)(r:TypeId)(b:List Value)(z:w.heap[g]? =some (.cells c r (0,0)))(D:ϲ b=Nat.min p h * s)
 (E:∀j v,b[j]? =some v->w.cell? (a.add j)=some v) (x:o+ϲ b<=c.size) (h1:∀v∈b,v.oneCell'=true):
 (Builtin.copy_ #[t,t] J #[vS (some ⟨g,o,none⟩) h u,vS (some a) p I]).run prog w= .ok (goInt (Nat.min p h)) (w.setRow g (c.toList.take o++b++c.toList.drop (o+ϲ b)).toArray):=by
 have C:=run_loadCells_list (P:=prog) w a b E;have F:=run_storeCells_at prog g o r b 0 c w z (by simpa using x) h1;simp[Builtin.copy_,aC G,Builtin.lenOf,Builtin.firstCells,sizeOf,typeInfo,hi,H,<-D,C,F]
def PC(t e:TypeId)(c:TypeInfo)(s:Nat)(u:prog.underlying t=some (.slice e))(hi:prog.info? e=some c)(z:c.size=s)(D:TypeId)(d:Ϡ)(b p:Nat)(a:Ϡ)(o C:Nat)(r:Nat.min o b=0):
 (Builtin.copy_ #[t,t] D #[vS d b p,vS a o C]).run prog w= .ok (goInt 0) w:=by
 have q:∀x,(loadCells x 0).run prog w= .ok #[] w:=λx=>run_loadCells_list (P:=prog) w x [] (λj v h=>by cases h)
 cases a<;>cases d<;>simp[Builtin.copy_,aC u,Builtin.lenOf,Builtin.firstCells,sizeOf,typeInfo,hi,z,r,q,storeCells]
def X8(s:Nat)(a b z S:List Value)(j:ϲ z=s):((a++(b++z)++S).take (ϲ a+s)++b++(a++(b++z)++S).drop (ϲ a+s+ϲ b))=(a++(b++z).take s++b)++S:=by
 have c:(a++(b++z)++S).take (ϲ a+s)=a++(b++z).take s:=by
  rw[Bx,take_length_add_append,take_append_of_le_length (by rw[lAp];omega)]
 have h:(a++(b++z)++S).drop (ϲ a+s+ϲ b)=S:=by
  rw[show (ϲ a)+s+ϲ b=ϲ (a++(b++z)) by rw[lAp,lAp];omega];exact drop_left
 rw[c,h]
theorem AdF{w2:ϟ}{na nb s:Nat}{o a z:List Value}(t e:TypeId)(D:TypeInfo)(p:prog.underlying t=some (.slice e))(hi:prog.info? e=some D)(X:D.size=s)
 (x:w2.ownsRow base e s (vS (ϋ g) (n+1) cap) (n+1) (o++a++z)) (G:ϲ o=na * s) (H:ϲ a=nb * s) (C:ϲ z=s) (V:na+nb=n) (af:∀u∈a,u.oneCell'=true)
 (E K:Ϡ) (F L:Nat) (hd:0<nb->E=some ⟨g,(na+1) * s,none⟩) (hs:0<nb->K=some ⟨g,na * s,none⟩) (M:TypeId):
 ∃v,(Builtin.copy_ #[t,t] M #[vS E nb F,vS K (nb+1) L]).run prog w2= .ok (goInt nb) v/\
  (∃y,ϲ y=s/\v.ownsRow base e s (vS (ϋ g) (n+1) cap) (n+1) (o++y++a))/\v.heap.size=w2.heap.size/\(∀b,b≠g->v.heap[b]? =w2.heap[b]?)/\Below g w2 v:=by
 have U:Nat.min (nb+1) nb=nb:=Nat.min_eq_right ϣ;have J:ϲ ((a++z).take s)=s:=by rw[DA,lAp,C];omega
 by_cases W:0<nb
 ·have Z:=hd W;have es:=hs W;subst Z es;rcases x.2 with⟨I,_⟩|⟨g',ah,c,I,h1,R,N,h3,h4,h5⟩
  ·cases I
  ·injection I with q e2 Y
   injection q with q
   injection q with q _ _
   subst q Y;have ac:∀j u,a[j]? =some u->w2.cell? ((⟨g,na * s,none⟩:Addr).add j)=some u:=λj u p=>by
    rw[Di];have Q:=RT x (g:=g) rfl (na * s+j) u (by
     have hj:j<ϲ a:=by
      rcases RN j (ϲ a) with h|h
      ·exact h
      ·rw[cR h]at p;cases p
     rw[Bx,bB ϣ,G,show na * s+j - na * s=j by omega,aM hj];exact p)
    rw[Di,Fr]at Q;exact Q
   have ad:(na+1) * s+ϲ a<=c.size:=by
    have h6:(n+1) * s<=cap * s:=cY _ N;have O:(n+1) * s=(na+1) * s+nb * s:=by rw[<-V,show na+nb+1=(na+1)+nb by omega,bL]
    omega
   have r:=AaT t e D s p hi X M g ((na+1) * s) nb F ⟨g,na * s,none⟩ (nb+1) L c e a R (by rw[U,H]) ac ad af;rw[U]at r;obtain⟨S,P⟩:∃S,c.toList=o++(a++z)++S:=⟨c.toList.drop ((n+1) * s),by
    have e:=PP ((n+1) * s) c.toList;rw[h5,Bx o a z]at e;exact e.symm⟩
   have h8:(na+1) * s=ϲ o+s:=by rw[bL,dS,G]
   have ae:c.toList.take ((na+1) * s)++a++c.toList.drop ((na+1) * s+ϲ a)=(o++(a++z).take s++a)++S:=by
    rw[P,h8];exact X8 s o a z S C
   rw[ae]at r;have T:ϲ (o++(a++z).take s++a)=(n+1) * s:=by
    simp only[lAp,J,G,H];have O:(n+1) * s=(na+1) * s+nb * s:=by rw[<-V,show na+nb+1=(na+1)+nb by omega,bL]
    rw[O,bL,dS]
   have ag:c.size=ϲ ((o++(a++z).take s++a)++S):=by
    have h9:c.size=ϲ c.toList:=bS.symm;rw[h9,P];simp only[lAp,J,C];omega
   refine⟨_,r,⟨(a++z).take s,J,T,.inr ⟨g,cap,_,rfl,h1,setRow_heap w2 g c _ _ _ R,N,h3,?_,?_⟩⟩,by simp[World.setRow],λb hb=>setRow_other w2 g b _ hb,⟨rfl,rfl,rfl,by simp[World.setRow],λk hk=>setRow_other w2 g k _ ϣ⟩⟩
   ·rw[St,<-ag];exact h4
   ·rw[<-T];exact take_left
 ·have aa:a=[]:=aL.1 (by rw[H,show nb=0 by omega,bU]);have ab:nb=0:=ϣ;subst aa ab;have r:=PC (w:=w2) t e D s p hi X M E 0 F K 1 L rfl;refine⟨w2,r,⟨z,C,by rw[Nd]at x⊢;exact x⟩,rfl,λb _=>rfl,bR⟩
def X9(h:w.ownsRow base e size (vS (ϋ g) n cap) n xs)(j:Nat):Ξ w g j:=by
 rcases h.2 with⟨a,_⟩|⟨p,c,o,a,_,b,_⟩
 ·cases a
 ·cases a
  simp[World.frozen?,b]
def Af4{ad:Ϡ}(h:w.ownsRow base e size (vS ad n cap) m xs):n<=cap:=by
 rcases h.2 with⟨a,o⟩|⟨g,c,j,a,_,_,b,_⟩
 ·cases a;exact HU _
 ·cases a;exact b
def AdG{v:Array Oper}{o:Oper}{a:Act}{w':ϟ}{K:Act->World->Prop}{Q:Exit->Act->World->Prop}{E:Prop}(p:o.guard=none)(s x:Operand)
 (q:o.op= .call {callee:=.builtin .copy,args:=#[s,x],argTypes:=#[33,33]}) (c j b:Value) (t:a.eval s=c) (u:a.eval x=j)
 (r:(Builtin.copy_ #[33,33] o.type #[c,j]).run prog w= .ok b w') (h:K (a.put o.dst b) w'):
 if Region.wanted o (yielded v a.tmps)=true then Oper.wp prog o a w K Q else E:=by
 rw[AE (by simp[Region.wanted,p])];unfold Oper.wp;simp[execOp,q,resolve,invoke,builtin,t,u,r,Result.andThen];exact h
def AgG(w:ϟ):(sizeOf 166).run prog w= .ok 5 w:=Ϧ
def AdH:prog.elem 33=166:=Ϧ
def AfS:prog.underlying 33=some (.slice (prog.elem 33)):=by rw[AdH];exact underlying33
def YH(g n cap k:Nat)(b:k<=n)(c:n<=cap):∃a:Addr,(∀w,(Instr.sliceAt 33 (vS (ϋ g) n cap) (some (vI k)) none none).run prog w= .ok (vS (some a) (n - k) (cap - k)) w)/\(k<n->a=⟨g,k * 5,none⟩):=by
 refine⟨if cap=k then⟨g,0,none⟩else⟨g,k * 5,none⟩,?_,λh=>by rw[AC ϣ]⟩;intro w;rw[run_sliceAt_slice (t:=33) (h:=AfS),run_slice_l (t:=33) (ht:=AfS) (h0:=by omega) (h1:=by omega),AdH,AgG];simp[Result.andThen,sliced];split
 ·rfl
 ·simp[Addr.add];omega
def Mb(a b:List EM):Ap (a++b)=Ap a++Ap b:=by unfold Ap;rw[SN]
def SP(l:List EM):∀u∈Ap l,u.oneCell'=true:=by
 intro u j;unfold Ap at j;obtain⟨e,_,h⟩:=eI.1 j;obtain⟨k,t,s,⟨a,b,c⟩,m⟩:=e;simp[hdV]at h;rcases h with rfl|rfl|rfl|rfl|rfl<;>rfl
theorem AaU{y:List Value}(p:ϲ A=i * 5)(hy:ϲ y=5)(a b c d e:Value):(((((A++y++B).set (i * 5) a).set (i * 5+1) b).set (i * 5+2) c).set (i * 5+3) d).set (i * 5+4) e=A++([a,b,c,d,e]++B):=by
 match y,hy with
 |[y0,y1,y2,y3,y4],_=>
  rw[Bx];have h:∀(j:Nat) (u:Value) (L:List Value),(A++L).set (i * 5+j) u=A++L.set j u:=λj u L=>by
   rw[set_append_right _ _ ϣ,p,show i * 5+j - i * 5=j by omega]
  have o:=h 0 a;rw[aE]at o;rw[o,h 1,h 2,h 3,h 4];rfl
def AdI{y:List Value}{j:Nat}{u:Value}(c:ϲ A=i)(a:y[j]? =some u):(A++y++B)[i+j]? =some u:=by
 have b:j<ϲ y:=by
  rcases RN j (ϲ y) with h|h
  ·exact h
  ·rw[cR h]at a;cases a
 rw[Bx,bB ϣ,show i+j - ϲ A=j by omega,aM b];exact a
def AgH(h:m<ϲ l)(a:Er l[m] y):hasB l (AJ y)=true:=by
 unfold hasB;exact bP.2 ⟨l[m],GE h,by simpa using M3.2 a⟩
structure Cut(l:List Ent)(y:Ent)(lo hi:Nat):Prop where
 le:lo<=hi
 top:hi<=ϲ l
 fst:∀i (h:i<ϲ l),i<lo->ltP l[i] y
 snd:∀i (h:i<ϲ l),hi<=i->ltP y l[i]
def Cut.start(l:List Ent)(y:Ent):Cut l y 0 (ϲ l):=⟨At _,HU _,λi _ h=>absurd h (CA i),λi h a=>absurd h ϣ⟩
def Cut.up(h:Cut l y lo hi)(p:DV l)(r:m<hi)(o:m<ϲ l)(q:lo<=m)(b:ltP l[m] y):Cut l y (m+1) hi:=
 ⟨ϣ,h.top,λi j c=>by
  rcases Fm.1 c with a|a
  ·exact CF (aA.1 p i m j o a) b
  ·subst a;exact b,h.snd⟩
def Cut.down(h:Cut l y lo hi)(q:DV l)(r:m<hi)(o:m<ϲ l)(p:lo<=m)(b:ltP y l[m]):Cut l y lo m:=
 ⟨p,ϣ,h.fst,λi j c=>by
  rcases Nat.lt_or_eq_of_le c with a|a
  ·exact CF b (aA.1 q m i o j a)
  ·subst a;exact b⟩
def Cut.none(h:Cut l y k k):hasB l (AJ y)=false:=by
 unfold hasB;refine cS.2 λx c=>?_;obtain⟨i,hi,rfl⟩:=LT c;have:¬AJ l[i]=AJ y:=λe=>by
  have a:=M3.1 e;by_cases b:i<k
  ·exact NN (h.fst i hi b) a
  ·exact NN (h.snd i hi ϣ) (Kh a)
 simpa using this
def Cut.rise(h:Cut l y k k)(q:DV l):DV (l.take k++y::l.drop k):=by
 refine eO.2 ⟨q.sublist (List.take_sublist _ _),WF.2 ⟨λz r=>?_,q.sublist (List.drop_sublist _ _)⟩,λa ha b c=>?_⟩
 ·obtain⟨i,hi,rfl⟩:=LT r;rw[fz];exact h.snd _ _ ϣ
 ·obtain⟨i,hi,rfl⟩:=LT ha;rw[bY];have o:i<k:=by rw[DA]at hi;omega
  have p:i<ϲ l:=by rw[DA]at hi;omega
  rcases E3.1 c with rfl|c
  ·exact h.fst i p o
  ·obtain⟨j,s,rfl⟩:=LT c;rw[fz];exact CF (h.fst i p o) (h.snd _ _ ϣ)
def Cut.perm(k:Nat):(l.take k++y::l.drop k).Perm (y::l):=by
 have h:=perm_middle (a:=y) (l₁:=l.take k) (l₂:=l.drop k);rw[PP]at h;exact h
attribute [local go_sem] Oper.semAt_some
variable {d l : List Ent} {y : Ent} {f : Bool} {i k : Nat} {ps : List (List Ent)}
structure ES(done l:List Ent)(f:Bool):Prop where
 rise:DV l
 len:ϲ l<=ϲ done
 fine:f=true↔(done.map AJ).Nodup
 perm:f=true->l.Perm done
 has:∀p,hasB l p=hasB done p
def ES.nil:ES [] [] true:=⟨eX,HU _,ϥ,λ_=>eR _,λ_=>rfl⟩
def SQ(a b:List Ent)(p:Plc):hasB (a++b) p=(hasB a p||hasB b p):=by unfold hasB;rw[any_append]
def YI{p:Plc}(h:hasB l p=true):p∈l.map AJ:=by
 unfold hasB at h;obtain⟨x,a,e⟩:=bP.1 h;exact DS.2 ⟨x,a,by simpa using e⟩
def AdJ(y:Ent)(l:List Ent)(p:Plc):hasB (y::l) p=(hasB [y] p||hasB l p):=SQ [y] l p
def Af5(h:hasB l (AJ y)=true)(p:Plc)(k:hasB [y] p=true):hasB l p=true:=by
 have e:p=AJ y:=by
  have:=YI k;simpa using this
 rw[e];exact h
theorem Rc:((d++[y]).map AJ).Nodup↔(d.map AJ).Nodup/\hasB d (AJ y)=false:=by
 rw[DQ,aK]
 constructor
 ·rintro ⟨c,_,j⟩;refine⟨c,?_⟩
  cases e:hasB d (AJ y)with
  |false=>rfl
  |true=>exact absurd rfl (j _ (YI e) (AJ y) ϥ)
 ·rintro ⟨c,h⟩;refine⟨c,ϥ,λa ha b o e=>?_⟩;have:b=AJ y:=by simpa using o
  subst this;subst e;exact RO h ha
theorem ES.there(h:ES d l f)(hy:hasB l (AJ y)=true):ES (d++[y]) l false:=by
 have a:hasB d (AJ y)=true:=by rw[<-h.has];exact hy
 refine⟨h.rise,by have:=h.len;simp;omega,?_,(λe=>by cases e),λp=>?_⟩
 ·rw[Rc,a];simp
 ·rw[SQ,h.has p]
  cases e:hasB [y] p with
  |false=>simp
  |true=>rw[Af5 a p e];rfl
def ES.more{b:List Ent}(h:ES d l f)(hy:hasB l (AJ y)=false)(a:b.Perm (y::l))(j:DV b):ES (d++[y]) b f:=by
 have c:hasB d (AJ y)=false:=by rw[<-h.has];exact hy
 refine⟨j,by have:=h.len;have:=a.length_eq;simp at *;omega,?_,λe=>?_,λp=>?_⟩
 ·rw[Rc,c,h.fine];simp
 ·exact a.trans (((h.perm e).cons y).trans (perm_append_singleton y d).symm)
 ·rw[Acd a,AdJ,SQ,h.has p,Bool.or_comm]
def Dk{α:Type}{l:List α}{d:α}(h:k<ϲ l):l.take (k+1)=l.take k++[l.getD k d]:=by
 rw[take_add_one,gDe,gEe h];rfl
def Ig(ps:List (List Ent))(i k:Nat):List Ent:=(ps.take i).flatten++(ps.getD i ϰ).take k
def Re(h:k<ϲ (ps.getD i ϰ)):Ig ps i (k+1)=Ig ps i k++[(ps.getD i ϰ).getD k ϰ]:=by
 unfold Ig;rw[Dk (d:=ϰ) h,Bx]
def MI(h:i<ϲ ps):Ig ps i (ϲ (ps.getD i ϰ))=(ps.take (i+1)).flatten:=by
 unfold Ig;rw[Ok,Dk (d:=ϰ) h,cE,aQ,eV,Nd]
def Rf(ps:List (List Ent))(i:Nat):Ig ps i 0=(ps.take i).flatten:=by unfold Ig;simp
def Mc(h:i<ϲ ps):ϲ (Ig ps i k)<=ϲ ps.flatten:=by
 have b:ϲ (Ig ps i k)<=ϲ ((ps.take (i+1)).flatten):=by
  rw[<-MI h];unfold Ig;rw[lAp,lAp];have:ϲ ((ps.getD i ϰ).take k)<=ϲ ((ps.getD i ϰ).take (ϲ (ps.getD i ϰ))):=by
   rw[DA,DA];omega
  omega
 have a:ps.flatten=(ps.take (i+1)).flatten++(ps.drop (i+1)).flatten:=by rw[<-cE,PP]
 rw[a,lAp];omega
end bf
namespace bf
open vl
theorem AaV(a:Ϡ)(cap:Nat)(r:List Cel)(w:ϟ)(t:vl.rowAt w a r)(J:ϲ r<=2000000):
 χ 190 #[vS a (ϲ r) cap] w λe N=>(∃p c,e= .returned (vS p (ϲ r) c)/\AF N w (vS p (ϲ r) c) r)/\Ϣ w N:=by
 obtain⟨q,hi,K,L,M⟩:=IR Tryz.infoV;have s:ϡ (prog.info? 119=some q/\q.zero=some (.agg #[Ϗ,Ϗ,ϐ])/\q.size=3/\q.bytes=32):=⟨hi,K,L,M⟩;clear hi K L M;have C:ϡ ((w.alloc (.cells #[] 119)).ownsRow w 119 3 (vS (ϋ w) 0 0) 0 []):=eF w #[] 0 nR (At _) rfl;have H:Ϣ w (ϊ w #[] 119):=Ϯ;obtain⟨n,v⟩:∃n,ϲ r=n:=⟨_,rfl⟩;have z:=hV0 v
 cases a with
 |none=>
  have E:r=[]:=by
   cases r with
   |nil=>rfl
   |cons c r=>
    obtain⟨_,_,e,_⟩:=t 0 ϥ
    cases e
  subst E;simp only[NS];clear t J v z;go_enter func190,ntmps190;go_wp2_with (at_builtin;refine Gv rfl (.tmp 3) (.tmp 4) 80 rfl w.heap.size 119 q 3 cap underlying80 s.o.1 _ _ _ rfl C.o rfl ?_);go_ret;exact⟨⟨_,_,rfl,C.o⟩,H⟩
 |some x=>
  have I:∀j u,(celCells r)[j]? =some u->(w.alloc (.cells #[] 119)).cell? (x.add j)=some u:=by
   intro j u G;have R:0<ϲ r:=by
    rcases dP (ϲ r) with h|h
    ·rw[aL.1 h]at G;cases G
    ·exact h
   obtain⟨b,o,e,_⟩:=t 0 R
   cases e
   exact cLz Ϯ (FH t j u G)
  have O:=hV0 I;rw[v]at J⊢;clear I t v;go_enter func190,ntmps190;go_wp2_with (at_builtin;refine Vc _ rfl (.tmp 3) (.tmp 4) 80 rfl w.heap.size 119 q (.agg #[Ϗ,Ϗ,ϐ]) 3 32 underlying80 s.o.1 s.o.2.1 s.o.2.2.1 s.o.2.2.2 rfl Ϥ _ _ _ rfl C.o x n cap (celCells r) rfl (by rw[Eb,z.o]) O.o (Fc r) ϭ ϣ ϥ ?_;intro T U F Q X);rw[Fr,JV]at F;obtain⟨p,D,S⟩:∃p D,T=vS p n D:=by
   rcases F.2 with⟨rfl,E⟩|⟨g,V,W,rfl,_⟩
   ·exact⟨none,0,by rw[E]⟩
   ·exact⟨_,_,rfl⟩
  subst S;go_ret;exact⟨⟨p,D,rfl,by show U.ownsRow _ _ _ _ (ϲ r) _;rw[z.o];exact F⟩,H.grown Q ϥ (λb P=>by cases P;exact HU _)⟩
end bf
