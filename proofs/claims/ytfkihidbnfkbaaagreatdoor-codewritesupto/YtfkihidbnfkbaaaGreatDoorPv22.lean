import Derived.Test.YtfkihidbnfkbaaaGreatDoorPv18
set_option linter.all false
set_option maxHeartbeats 1000000
open Go.ChangeShapes Go.WideShapes Go.ChangeAt Go.RowKit List
open Inhabited renaming default->ϰ
namespace Go.Proofs.YtfkihidbnfkbaaaGreatDoor
open Go.Proofs.Tryz
namespace bf
open vl
variable {w : Ϡ} {base cap g hi i k lo m n size : Nat} {e : TypeId} {A B xs : List Value} {y : Ent} {l : List Ent}
theorem YV(t e:TypeId)(q:TypeInfo)(s:Nat)(G:Tryz.prog.underlying t=some (.slice e))(hi:Tryz.prog.info? e=some q)(H:q.size=s)(J:TypeId)(g o h u:Nat)(a:Addr)(p I:Nat)(c:Array Value)(r:TypeId)(b:List Value)(z:w.heap[g]? =some (.cells c r (0,0)))(D:b.length=Nat.min p h * s)
 (E:∀j v,b[j]? =some v->w.cell? (a.add j)=some v) (x:o+b.length<=c.size) (h1:∀v∈b,v.oneCell'=true):
 (Builtin.copy_ #[t,t] J #[vS (some ⟨g,o,none⟩) h u,vS (some a) p I]).run Tryz.prog w= .ok (goInt (Nat.min p h)) (w.setRow g (c.toList.take o++b++c.toList.drop (o+b.length)).toArray):=by
 have C:=run_loadCells_list (P:=Tryz.prog) w a b E;have F:=run_storeCells_at Tryz.prog g o r b 0 c w z (by simpa using x) h1;simp[Builtin.copy_,run_underlying G,Builtin.lenOf,Builtin.firstCells,sizeOf,typeInfo,hi,H,<-D,C,F]
theorem On(t e:TypeId)(c:TypeInfo)(s:Nat)(u:Tryz.prog.underlying t=some (.slice e))(hi:Tryz.prog.info? e=some c)(z:c.size=s)(D:TypeId)(d:ϡ)(b p:Nat)(a:ϡ)(o C:Nat)(r:Nat.min o b=0):
 (Builtin.copy_ #[t,t] D #[vS d b p,vS a o C]).run Tryz.prog w= .ok (goInt 0) w:=by
 have q:∀x,(loadCells x 0).run Tryz.prog w= .ok #[] w:=λx=>run_loadCells_list (P:=Tryz.prog) w x [] (λj v h=>by cases h)
 cases a<;>cases d<;>simp[Builtin.copy_,run_underlying u,Builtin.lenOf,Builtin.firstCells,sizeOf,typeInfo,hi,z,r,q,storeCells]
theorem Vu(s:Nat)(a b z S:List Value)(j:z.length=s):((a++(b++z)++S).take (a.length+s)++b++(a++(b++z)++S).drop (a.length+s+b.length))=(a++(b++z).take s++b)++S:=by
 have c:(a++(b++z)++S).take (a.length+s)=a++(b++z).take s:=by
  rw[append_assoc,take_length_add_append,take_append_of_le_length (by rw[lAp];omega)]
 have h:(a++(b++z)++S).drop (a.length+s+b.length)=S:=by
  rw[show a.length+s+b.length=(a++(b++z)).length by rw[lAp,lAp];omega];exact drop_left
 rw[c,h]
theorem AbG{w2:Ϡ}{na nb s:Nat}{o a z:List Value}(t e:TypeId)(D:TypeInfo)(p:Tryz.prog.underlying t=some (.slice e))(hi:Tryz.prog.info? e=some D)(X:D.size=s)
 (x:w2.ownsRow base e s (vS (ϋ g) (n+1) cap) (n+1) (o++a++z)) (G:o.length=na * s) (H:a.length=nb * s) (C:z.length=s) (V:na+nb=n) (af:∀u∈a,u.oneCell'=true)
 (E K:ϡ) (F L:Nat) (hd:0<nb->E=some ⟨g,(na+1) * s,none⟩) (hs:0<nb->K=some ⟨g,na * s,none⟩) (M:TypeId):
 ∃v,(Builtin.copy_ #[t,t] M #[vS E nb F,vS K (nb+1) L]).run Tryz.prog w2= .ok (goInt nb) v/\
  (∃y,y.length=s/\v.ownsRow base e s (vS (ϋ g) (n+1) cap) (n+1) (o++y++a))/\v.heap.size=w2.heap.size/\(∀b,b≠g->v.heap[b]? =w2.heap[b]?)/\Below g w2 v:=by
 have U:Nat.min (nb+1) nb=nb:=Nat.min_eq_right Ϥ;have J:((a++z).take s).length=s:=by rw[length_take,lAp,C];omega
 by_cases W:0<nb
 ·have Z:=hd W;have es:=hs W;subst Z es;rcases x.2 with⟨I,_⟩|⟨g',ah,c,I,h1,R,N,h3,h4,h5⟩
  ·cases I
  ·injection I with q e2 Y
   injection q with q
   injection q with q _ _
   subst q Y;have ac:∀j u,a[j]? =some u->w2.cell? ((⟨g,na * s,none⟩:Addr).add j)=some u:=λj u p=>by
    rw[Dk];have Q:=World.ownsRow.cells x (g:=g) rfl (na * s+j) u (by
     have hj:j<a.length:=by
      rcases Nat.lt_or_ge j a.length with h|h
      ·exact h
      ·rw[getElem?_eq_none h]at p;cases p
     rw[append_assoc,getElem?_append_right Ϥ,G,show na * s+j - na * s=j by omega,getElem?_append_left hj];exact p)
    rw[Dk,Nat.zero_add]at Q;exact Q
   have ad:(na+1) * s+a.length<=c.size:=by
    have h6:(n+1) * s<=cap * s:=Nat.mul_le_mul_right _ N;have O:(n+1) * s=(na+1) * s+nb * s:=by rw[<-V,show na+nb+1=(na+1)+nb by omega,Nat.add_mul]
    omega
   have r:=YV t e D s p hi X M g ((na+1) * s) nb F ⟨g,na * s,none⟩ (nb+1) L c e a R (by rw[U,H]) ac ad af;rw[U]at r;obtain⟨S,P⟩:∃S,c.toList=o++(a++z)++S:=⟨c.toList.drop ((n+1) * s),by
    have e:=take_append_drop ((n+1) * s) c.toList;rw[h5,append_assoc o a z]at e;exact e.symm⟩
   have h8:(na+1) * s=o.length+s:=by rw[Nat.add_mul,Nat.one_mul,G]
   have ae:c.toList.take ((na+1) * s)++a++c.toList.drop ((na+1) * s+a.length)=(o++(a++z).take s++a)++S:=by
    rw[P,h8];exact Vu s o a z S C
   rw[ae]at r;have T:(o++(a++z).take s++a).length=(n+1) * s:=by
    simp only[lAp,J,G,H];have O:(n+1) * s=(na+1) * s+nb * s:=by rw[<-V,show na+nb+1=(na+1)+nb by omega,Nat.add_mul]
    rw[O,Nat.add_mul,Nat.one_mul]
   have ag:c.size=((o++(a++z).take s++a)++S).length:=by
    have h9:c.size=c.toList.length:=Array.length_toList.symm;rw[h9,P];simp only[lAp,J,C];omega
   refine⟨_,r,⟨(a++z).take s,J,T,.inr ⟨g,cap,_,rfl,h1,setRow_heap w2 g c _ _ _ R,N,h3,?_,?_⟩⟩,by simp[World.setRow],λb hb=>setRow_other w2 g b _ hb,⟨rfl,rfl,rfl,by simp[World.setRow],λk hk=>setRow_other w2 g k _ Ϥ⟩⟩
   ·rw[size_toArray,<-ag];exact h4
   ·rw[<-T];exact take_left
 ·have aa:a=[]:=length_eq_zero_iff.1 (by rw[H,show nb=0 by omega,Nat.zero_mul]);have ab:nb=0:=Ϥ;subst aa ab;have r:=On (w:=w2) t e D s p hi X M E 0 F K 1 L rfl;refine⟨w2,r,⟨z,C,by rw[append_nil]at x⊢;exact x⟩,rfl,λb _=>rfl,bR⟩
theorem Vv(h:w.ownsRow base e size (vS (ϋ g) n cap) n xs)(j:Nat):Ξ w g j:=by
 rcases h.2 with⟨a,_⟩|⟨p,c,o,a,_,b,_⟩
 ·cases a
 ·cases a
  simp[World.frozen?,b]
theorem Aed{ad:ϡ}(h:w.ownsRow base e size (vS ad n cap) m xs):n<=cap:=by
 rcases h.2 with⟨a,o⟩|⟨g,c,j,a,_,_,b,_⟩
 ·cases a;exact Nat.le_refl _
 ·cases a;exact b
theorem AbH{v:Array Oper}{o:Oper}{a:Act}{j:Ϡ}{K:Act->World->Prop}{Q:Exit->Act->World->Prop}{E:Prop}(p:o.guard=none)(s x:Operand)
 (q:o.op= .call {callee:=.builtin .copy,args:=#[s,x],argTypes:=#[33,33]}) (b c v':Value) (t:a.eval s=b) (u:a.eval x=c)
 (r:(Builtin.copy_ #[33,33] o.type #[b,c]).run Tryz.prog w= .ok v' j) (h:K (a.put o.dst v') j):
 if Region.wanted o (yielded v a.tmps)=true then Oper.wp Tryz.prog o a w K Q else E:=by
 rw[if_pos (by simp[Region.wanted,p])];unfold Oper.wp;simp[execOp,q,resolve,invoke,builtin,t,u,r,Result.andThen];exact h
theorem Afx(w:Ϡ):(sizeOf 166).run Tryz.prog w= .ok 5 w:=ϧ
theorem AbI:Tryz.prog.elem 33=166:=ϧ
theorem AeC:Tryz.prog.underlying 33=some (.slice (Tryz.prog.elem 33)):=by rw[AbI];exact underlying33
theorem Xm(g n cap k:Nat)(b:k<=n)(c:n<=cap):∃a:Addr,(∀w,(Instr.sliceAt 33 (vS (ϋ g) n cap) (some (vI k)) none none).run Tryz.prog w= .ok (vS (some a) (n - k) (cap - k)) w)/\(k<n->a=⟨g,k * 5,none⟩):=by
 refine⟨if cap=k then⟨g,0,none⟩else⟨g,k * 5,none⟩,?_,λh=>by rw[if_neg Ϥ]⟩;intro w;rw[run_sliceAt_slice (t:=33) (h:=AeC),run_slice_l (t:=33) (ht:=AeC) (h0:=by omega) (h1:=by omega),AbI,Afx];simp[Result.andThen,sliced];split
 ·rfl
 ·simp[Addr.add];omega
theorem Ln(a b:List EM):Aw (a++b)=Aw a++Aw b:=by unfold Aw;rw[flatMap_append]
theorem Rt(l:List EM):∀u∈Aw l,u.oneCell'=true:=by
 intro u j;unfold Aw at j;obtain⟨e,_,h⟩:=mem_flatMap.1 j;obtain⟨k,t,s,⟨a,b,c⟩,m⟩:=e;simp[hdV]at h;rcases h with rfl|rfl|rfl|rfl|rfl<;>rfl
theorem YW{y:List Value}(p:A.length=i * 5)(hy:y.length=5)(a b c d e:Value):(((((A++y++B).set (i * 5) a).set (i * 5+1) b).set (i * 5+2) c).set (i * 5+3) d).set (i * 5+4) e=A++([a,b,c,d,e]++B):=by
 match y,hy with
 |[y0,y1,y2,y3,y4],_=>
  rw[append_assoc];have h:∀(j:Nat) (u:Value) (L:List Value),(A++L).set (i * 5+j) u=A++L.set j u:=λj u L=>by
   rw[set_append_right _ _ Ϥ,p,show i * 5+j - i * 5=j by omega]
  have o:=h 0 a;rw[Nat.add_zero]at o;rw[o,h 1,h 2,h 3,h 4];rfl
theorem AbJ{y:List Value}{j:Nat}{u:Value}(c:A.length=i)(a:y[j]? =some u):(A++y++B)[i+j]? =some u:=by
 have b:j<y.length:=by
  rcases Nat.lt_or_ge j y.length with h|h
  ·exact h
  ·rw[getElem?_eq_none h]at a;cases a
 rw[append_assoc,getElem?_append_right Ϥ,show i+j - A.length=j by omega,getElem?_append_left b];exact a
theorem Afy(h:m<l.length)(a:Ep l[m] y):hasB l (AK y)=true:=by
 unfold hasB;exact any_eq_true.2 ⟨l[m],getElem_mem h,by simpa using Mg.2 a⟩
structure Cut(l:List Ent)(y:Ent)(lo hi:Nat):Prop where
 le:lo<=hi
 top:hi<=l.length
 fst:∀i (h:i<l.length),i<lo->ltP l[i] y
 snd:∀i (h:i<l.length),hi<=i->ltP y l[i]
theorem Cut.start(l:List Ent)(y:Ent):Cut l y 0 l.length:=⟨Nat.zero_le _,Nat.le_refl _,λi _ h=>absurd h (Nat.not_lt_zero i),λi h a=>absurd h Ϥ⟩
theorem Cut.up(h:Cut l y lo hi)(p:DW l)(r:m<hi)(o:m<l.length)(q:lo<=m)(b:ltP l[m] y):Cut l y (m+1) hi:=
 ⟨Ϥ,h.top,λi j c=>by
  rcases Nat.lt_succ_iff_lt_or_eq.1 c with a|a
  ·exact CM (pairwise_iff_getElem.1 p i m j o a) b
  ·subst a;exact b,h.snd⟩
theorem Cut.down(h:Cut l y lo hi)(q:DW l)(r:m<hi)(o:m<l.length)(p:lo<=m)(b:ltP y l[m]):Cut l y lo m:=
 ⟨p,Ϥ,h.fst,λi j c=>by
  rcases Nat.lt_or_eq_of_le c with a|a
  ·exact CM b (pairwise_iff_getElem.1 q m i o j a)
  ·subst a;exact b⟩
theorem Cut.none(h:Cut l y k k):hasB l (AK y)=false:=by
 unfold hasB;refine any_eq_false.2 λx c=>?_;obtain⟨i,hi,rfl⟩:=getElem_of_mem c;have:¬AK l[i]=AK y:=λe=>by
  have a:=Mg.1 e;by_cases b:i<k
  ·exact O0 (h.fst i hi b) a
  ·exact O0 (h.snd i hi Ϥ) (JQ a)
 simpa using this
theorem Cut.rise(h:Cut l y k k)(q:DW l):DW (l.take k++y::l.drop k):=by
 refine pairwise_append.2 ⟨q.sublist (List.take_sublist _ _),pairwise_cons.2 ⟨λz r=>?_,q.sublist (List.drop_sublist _ _)⟩,λa ha b c=>?_⟩
 ·obtain⟨i,hi,rfl⟩:=getElem_of_mem r;rw[getElem_drop];exact h.snd _ _ Ϥ
 ·obtain⟨i,hi,rfl⟩:=getElem_of_mem ha;rw[getElem_take];have o:i<k:=by rw[length_take]at hi;omega
  have p:i<l.length:=by rw[length_take]at hi;omega
  rcases mem_cons.1 c with rfl|c
  ·exact h.fst i p o
  ·obtain⟨j,s,rfl⟩:=getElem_of_mem c;rw[getElem_drop];exact CM (h.fst i p o) (h.snd _ _ Ϥ)
theorem Cut.perm(k:Nat):(l.take k++y::l.drop k).Perm (y::l):=by
 have h:=perm_middle (a:=y) (l₁:=l.take k) (l₂:=l.drop k);rw[take_append_drop]at h;exact h
end bf
namespace bf
open vl
attribute [local go_sem] Oper.semAt_some
variable {d l : List Ent} {y : Ent} {f : Bool} {i k : Nat} {ps : List (List Ent)}
structure ES(done l:List Ent)(f:Bool):Prop where
 rise:DW l
 len:l.length<=done.length
 fine:f=true↔(done.map AK).Nodup
 perm:f=true->l.Perm done
 has:∀p,hasB l p=hasB done p
theorem ES.nil:ES [] [] true:=⟨List.Pairwise.nil,Nat.le_refl _,Ϧ,λ_=>List.Perm.refl _,λ_=>rfl⟩
theorem Ru(a b:List Ent)(p:Plc):hasB (a++b) p=(hasB a p||hasB b p):=by unfold hasB;rw[any_append]
theorem Xn{p:Plc}(h:hasB l p=true):p∈l.map AK:=by
 unfold hasB at h;obtain⟨x,a,e⟩:=any_eq_true.1 h;exact mem_map.2 ⟨x,a,by simpa using e⟩
theorem AbK(y:Ent)(l:List Ent)(p:Plc):hasB (y::l) p=(hasB [y] p||hasB l p):=Ru [y] l p
theorem Aee(h:hasB l (AK y)=true)(p:Plc)(k:hasB [y] p=true):hasB l p=true:=by
 have e:p=AK y:=by
  have:=Xn k;simpa using this
 rw[e];exact h
theorem Qi:((d++[y]).map AK).Nodup↔(d.map AK).Nodup/\hasB d (AK y)=false:=by
 rw[map_append,nodup_append]
 constructor
 ·rintro ⟨c,_,j⟩;refine⟨c,?_⟩
  cases e:hasB d (AK y)with
  |false=>rfl
  |true=>exact absurd rfl (j _ (Xn e) (AK y) Ϧ)
 ·rintro ⟨c,h⟩;refine⟨c,Ϧ,λa ha b o e=>?_⟩;have:b=AK y:=by simpa using o
  subst this;subst e;exact QO h ha
theorem ES.there(h:ES d l f)(hy:hasB l (AK y)=true):ES (d++[y]) l false:=by
 have a:hasB d (AK y)=true:=by rw[<-h.has];exact hy
 refine⟨h.rise,by have:=h.len;simp;omega,?_,(λe=>by cases e),λp=>?_⟩
 ·rw[Qi,a];simp
 ·rw[Ru,h.has p]
  cases e:hasB [y] p with
  |false=>simp
  |true=>rw[Aee a p e];rfl
theorem ES.more{b:List Ent}(h:ES d l f)(hy:hasB l (AK y)=false)(a:b.Perm (y::l))(j:DW b):ES (d++[y]) b f:=by
 have c:hasB d (AK y)=false:=by rw[<-h.has];exact hy
 refine⟨j,by have:=h.len;have:=a.length_eq;simp at *;omega,?_,λe=>?_,λp=>?_⟩
 ·rw[Qi,c,h.fine];simp
 ·exact a.trans (((h.perm e).cons y).trans (perm_append_singleton y d).symm)
 ·rw[Abi a,AbK,Ru,h.has p,Bool.or_comm]
theorem D9{α:Type}{l:List α}{d:α}(h:k<l.length):l.take (k+1)=l.take k++[l.getD k d]:=by
 rw[take_add_one,gDe,gEe h];rfl
def Hi(ps:List (List Ent))(i k:Nat):List Ent:=(ps.take i).flatten++(ps.getD i ϰ).take k
theorem Qj(h:k<(ps.getD i ϰ).length):Hi ps i (k+1)=Hi ps i k++[(ps.getD i ϰ).getD k ϰ]:=by
 unfold Hi;rw[D9 (d:=ϰ) h,append_assoc]
theorem LY(h:i<ps.length):Hi ps i (ps.getD i ϰ).length=(ps.take (i+1)).flatten:=by
 unfold Hi;rw[take_length,D9 (d:=ϰ) h,flatten_append,flatten_cons,flatten_nil,append_nil]
theorem Qk(ps:List (List Ent))(i:Nat):Hi ps i 0=(ps.take i).flatten:=by unfold Hi;simp
theorem Lo(h:i<ps.length):(Hi ps i k).length<=ps.flatten.length:=by
 have b:(Hi ps i k).length<=((ps.take (i+1)).flatten).length:=by
  rw[<-LY h];unfold Hi;rw[lAp,lAp];have:((ps.getD i ϰ).take k).length<=((ps.getD i ϰ).take (ps.getD i ϰ).length).length:=by
   rw[length_take,length_take];omega
  omega
 have a:ps.flatten=(ps.take (i+1)).flatten++(ps.drop (i+1)).flatten:=by rw[<-flatten_append,take_append_drop]
 rw[a,lAp];omega
end bf
namespace bf
open vl
theorem YX(a:ϡ)(cap:Nat)(r:List Cel)(w:Ϡ)(t:vl.rowAt w a r)(J:r.length<=2000000):
 χ 190 #[vS a r.length cap] w λe N=>(∃p c,e= .returned (vS p r.length c)/\AM N w (vS p r.length c) r)/\ϣ w N:=by
 obtain⟨q,hi,K,L,M⟩:=info_parts Tryz.infoV;have s:Ϣ (Tryz.prog.info? 119=some q/\q.zero=some (.agg #[Ϗ,Ϗ,ϐ])/\q.size=3/\q.bytes=32):=⟨hi,K,L,M⟩;clear hi K L M;have C:Ϣ ((w.alloc (.cells #[] 119)).ownsRow w 119 3 (vS (ϋ w) 0 0) 0 []):=World.ownsRow_made w #[] 0 nR (Nat.zero_le _) rfl;have H:ϣ w (ϊ w #[] 119):=ϯ;obtain⟨n,v⟩:∃n,r.length=n:=⟨_,rfl⟩;have z:=hV0 v
 cases a with
 |none=>
  have E:r=[]:=by
   cases r with
   |nil=>rfl
   |cons c r=>
    obtain⟨_,_,e,_⟩:=t 0 Ϧ
    cases e
  subst E;simp only[length_nil];clear t J v z;go_enter func190,ntmps190;go_wp2_with (at_builtin;refine Gn rfl (.tmp 3) (.tmp 4) 80 rfl w.heap.size 119 q 3 cap underlying80 s.o.1 _ _ _ rfl C.o rfl ?_);go_ret;exact⟨⟨_,_,rfl,C.o⟩,H⟩
 |some x=>
  have I:∀j u,(celCells r)[j]? =some u->(w.alloc (.cells #[] 119)).cell? (x.add j)=some u:=by
   intro j u G;have R:0<r.length:=by
    rcases Nat.eq_zero_or_pos r.length with h|h
    ·rw[length_eq_zero_iff.1 h]at G;cases G
    ·exact h
   obtain⟨b,o,e,_⟩:=t 0 R
   cases e
   exact cLz ϯ (F5 t j u G)
  have O:=hV0 I;rw[v]at J⊢;clear I t v;go_enter func190,ntmps190;go_wp2_with (at_builtin;refine wpList_append_own _ rfl (.tmp 3) (.tmp 4) 80 rfl w.heap.size 119 q (.agg #[Ϗ,Ϗ,ϐ]) 3 32 underlying80 s.o.1 s.o.2.1 s.o.2.2.1 s.o.2.2.2 rfl ϥ _ _ _ rfl C.o x n cap (celCells r) rfl (by rw[Ed,z.o]) O.o (EK r) Ϯ Ϥ Ϧ ?_;intro T U F Q X);rw[Nat.zero_add,nil_append]at F;obtain⟨p,D,S⟩:∃p D,T=vS p n D:=by
   rcases F.2 with⟨rfl,E⟩|⟨g,V,W,rfl,_⟩
   ·exact⟨none,0,by rw[E]⟩
   ·exact⟨_,_,rfl⟩
  subst S;go_ret;exact⟨⟨p,D,rfl,by show U.ownsRow _ _ _ _ r.length _;rw[z.o];exact F⟩,H.grown Q Ϧ (λb P=>by cases P;exact Nat.le_refl _)⟩
end bf
end Go.Proofs.YtfkihidbnfkbaaaGreatDoor
