import Derived.Test.YtdohnkkbkfhphaaGreatPc20
set_option linter.all false
set_option maxHeartbeats 1000000
namespace Go.Proofs.YtdohnkkbkfhphaaGreat
open Go.Proofs.Tryz
namespace bf
open Go.ChangeShapes Go.WideShapes Go.ChangeAt Go.RowKit
open vl
variable {w : World} {base cap g hi i k lo m n size : Nat} {e : TypeId} {A B xs : List Value} {y : Ent} {l : List Ent}
theorem Sj(t e:TypeId)(i0:TypeInfo)(s:Nat)(hu:Tryz.prog.underlying t=some (.slice e))(hi:Tryz.prog.info? e=some i0)(hz1:i0.size=s)(ty:TypeId)(g o dLen dCap:Nat)(a:Addr)(sLen sCap:Nat)(cur:Array Value)(te:TypeId)(cs:List Value)(hg:w.heap[g]? =some (.cells cur te (0,0)))(hn:cs.length=Nat.min sLen dLen * s)
 (hsrc:∀j v,cs[j]? =some v->w.cell? (a.add j)=some v) (hfit:o+cs.length<=cur.size) (h1:∀v∈cs,v.oneCell'=true):
 (Builtin.copy_ #[t,t] ty #[.slice (some ⟨g,o,none⟩) dLen dCap,.slice (some a) sLen sCap]).run Tryz.prog w= .ok (goInt (Nat.min sLen dLen)) (w.setRow g (cur.toList.take o++cs++cur.toList.drop (o+cs.length)).toArray):=by
 have hl:=run_loadCells_list (P:=Tryz.prog) w a cs hsrc
 have hst:=run_storeCells_at Tryz.prog g o te cs 0 cur w hg (by simpa using hfit) h1
 simp[Builtin.copy_,run_underlying hu,Builtin.lenOf,Builtin.firstCells,sizeOf,typeInfo,hi,hz1,<-hn,hl,hst]
theorem JP(t e:TypeId)(i0:TypeInfo)(s:Nat)(hu:Tryz.prog.underlying t=some (.slice e))(hi:Tryz.prog.info? e=some i0)(hz1:i0.size=s)(ty:TypeId)(d:Option Addr)(dLen dCap:Nat)(a:Option Addr)(sLen sCap:Nat)(hn:Nat.min sLen dLen=0):
 (Builtin.copy_ #[t,t] ty #[.slice d dLen dCap,.slice a sLen sCap]).run Tryz.prog w= .ok (goInt 0) w:=by
 have hl:∀x,(loadCells x 0).run Tryz.prog w= .ok #[] w:=fun x=>run_loadCells_list (P:=Tryz.prog) w x [] (fun j v h=>by cases h)
 cases a<;>cases d<;>simp[Builtin.copy_,run_underlying hu,Builtin.lenOf,Builtin.firstCells,sizeOf,typeInfo,hi,hz1,hn,hl,storeCells]
theorem PD(s:Nat)(fA fB z S:List Value)(hz:z.length=s):((fA++(fB++z)++S).take (fA.length+s)++fB++(fA++(fB++z)++S).drop (fA.length+s+fB.length))=(fA++(fB++z).take s++fB)++S:=by
 have h1:(fA++(fB++z)++S).take (fA.length+s)=fA++(fB++z).take s:=by
  rw[List.append_assoc,List.take_length_add_append,List.take_append_of_le_length (by rw[lAp];omega)]
 have h2:(fA++(fB++z)++S).drop (fA.length+s+fB.length)=S:=by
  rw[show fA.length+s+fB.length=(fA++(fB++z)).length by rw[lAp,lAp];omega]
  exact List.drop_left
 rw[h1,h2]
theorem Ul{w2:World}{na nb s:Nat}{fA fB z:List Value}(t e:TypeId)(i0:TypeInfo)(hu:Tryz.prog.underlying t=some (.slice e))(hi:Tryz.prog.info? e=some i0)(hz1:i0.size=s)
 (hown2:w2.ownsRow base e s (.slice (some ⟨g,0,none⟩) (n+1) cap) (n+1) (fA++fB++z)) (hA:fA.length=na * s) (hB:fB.length=nb * s) (hz:z.length=s) (hn:na+nb=n) (hone:∀u∈fB,u.oneCell'=true)
 (d2 s2:Option Addr) (dc sc:Nat) (hd:0<nb->d2=some ⟨g,(na+1) * s,none⟩) (hs:0<nb->s2=some ⟨g,na * s,none⟩) (ty:TypeId):
 ∃w3,(Builtin.copy_ #[t,t] ty #[.slice d2 nb dc,.slice s2 (nb+1) sc]).run Tryz.prog w2= .ok (goInt nb) w3/\
  (∃y,y.length=s/\w3.ownsRow base e s (.slice (some ⟨g,0,none⟩) (n+1) cap) (n+1) (fA++y++fB))/\w3.heap.size=w2.heap.size/\(∀b,b≠g->w3.heap[b]? =w2.heap[b]?)/\Below g w2 w3:=by
 have hmin:Nat.min (nb+1) nb=nb:=Nat.min_eq_right (by omega)
 have hyl:((fB++z).take s).length=s:=by rw[List.length_take,lAp,hz];omega
 by_cases hnb:0<nb
 ·have ed:=hd hnb
  have es:=hs hnb
  subst ed es
  rcases hown2.2 with⟨hv,_⟩|⟨g',cap',cur,hv,h1,hg,h2,h3,h4,h5⟩
  ·cases hv
  ·injection hv with e1 e2 e3
   injection e1 with e1
   injection e1 with e1 _ _
   subst e1 e3
   have hcs:∀j u,fB[j]? =some u->w2.cell? ((⟨g,na * s,none⟩:Addr).add j)=some u:=fun j u hu=>by
    rw[Cl]
    have hc:=World.ownsRow.cells hown2 (g:=g) rfl (na * s+j) u (by
     have hj:j<fB.length:=by
      rcases Nat.lt_or_ge j fB.length with h|h
      ·exact h
      ·rw[List.getElem?_eq_none h]at hu;cases hu
     rw[List.append_assoc,List.getElem?_append_right (by omega),hA,show na * s+j - na * s=j by omega,List.getElem?_append_left hj]
     exact hu)
    rw[Cl,Nat.zero_add]at hc
    exact hc
   have hfit:(na+1) * s+fB.length<=cur.size:=by
    have h6:(n+1) * s<=cap * s:=Nat.mul_le_mul_right _ h2
    have h7:(n+1) * s=(na+1) * s+nb * s:=by rw[<-hn,show na+nb+1=(na+1)+nb by omega,Nat.add_mul]
    omega
   have hrun:=Sj t e i0 s hu hi hz1 ty g ((na+1) * s) nb dc ⟨g,na * s,none⟩ (nb+1) sc cur e fB hg (by rw[hmin,hB]) hcs hfit hone
   rw[hmin]at hrun
   obtain⟨S,hS⟩:∃S,cur.toList=fA++(fB++z)++S:=⟨cur.toList.drop ((n+1) * s),by
    have e:=List.take_append_drop ((n+1) * s) cur.toList
    rw[h5,List.append_assoc fA fB z]at e
    exact e.symm⟩
   have h8:(na+1) * s=fA.length+s:=by rw[Nat.add_mul,Nat.one_mul,hA]
   have hnew:cur.toList.take ((na+1) * s)++fB++cur.toList.drop ((na+1) * s+fB.length)=(fA++(fB++z).take s++fB)++S:=by
    rw[hS,h8]
    exact PD s fA fB z S hz
   rw[hnew]at hrun
   have hlen:(fA++(fB++z).take s++fB).length=(n+1) * s:=by
    simp only[lAp,hyl,hA,hB]
    have h7:(n+1) * s=(na+1) * s+nb * s:=by rw[<-hn,show na+nb+1=(na+1)+nb by omega,Nat.add_mul]
    rw[h7,Nat.add_mul,Nat.one_mul]
   have hsz:cur.size=((fA++(fB++z).take s++fB)++S).length:=by
    have h9:cur.size=cur.toList.length:=Array.length_toList.symm
    rw[h9,hS]
    simp only[lAp,hyl,hz]
    omega
   refine⟨_,hrun,⟨(fB++z).take s,hyl,hlen,.inr ⟨g,cap,_,rfl,h1,setRow_heap w2 g cur _ _ _ hg,h2,h3,?_,?_⟩⟩,by simp[World.setRow],fun b hb=>setRow_other w2 g b _ hb,⟨rfl,rfl,rfl,by simp[World.setRow],fun k hk=>setRow_other w2 g k _ (by omega)⟩⟩
   ·rw[List.size_toArray,<-hsz];exact h4
   ·rw[<-hlen]
    exact List.take_left
 ·have hB0:fB=[]:=List.length_eq_zero_iff.1 (by rw[hB,show nb=0 by omega,Nat.zero_mul])
  have hb0:nb=0:=by omega
  subst hB0 hb0
  have hrun:=JP (w:=w2) t e i0 s hu hi hz1 ty d2 0 dc s2 1 sc rfl
  refine⟨w2,hrun,⟨z,hz,by rw[List.append_nil]at hown2⊢;exact hown2⟩,rfl,fun b _=>rfl,bR⟩
theorem PE(h:w.ownsRow base e size (.slice (some ⟨g,0,none⟩) n cap) n xs)(j:Nat):w.frozen? ⟨g,j,none⟩=false:=by
 rcases h.2 with⟨hv,_⟩|⟨g',cap',cur,hv,_,hg,_⟩
 ·cases hv
 ·cases hv
  simp[World.frozen?,hg]
theorem MQ{ad:Option Addr}(h:w.ownsRow base e size (.slice ad n cap) m xs):n<=cap:=by
 rcases h.2 with⟨hv,h0⟩|⟨g,c,cur,hv,_,_,hc,_⟩
 ·cases hv;exact Nat.le_refl _
 ·cases hv;exact hc
theorem Um{ops:Array Oper}{o:Oper}{a:Act}{w':World}{K:Act->World->Prop}{Q:Exit->Act->World->Prop}{E:Prop}(hgd:o.guard=none)(s x:Operand)
 (hop:o.op= .call {callee:=.builtin .copy,args:=#[s,x],argTypes:=#[26,26]}) (vs vx v':Value) (hs:a.eval s=vs) (hx:a.eval x=vx)
 (hrun:(Builtin.copy_ #[26,26] o.type #[vs,vx]).run Tryz.prog w= .ok v' w') (h:K (a.put o.dst v') w'):
 if Region.wanted o (yielded ops a.tmps)=true then Oper.wp Tryz.prog o a w K Q else E:=by
 rw[if_pos (by simp[Region.wanted,hgd])]
 unfold Oper.wp
 simp[execOp,hop,resolve,invoke,builtin,hs,hx,hrun,Result.andThen]
 exact h
theorem Yn(w:World):(sizeOf 63).run Tryz.prog w= .ok 5 w:=by kernel_rfl
theorem Un:Tryz.prog.elem 26=63:=by kernel_rfl
theorem XY:Tryz.prog.underlying 26=some (.slice (Tryz.prog.elem 26)):=by rw[Un];exact underlying26
theorem Rs(g n cap k:Nat)(hk:k<=n)(hn:n<=cap):∃a2:Addr,(∀w,(Instr.sliceAt 26 (.slice (some ⟨g,0,none⟩) n cap) (some (.int .i64 k)) none none).run Tryz.prog w= .ok (.slice (some a2) (n - k) (cap - k)) w)/\(k<n->a2=⟨g,k * 5,none⟩):=by
 refine⟨if cap=k then⟨g,0,none⟩else⟨g,k * 5,none⟩,?_,fun h=>by rw[if_neg (by omega)]⟩
 intro w
 rw[run_sliceAt_slice (t:=26) (h:=XY),run_slice_l (t:=26) (ht:=XY) (h0:=by omega) (h1:=by omega),Un,Yn]
 simp[Result.andThen,sliced]
 split
 ·rfl
 ·simp[Addr.add]
  omega
theorem Hl(a b:List EM):An (a++b)=An a++An b:=by unfold An;rw[List.flatMap_append]
theorem MR(l:List EM):∀u∈An l,u.oneCell'=true:=by
 intro u hu
 unfold An at hu
 obtain⟨e,_,h⟩:=List.mem_flatMap.1 hu
 obtain⟨k,t,s,⟨a,b,c⟩,m⟩:=e
 simp[hdV]at h
 rcases h with rfl|rfl|rfl|rfl|rfl<;>rfl
theorem Sk{y:List Value}(hA:A.length=i * 5)(hy:y.length=5)(a b c d e:Value):(((((A++y++B).set (i * 5) a).set (i * 5+1) b).set (i * 5+2) c).set (i * 5+3) d).set (i * 5+4) e=A++([a,b,c,d,e]++B):=by
 match y,hy with
 |[y0,y1,y2,y3,y4],_=>
  rw[List.append_assoc]
  have st:∀(j:Nat) (u:Value) (L:List Value),(A++L).set (i * 5+j) u=A++L.set j u:=fun j u L=>by
   rw[List.set_append_right _ _ (by omega),hA,show i * 5+j - i * 5=j by omega]
  have h0:=st 0 a
  rw[Nat.add_zero]at h0
  rw[h0,st 1,st 2,st 3,st 4]
  rfl
theorem Uo{y:List Value}{j:Nat}{u:Value}(hA:A.length=i)(hu:y[j]? =some u):(A++y++B)[i+j]? =some u:=by
 have hj:j<y.length:=by
  rcases Nat.lt_or_ge j y.length with h|h
  ·exact h
  ·rw[List.getElem?_eq_none h]at hu;cases hu
 rw[List.append_assoc,List.getElem?_append_right (by omega),show i+j - A.length=j by omega,List.getElem?_append_left hj]
 exact hu
theorem Yo(h:m<l.length)(hs:CZ l[m] y):hasB l (Ay y)=true:=by
 unfold hasB
 exact List.any_eq_true.2 ⟨l[m],List.getElem_mem h,by simpa using IZ.2 hs⟩
structure Cut(l:List Ent)(y:Ent)(lo hi:Nat):Prop where
 le:lo<=hi
 top:hi<=l.length
 fst:∀i (h:i<l.length),i<lo->ltP l[i] y
 snd:∀i (h:i<l.length),hi<=i->ltP y l[i]
theorem Cut.start(l:List Ent)(y:Ent):Cut l y 0 l.length:=⟨Nat.zero_le _,Nat.le_refl _,fun i _ h=>absurd h (Nat.not_lt_zero i),fun i h h2=>absurd h (by omega)⟩
theorem Cut.up(h:Cut l y lo hi)(hr:C9 l)(hm:m<hi)(hl:m<l.length)(hlo:lo<=m)(hlt:ltP l[m] y):Cut l y (m+1) hi:=
 ⟨by omega,h.top,fun i hi' h2=>by
  rcases Nat.lt_succ_iff_lt_or_eq.1 h2 with h3|h3
  ·exact Cd (List.pairwise_iff_getElem.1 hr i m hi' hl h3) hlt
  ·subst h3;exact hlt,h.snd⟩
theorem Cut.down(h:Cut l y lo hi)(hr:C9 l)(hm:m<hi)(hl:m<l.length)(hlo:lo<=m)(hlt:ltP y l[m]):Cut l y lo m:=
 ⟨hlo,by omega,h.fst,fun i hi' h2=>by
  rcases Nat.lt_or_eq_of_le h2 with h3|h3
  ·exact Cd hlt (List.pairwise_iff_getElem.1 hr m i hl hi' h3)
  ·subst h3;exact hlt⟩
theorem Cut.none(h:Cut l y k k):hasB l (Ay y)=false:=by
 unfold hasB
 refine List.any_eq_false.2 fun x hx=>?_
 obtain⟨i,hi,rfl⟩:=List.getElem_of_mem hx
 have:¬Ay l[i]=Ay y:=fun e=>by
  have hs:=IZ.1 e
  by_cases h1:i<k
  ·exact LD (h.fst i hi h1) hs
  ·exact LD (h.snd i hi (by omega)) (Hg hs)
 simpa using this
theorem Cut.rise(h:Cut l y k k)(hr:C9 l):C9 (l.take k++y::l.drop k):=by
 refine List.pairwise_append.2 ⟨hr.sublist (List.take_sublist _ _),List.pairwise_cons.2 ⟨fun z hz=>?_,hr.sublist (List.drop_sublist _ _)⟩,fun a ha b hb=>?_⟩
 ·obtain⟨i,hi,rfl⟩:=List.getElem_of_mem hz
  rw[List.getElem_drop]
  exact h.snd _ _ (by omega)
 ·obtain⟨i,hi,rfl⟩:=List.getElem_of_mem ha
  rw[List.getElem_take]
  have hik:i<k:=by rw[List.length_take]at hi;omega
  have hil:i<l.length:=by rw[List.length_take]at hi;omega
  rcases List.mem_cons.1 hb with rfl|hb
  ·exact h.fst i hil hik
  ·obtain⟨j,hj,rfl⟩:=List.getElem_of_mem hb
   rw[List.getElem_drop]
   exact Cd (h.fst i hil hik) (h.snd _ _ (by omega))
theorem Cut.perm(k:Nat):(l.take k++y::l.drop k).Perm (y::l):=by
 have h:=List.perm_middle (a:=y) (l₁:=l.take k) (l₂:=l.drop k)
 rw[List.take_append_drop]at h
 exact h
end bf
namespace bf
open Go.ChangeShapes Go.WideShapes Go.ChangeAt Go.RowKit
open vl
attribute [local go_sem] Oper.semAt_some
variable {d l : List Ent} {y : Ent} {f : Bool} {i k : Nat} {ps : List (List Ent)}
structure ES(done l:List Ent)(f:Bool):Prop where
 rise:C9 l
 len:l.length<=done.length
 fine:f=true↔(done.map Ay).Nodup
 perm:f=true->l.Perm done
 has:∀p,hasB l p=hasB done p
theorem ES.nil:ES [] [] true:=⟨List.Pairwise.nil,Nat.le_refl _,by simp,fun _=>List.Perm.refl _,fun _=>rfl⟩
theorem MS(a b:List Ent)(p:Plc):hasB (a++b) p=(hasB a p||hasB b p):=by unfold hasB;rw[List.any_append]
theorem Rt{p:Plc}(h:hasB l p=true):p∈l.map Ay:=by
 unfold hasB at h
 obtain⟨x,hx,e⟩:=List.any_eq_true.1 h
 exact List.mem_map.2 ⟨x,hx,by simpa using e⟩
theorem Up(y:Ent)(l:List Ent)(p:Plc):hasB (y::l) p=(hasB [y] p||hasB l p):=MS [y] l p
theorem Wz(h:hasB l (Ay y)=true)(p:Plc)(k:hasB [y] p=true):hasB l p=true:=by
 have e:p=Ay y:=by
  have:=Rt k
  simpa using this
 rw[e];exact h
theorem Mi:((d++[y]).map Ay).Nodup↔(d.map Ay).Nodup/\hasB d (Ay y)=false:=by
 rw[List.map_append,List.nodup_append]
 constructor
 ·rintro ⟨h1,_,h3⟩
  refine⟨h1,?_⟩
  cases e:hasB d (Ay y)with
  |false=>rfl
  |true=>exact absurd rfl (h3 _ (Rt e) (Ay y) (by simp))
 ·rintro ⟨h1,h2⟩
  refine⟨h1,by simp,fun a ha b hb e=>?_⟩
  have:b=Ay y:=by simpa using hb
  subst this
  subst e
  exact N8 h2 ha
theorem ES.there(h:ES d l f)(hy:hasB l (Ay y)=true):ES (d++[y]) l false:=by
 have hd:hasB d (Ay y)=true:=by rw[<-h.has];exact hy
 refine⟨h.rise,by have:=h.len;simp;omega,?_,(fun e=>by cases e),fun p=>?_⟩
 ·rw[Mi,hd];simp
 ·rw[MS,h.has p]
  cases e:hasB [y] p with
  |false=>simp
  |true=>rw[Wz hd p e];rfl
theorem ES.more{l':List Ent}(h:ES d l f)(hy:hasB l (Ay y)=false)(hp:l'.Perm (y::l))(hr:C9 l'):ES (d++[y]) l' f:=by
 have hd:hasB d (Ay y)=false:=by rw[<-h.has];exact hy
 refine⟨hr,by have:=h.len;have:=hp.length_eq;simp at *;omega,?_,fun e=>?_,fun p=>?_⟩
 ·rw[Mi,hd,h.fine];simp
 ·exact hp.trans (((h.perm e).cons y).trans (List.perm_append_singleton y d).symm)
 ·rw[VK hp,Up,MS,h.has p,Bool.or_comm]
theorem Dn{α:Type}{l:List α}{d:α}(h:k<l.length):l.take (k+1)=l.take k++[l.getD k d]:=by
 rw[List.take_add_one,gDe,gEe h];rfl
def Fc(ps:List (List Ent))(i k:Nat):List Ent:=(ps.take i).flatten++(ps.getD i default).take k
theorem Mj(h:k<(ps.getD i default).length):Fc ps i (k+1)=Fc ps i k++[(ps.getD i default).getD k default]:=by
 unfold Fc
 rw[Dn (d:=default) h,List.append_assoc]
theorem ID(h:i<ps.length):Fc ps i (ps.getD i default).length=(ps.take (i+1)).flatten:=by
 unfold Fc
 rw[List.take_length,Dn (d:=default) h,List.flatten_append,List.flatten_cons,List.flatten_nil,List.append_nil]
theorem Ml(ps:List (List Ent))(i:Nat):Fc ps i 0=(ps.take i).flatten:=by unfold Fc;simp
theorem Hm(h:i<ps.length):(Fc ps i k).length<=ps.flatten.length:=by
 have h1:(Fc ps i k).length<=((ps.take (i+1)).flatten).length:=by
  rw[<-ID h];unfold Fc;rw[lAp,lAp]
  have:((ps.getD i default).take k).length<=((ps.getD i default).take (ps.getD i default).length).length:=by
   rw[List.length_take,List.length_take];omega
  omega
 have h2:ps.flatten=(ps.take (i+1)).flatten++(ps.drop (i+1)).flatten:=by rw[<-List.flatten_append,List.take_append_drop]
 rw[h2,lAp];omega
end bf
namespace bf
open Go.ChangeShapes Go.WideShapes Go.ChangeAt Go.RowKit
open vl
theorem Sl(a:Option Addr)(cap:Nat)(r:List Cel)(w:World)(hr:vl.rowAt w a r)(hl:r.length<=2000000):
 Calls Tryz.prog 86 #[.slice a r.length cap] w fun e w'=>(∃ad c,e= .returned (.slice ad r.length c)/\AA w' w.heap.size (.slice ad r.length c) r)/\Bwz w w':=by
 obtain⟨i0,hi,hz0,hz1,hz2⟩:=info_parts Tryz.infoV
 have HI:Hid (Tryz.prog.info? 103=some i0/\i0.zero=some (.agg #[.int .i64 0,.int .i64 0,.string ⟨#[]⟩])/\i0.size=3/\i0.bytes=32):=⟨hi,hz0,hz1,hz2⟩
 clear hi hz0 hz1 hz2
 have HOW:Hid ((w.alloc (.cells #[] 103)).ownsRow w.heap.size 103 3 (.slice (some ⟨w.heap.size,0,none⟩) 0 0) 0 []):=World.ownsRow_made w #[] 0 nR (Nat.zero_le _) rfl
 have hb0:Bwz w (w.alloc (.cells #[] 103)):=bR.alloc nR _
 obtain⟨n,hn⟩:∃n,r.length=n:=⟨_,rfl⟩
 have HN:Hid (r.length=n):=hn
 cases a with
 |none=>
  have h0:r=[]:=by
   cases r with
   |nil=>rfl
   |cons c r=>
    obtain⟨_,_,e,_⟩:=hr 0 (by simp)
    cases e
  subst h0
  simp only[List.length_nil]
  clear hr hl hn HN
  go_enter func86,ntmps86
  go_wp2_with (at_builtin;refine E7 rfl (.tmp 3) (.tmp 4) 41 rfl w.heap.size 103 i0 3 cap underlying41 HI.out.1 _ _ _ rfl HOW.out rfl ?_)
  go_ret
  exact⟨⟨_,_,rfl,HOW.out⟩,hb0⟩
 |some x=>
  have hcel:∀j u,(celCells r)[j]? =some u->(w.alloc (.cells #[] 103)).cell? (x.add j)=some u:=by
   intro j u hu
   have hlen:0<r.length:=by
    rcases Nat.eq_zero_or_pos r.length with h|h
    ·rw[List.length_eq_zero_iff.1 h]at hu;cases hu
    ·exact h
   obtain⟨b,o,e,_⟩:=hr 0 hlen
   cases e
   exact cLz (bR.alloc nR _) (DX hr j u hu)
  have HCE:Hid (∀j u,(celCells r)[j]? =some u->(w.alloc (.cells #[] 103)).cell? (x.add j)=some u):=hcel
  rw[hn]at hl⊢
  clear hcel hr hn
  go_enter func86,ntmps86
  go_wp2_with (at_builtin;refine wpList_append_own _ rfl (.tmp 3) (.tmp 4) 41 rfl w.heap.size 103 i0 (.agg #[.int .i64 0,.int .i64 0,.string ⟨#[]⟩]) 3 32 underlying41 HI.out.1 HI.out.2.1 HI.out.2.2.1 HI.out.2.2.2 rfl (by decide) _ _ _ rfl HOW.out x n cap (celCells r) rfl (by rw[CQ,HN.out]) HCE.out (DA r) (by unfold maxLen;omega) (by omega) (by simp) ?_;intro v2 w3 hown3 hgrow3 hnil3)
  rw[Nat.zero_add,List.nil_append]at hown3
  obtain⟨ad,c2,hv⟩:∃ad c2,v2= .slice ad n c2:=by
   rcases hown3.2 with⟨rfl,h0⟩|⟨g,cap',cur,rfl,_⟩
   ·exact⟨none,0,by rw[h0]⟩
   ·exact⟨_,_,rfl⟩
  subst hv
  go_ret
  exact⟨⟨ad,c2,rfl,by show w3.ownsRow _ _ _ _ r.length _;rw[HN.out];exact hown3⟩,hb0.grown hgrow3 (by simp) (fun b hb=>by cases hb;exact Nat.le_refl _)⟩
end bf
end Go.Proofs.YtdohnkkbkfhphaaGreat
