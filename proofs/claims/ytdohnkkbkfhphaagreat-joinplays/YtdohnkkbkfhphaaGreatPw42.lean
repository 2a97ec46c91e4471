import Derived.Test.YtdohnkkbkfhphaaGreatPw36
import Derived.Test.YtdohnkkbkfhphaaGreatPw41
set_option linter.all false
open Go.RowKit Go.ChangeShapes Go.WideShapes Go.ChangeAt List
namespace Go.Proofs.YtdohnkkbkfhphaaGreat
namespace jn
open vl bf
variable {l : List Ent} {a e y : Ent} {b : Buf} {side t : Int} {p : pl.Pln} {s : Jn} {v : Ev}
theorem Zv(c:Dh l)(h:l.getLast? =some y):y∈l/\∀z∈l,¬ltP y z:=by
 refine⟨mem_of_getLast? h,λz d k=>?_⟩;obtain⟨f,rfl⟩:=getLast?_eq_some_iff.1 h;rcases mem_append.1 d with j|j
 ·have:=(pairwise_append.1 c).2.2 z j y (mem_singleton.2 rfl);exact CL _ (Co k this)
 ·rw[mem_singleton.1 j]at k;exact CL _ k
theorem VJ{C:List Ent}(h:(C.map (·.seq)).Nodup){b:Ent}(ha:a∈C)(g:b∈C)(e:a.seq=b.seq):a=b:=by
 obtain⟨i,c,rfl⟩:=getElem_of_mem ha;obtain⟨j,d,rfl⟩:=getElem_of_mem g;have f:∀i j (c:i<C.length) (d:j<C.length),i<j->C[i].seq≠C[j].seq:=by
  intro i j c d m;have:=pairwise_iff_getElem.1 h i j (by rw[lMp];omega) (by rw[lMp];omega) m;rw[getElem_map,getElem_map]at this;exact this
 by_cases k:i<j
 ·exact absurd e (f i j c d k)
 ·by_cases n:j<i
  ·exact absurd e.symm (f j i d c n)
  ·have:i=j:=ϟ;subst this;rfl
theorem MX{P Q:Ent->Bool}(h:∀y∈Aa b,P y=Q y):Bt P b=Bt Q b:=by
 unfold Bt Dg;have f:b.mem.filter P=b.mem.filter Q:=filter_congr λy c=>h y (by rw[C3];exact mem_append.2 (.inl c));have g:b.runs.map (·.filter P)=b.runs.map (·.filter Q):=map_congr_left λl d=>filter_congr λy c=>h y (by rw[C3];exact mem_append.2 (.inr (mem_flatten.2 ⟨l,d,c⟩)));rw[f,g]
theorem MY{P:Ent->Bool}(ok:okB b)(h:∀y∈Aa b,P y=true):Bt P b=b:=(MX h).trans (F9 ok)
theorem GD(ok:okB b)(hy:y∈Aa b):tm.Bc y.time=true:=by
 obtain⟨l,c,d⟩:=mem_flatten.1 (show y∈(partsB b).flatten from hy);exact(ok.fine l c y d).2.2.1
theorem RP{b:Ent}:0<cmpP a b↔ltP b a:=by
 rcases ltP_tri a b with h|h|h
 ·have c:=Fc.2 h;exact⟨λk=>by omega,λk=>absurd (Co h k) (CL _)⟩
 ·have c:=GG.2 h;exact⟨λk=>by omega,λk=>absurd (FC h) (Ik k)⟩
 ·refine⟨λ_=>h,λ_=>?_⟩;rcases Int.lt_trichotomy (cmpP a b) 0 with k|k|k
  ·exact absurd (Co (Fc.1 k) h) (CL _)
  ·exact absurd (FC (GG.1 k)) (Ik h)
  ·exact k
theorem Ie(h:tm.Bc t=true):noMark<t:=by
 have:=(tm.Dv t).1 h;unfold noMark;omega
theorem Pe(ok:okB b):Bt (Cm noMark) b=b:=MY ok λy c=>decide_eq_true (Ie (GD ok c))
theorem VK(ok:okJ p s):(dropJ p s).L=if s.rm=noMark then s.L else Bt (Cm (pl.Gv p 1 s.rm)) s.L:=by
 show Bt (Cm (BI p s 1)) s.L=_;have e:BI p s 1=if s.rm=noMark then noMark else pl.Gv p 1 s.rm:=rfl
 rw[e];split
 ·exact Pe ok.L
 ·rfl
theorem VL(ok:okJ p s):(dropJ p s).R=if s.lm=noMark then s.R else Bt (Cm (pl.Gv p 2 s.lm)) s.R:=by
 show Bt (Cm (BI p s 2)) s.R=_;have e:BI p s 2=if s.lm=noMark then noMark else pl.Gv p 2 s.lm:=rfl
 rw[e];split
 ·exact Pe ok.R
 ·rfl
theorem Qr{c:Int}(h0:pl.Al p=0)(i:side=1\/side=2)(d:CW c=true)(g:c≠noMark):pl.Gv p side c=pl.goneAt p side c/\ -1099511627776<=c/\c<=1099511627776:=by
 have f:tm.Bc c=true:=by
  unfold CW at d;simp only[Bool.or_eq_true,decide_eq_true_eq]at d;rcases d with h|h
  ·exact absurd h g
  ·exact h
 have e:pl.I7 p side c=0:=by
  unfold pl.I7;rw[if_pos h0,if_pos (show pl.Bz side=true from decide_eq_true i),if_pos f]
 exact⟨if_pos e,(tm.Dv c).1 f⟩
theorem Zw(ok:okJ p s)(c:Int)(hy:y∈Aa s.R):(!DO (AP (Aa s.R)) c y)=(decide (c<y.time)||decide (lastOf s y.key c=y.seq)):=by
 have r:Dh (AP (Aa s.R)):=JC (Iw _) ((Fw (A9 _)).2 ok.R.once);have h:∀z,z∈AP (Aa s.R)↔z∈Aa s.R:=λz=>(A9 _).mem_iff;by_cases i:c<y.time
 ·rw[decide_eq_true i,Bool.true_or];have:DO (AP (Aa s.R)) c y=false:=by
   unfold DO;rw[any_eq_false];intro z _;unfold FU;rw[decide_eq_false ϟ];simp
  rw[this];rfl
 ·rw[decide_eq_false i,Bool.false_or];have f:y∈(AP (Aa s.R)).filter λz=>decide (z.key=y.key)&&decide (z.time<=c):=by
   rw[mem_filter];refine⟨(h y).2 hy,?_⟩;simp only[Bool.and_eq_true,decide_eq_true_eq];exact⟨trivial,ϟ⟩
  have e:lastOf s y.key c=match ((AP (Aa s.R)).filter λz=>decide (z.key=y.key)&&decide (z.time<=c)).getLast? with
   |some y=>y.seq
   |none=>0:=rfl
  rw[e]
  cases hq:((AP (Aa s.R)).filter λz=>decide (z.key=y.key)&&decide (z.time<=c)).getLast? with
  |none=>rw[getLast?_eq_none_iff.1 hq]at f;cases f
  |some q=>
   obtain⟨C,j⟩:=Zv (EU _ r) hq;obtain⟨m,g⟩:=mem_filter.1 C;simp only[Bool.and_eq_true,decide_eq_true_eq]at g;show(!DO (AP (Aa s.R)) c y)=decide (q.seq=y.seq);by_cases d:q.seq=y.seq
   ·have n:((Aa s.R).map (·.seq)).Nodup:=by
     have:=ok.once;rw[map_append]at this;exact(nodup_append.1 this).2.1
    have eq:q=y:=VJ n ((h q).1 m) hy d;rw[decide_eq_true d];have:DO (AP (Aa s.R)) c y=false:=by
     unfold DO;rw[any_eq_false];intro z u;unfold FU;simp only[Bool.and_eq_true,decide_eq_true_eq];rintro ⟨⟨⟨D,x⟩,A⟩,B⟩;refine j z ?_ ?_
     ·rw[mem_filter];exact⟨u,by simp[x,A]⟩
     ·rw[eq];exact RP.1 B
    rw[this];rfl
   ·rw[decide_eq_false d];have:DO (AP (Aa s.R)) c y=true:=by
     unfold DO;rw[any_eq_true];refine⟨q,m,?_⟩;unfold FU;simp only[Bool.and_eq_true,decide_eq_true_eq];refine⟨⟨⟨ϟ,g.1⟩,g.2⟩,RP.2 ?_⟩;rcases ltP_tri y q with k|k|k
     ·exact k
     ·exact absurd k.2.2.symm d
     ·exact absurd k (j y f)
    rw[this];rfl
theorem Zx(ok:okJ p s)(h:s.lm=noMark\/s.rm=noMark):NO s=s:=by
 have d:Mf s<=noMark:=by
  unfold Mf;rcases h with h|h<;>rw[h]
  ·exact Int.min_le_left _ _
  ·exact Int.min_le_right _ _
 unfold NO;have:Bt (λy=>decide (Mf s<y.time)||decide (lastOf s y.key (Mf s)=y.seq)) s.R=s.R:=MY ok.R λy c=>by
  have:=Ie (GD ok.R c);rw[decide_eq_true ϟ,Bool.true_or]
 rw[this]
def meetAll(b:Buf)(l:List Ent):Buf:=l.foldl (λb e=>D9 (Az e) b) b
theorem Ka(b:Buf)(l:List Ent)(e:Ent):meetAll b (l++[e])=D9 (Az e) (meetAll b l):=by
 unfold meetAll;rw[foldl_append];rfl
theorem Pf{f g:Ent->Ent}(h:∀y∈Aa b,f y=g y):(⟨b.lim,b.mem.map f,b.runs.map λl=>l.map f⟩:Buf)=⟨b.lim,b.mem.map g,b.runs.map λl=>l.map g⟩:=by
 have i:b.mem.map f=b.mem.map g:=map_congr_left λy c=>h y (by rw[C3];exact mem_append.2 (.inl c));have j:(b.runs.map λl=>l.map f)=b.runs.map λl=>l.map g:=map_congr_left λl d=>map_congr_left λy c=>h y (by rw[C3];exact mem_append.2 (.inr (mem_flatten.2 ⟨l,d,c⟩)));rw[i,j]
theorem MZ(b:Buf):Cb [] b=b:=by
 unfold Cb;have:=Pf (b:=b) (f:=metE []) (g:=id) (λy _=>QH y);rw[this];simp
theorem Zy(m:((Aa b).map (·.seq)).Nodup)(i:List Int)(k:e∈Aa b):D9 (Az e) (Cb i b)=Cb (i++[e.seq]) b:=by
 unfold D9 Cb;simp only[map_map];have:=Pf (b:=b) (f:=meetP (Az e)∘metE i) (g:=metE (i++[e.seq])) (λy n=>by
  have j:Az (metE i y)=Az e↔y.seq=e.seq:=by
   rw[UI]
   constructor
   ·intro h;exact congrArg (·.2.2) h
   ·intro h;rw[VJ m n k h]
  show meetP (Az e) (metE i y)=_;unfold meetP;by_cases c:y.seq=e.seq
  ·rw[if_pos (j.2 c)];unfold metE Ent.meet;rw[if_pos (show y.seq∈i++[e.seq]from mem_append.2 (.inr (by simp[c])))];split<;>rfl
  ·rw[if_neg (λh=>c (j.1 h))];unfold metE;by_cases d:y.seq∈i
   ·rw[if_pos d,if_pos (mem_append.2 (.inl d))]
   ·rw[if_neg d,if_neg (λh=>by
     rcases mem_append.1 h with h|h
     ·exact d h
     ·exact c (by simpa using h))])
 simpa[Function.comp_def]using this
theorem Pg{b:Buf}(d:((Aa b).map (·.seq)).Nodup):∀(l:List Ent) (c:List Int),(∀e∈l,e∈Aa b)->meetAll (Cb c b) l=Cb (c++l.map (·.seq)) b
 |[],c,_=>by rw[map_nil,append_nil];rfl
 |e::l,c,h=>by
  show meetAll (D9 (Az e) (Cb c b)) l=_;rw[Zy d c (h e (mem_cons_self ..)),Pg d l (c++[e.seq]) (λz f=>h z (mem_cons_of_mem _ f)),append_assoc];rfl
theorem RQ(c:((Aa b).map (·.seq)).Nodup)(h:∀e∈l,e∈Aa b):meetAll b l=Cb (l.map (·.seq)) b:=by
 have:=Pg c l [] h;rwa[MZ,nil_append]at this
theorem Ig(c:(l.map Az).Nodup)(P:Ent->Bool):(AP l).filter P=AP (l.filter P):=by
 refine Ec ((A9 l).filter P) ?_ (c.sublist (filter_sublist.map _));exact FZ (EU P (JC (Iw l) ((Fw (A9 l)).2 c)))
def ltJ(v:Ev)(e:Ent):Int:=if v.side=2 then e.time else v.time
def rtJ(v:Ev)(e:Ent):Int:=if v.side=2 then v.time else e.time
def mtB(p:pl.Pln)(v:Ev)(e:Ent):Bool:=decide (e.key=pl.Ap p v.side v.row)&&bt.GH p (ltJ v e) (rtJ v e)
theorem Lr{e s:Int}(i:1<=s):tm.start t s=tm.start e s↔t - t % s<=e/\e<=t - t % s+s - 1:=by
 unfold tm.start;have f:=Int.emod_nonneg e (show s≠0 by omega);have g:=Int.emod_lt_of_pos e (show 0<s by omega)
 constructor
 ·intro h;omega
 ·rintro ⟨a,b⟩;have c:t - t % s=s * (t/s):=by have:=Int.mul_ediv_add_emod t s;omega
  have d:e % s=e - s * (t/s):=by
   have:e=(e - s * (t/s))+s * (t/s):=ϟ;rw[this,Int.add_mul_emod_self_left,Int.emod_eq_of_lt ϟ ϟ];omega
  omega
theorem Xu(h0:pl.Al p=0)(i:p.kind≠3)(f:v.side=1\/v.side=2):bt.GH p (ltJ v e) (rtJ v e)=(decide (DX p v<=e.time)&&decide (e.time<=toJ p v)):=by
 by_cases c:p.kind=1
 ·unfold bt.GH DX toJ ltJ rtJ tm.D9;rw[if_pos c,if_pos c,if_pos c,Bool.eq_iff_iff];simp only[decide_eq_true_eq,Bool.and_eq_true];rcases f with h|h
  ·rw[h,if_neg Ϡ,if_neg Ϡ,if_pos rfl,if_pos rfl];omega
  ·rw[h,if_pos rfl,if_pos rfl,if_neg Ϡ,if_neg Ϡ];omega
 ·have g:p.kind=2:=by
   have:=(pl.Bj h0).1.1;omega
  have d:=(pl.Ac7 h0 g).1;unfold bt.GH DX toJ ltJ rtJ;rw[if_neg c,if_neg c,if_neg c,Bool.eq_iff_iff];simp only[decide_eq_true_eq,Bool.and_eq_true];rcases f with h|h
  ·rw[h,if_neg Ϡ,if_neg Ϡ];exact Lr d
  ·rw[h,if_pos rfl,if_pos rfl];exact⟨λk=>(Lr d).1 k.symm,λk=>((Lr d).2 k).symm⟩
theorem RR(h0:pl.Al p=0)(c:p.kind≠3)(d:v.side=1\/v.side=2)(ok:okB (bufOf s (3 - v.side))):partners p s v=if pl.hasB p v.side v.row=true then(AP (Aa (bufOf s (3 - v.side)))).filter (mtB p v)else []:=by
 unfold partners;split
 ·unfold Cx;rw[Ig ok.once]
  congr 1
  refine filter_congr λe f=>?_;unfold mtB;rw[Xu h0 c d,Bool.and_assoc]
 ·rfl
theorem Ug(p:pl.Pln)(c:side=1\/side=2)(r:List Cel):AJ side (bt.AE (pl.As p side).length) r=AN p (3 - side) r:=by
 unfold AN AJ;rcases c with h|h<;>rw[h]<;>rfl
theorem Ph(L:List Ent)(f:Ent->Bool)(k:Nat)(h:k<L.length):(L.take (k+1)).filter f=(L.take k).filter f++(if f (L.getD k default)=true then [L.getD k default]else []):=by
 rw[take_add_one,gEe h,filter_append,getD_at h]
 congr 1
 show [L[k]].filter f=_;rw[filter_cons];split<;>simp_all
theorem VN(ok:okB s.R)(c:ByteArray)(e:Ent):Wl s c e=(CZ s c e.time).getLast? :=by
 unfold Wl Cx CZ;rw[Ig (ok.once.sublist (filter_sublist.map _))]
 congr 2
 rw[filter_filter];refine filter_congr λy f=>?_;have g:=(tm.Dv _).1 (GD ok f);rw[Hf];by_cases d:y.key=c
 ·rw[decide_eq_true d,decide_eq_true (show(-1099511627776:Int)<=y.time by omega),decide_eq_true (show y.time<=(1099511627776:Int) by omega),decide_eq_true (show(-1099511627777:Int)<=y.time by omega)];simp
 ·rw[decide_eq_false d];simp
def nmB(s:Jn)(v:Ev)(key:ByteArray)(e:Ent):Bool:=decide (e.key=key)&&decide (v.time<=e.time)&&(match (CZ s key e.time).getLast? with
 |some o=>decide (o.time<=v.time)
 |none=>true)
theorem Uh(f:okB s.L)(g:okB s.R)(i:tm.Bc v.time=true):Cq p s v=if pl.hasB p v.side v.row=true then(AP (Aa s.L)).filter (nmB s v (pl.Ap p v.side v.row))else []:=by
 unfold Cq;by_cases c:pl.hasB p v.side v.row=true
 ·rw[if_pos c,if_pos c];unfold Cx;rw[<-Ig f.once,filter_filter];refine filter_congr λy d=>?_;have d:=(A9 _).mem_iff.1 d;have h:=(tm.Dv _).1 (GD f d);rw[VN g];unfold nmB;rw[decide_eq_true (show y.time<=(1099511627776:Int) by omega),Bool.and_true]
  cases (CZ s (pl.Ap p v.side v.row) y.time).getLast? with
  |none=>simp
  |some o=>rw[Bool.and_comm]
 ·rw[if_neg c,if_neg c];rfl
def Pj(p:pl.Pln)(s:Jn)(v:Ev)(e:Ent):List ch.Chg:=match (CZ s (pl.Ap p v.side v.row) e.time).getLast? with
 |some o=>[⟨3,AJ 1 e.row o.row⟩,⟨4,AJ v.side v.row e.row⟩]
 |none=>if keepsJ p.mode 1=true then [⟨3,AN p 1 e.row⟩,⟨4,AJ v.side v.row e.row⟩]else [⟨1,AJ v.side v.row e.row⟩]
theorem RS(c:okB s.R):DU p s v=(Cq p s v).flatMap (Pj p s v):=by
 unfold DU Pj
 congr 1
 funext e
 rw[VN c]
 cases (CZ s (pl.Ap p v.side v.row) e.time).getLast? <;>rfl
end jn
namespace jn
open vl bf
variable {w0 wr : ϛ} {v : Value} {ml : List Ent} {ops : Array Oper} {o : Oper} {a : Act} {K : Act -> World -> Prop} {Q : Exit -> Act -> World -> Prop}
structure GL(w0 wr:World)(v:Value)(ems:List EM)(ml:List Ent):Prop where
 own:wr.ownsRow w0.heap.size 63 5 v ems.length (Aq ems)
 ers:ERs w0 ems ml
 bl:Ϟ w0 wr
theorem Zz(w0:ϛ):GL w0 w0 (vS none 0 0) [] []:=⟨World.ownsRow_nil _ _ _ _,Qz _,bR⟩
theorem GL.below{d:ϛ}{ems:List EM}(h:GL w0 wr v ems ml)(c:Ϟ wr d):GL w0 d v ems ml:=⟨own_below h.own c,h.ers,h.bl.trans (c.mono h.bl.size)⟩
theorem GL.snoc{w2 f:ϛ}{v':Value}{ems:List EM}{e:EM}{z:Ent}(h:GL w0 w2 v ems ml)(m:ER w0 e z)(j:f.ownsRow w0 63 5 v' (ems.length+1) (Aq ems++[.string e.key,vI e.time,vI e.seq,hdV e.row,.bool e.met]))(i:Ϟ w0 f):GL w0 f v' (ems++[e]) (ml++[z]):=by
 have c:=h.ers.1;refine⟨by rw[lAp,ET];exact j,⟨by rw[lAp,lAp,c];rfl,λk g=>?_⟩,i⟩;rw[lAp]at g;by_cases d:k<ml.length
 ·rw[AS d,AS (by rw[c];exact d)];exact h.ers.2 k d
 ·have:k=ml.length:=by simp at g;omega
  subst this;rw[AH nR,AH (by rw[c];exact Nat.le_refl _),c,Nat.sub_self];exact m
theorem GL.at{ems:List EM}(h:GL w0 wr v ems ml):∃a c,v=vS a ml.length c/\Cz wr a ml:=by
 have r:=h.own;have e:=J6 r;have A:=h.ers.1;refine⟨Mg v,Oz v,by rw[<-A];exact e,λi x=>?_⟩;have z:i<ems.length:=ϟ;rcases r.2 with⟨u,H⟩|⟨g,c,G,u,_⟩
 ·omega
 ·have f:=World.ownsRow.cells r (g:=g) (by rw[u];rfl);obtain⟨B,C,D,E,F⟩:=Fb ems i z;have k:=f _ _ B;have m:=f _ _ C;have n:=f _ _ D;have j:=f _ _ E;have q:=f _ _ F;rw[ch.Ch,Nat.zero_add]at k m n j q;have d:=h.ers.2 i x;rw[d.key]at k;rw[d.time]at m;rw[d.seq]at n;rw[d.met]at q;unfold hdV at j;rw[d.len]at j;refine⟨g,0,(ems.getD i default).row.1,(ems.getD i default).row.2.2,by rw[u];rfl,?_,?_,?_,?_,?_,vl.Ac d.row h.bl⟩
  ·rw[Nat.zero_add];exact k
  ·rw[Nat.zero_add];exact m
  ·rw[Nat.zero_add];exact n
  ·rw[Nat.zero_add];exact j
  ·rw[Nat.zero_add];exact q
theorem Jv{E:Prop}(A:o.guard=none)(s x:Operand)
 (D:o.op= .call {callee:=.builtin .append,args:=#[s,x],argTypes:=#[44,44]})
 (base:Nat) (v:Value) (l:List (Int×Value)) (j:Int) (d:Value) (k:Int) (f:Value) (w1:ϛ) (c:Nat) (P:l.length=c) (C:w1.ownsRow base 55 2 v c (ch.Ba l)) (O:c<=1000000000) (N:base<=w1.heap.size) (R:d.oneCell'=true) (S:f.oneCell'=true)
 (F:a.eval s=v) (G:a.eval x=vS (τ w1) 2 2)
 (h:∀g i w2,w2.ownsRow base 55 2 (vS (τ g) (c+2) i) (c+2) (ch.Ba (l++[(j,d),(k,f)]))->(w1.alloc (.cells #[vI j,d,vI k,f] 55)).grownBy w2 v.ownBlock->(v.ownBlock=some g\/g=w1.heap.size+1)->g<w2.heap.size->K (a.put o.dst (vS (τ g) (c+2) i)) w2):
 if Region.wanted o (yielded ops a.tmps)=true then Oper.wp Tryz.prog o a (ξ w1 #[vI j,d,vI k,f] 55) K Q else E:=by
 obtain⟨M,B,H,I,J⟩:=info_parts ch.S0;refine step_append_lies _ A s x 44 D base 55 M (.agg #[ω,ψ]) 2 32 Tryz.underlying44 B H I J rfl Ϡ v c (ch.Ba l) F
  (C.alloc _) ⟨w1,0,none⟩ 2 2 [vI j,d,vI k,f] G rfl (Jp _ _ _ _ _ _) (by intro u m;simp at m;rcases m with rfl|rfl|rfl|rfl<;>first|rfl|assumption) Ϡ ϩ ϟ Ϥ (w1.heap.size+1) ϡ ?_
 intro g i w2 n q r z;refine h g i w2 ?_ q r z;rw[ch.Lz];exact n
theorem Pk{E:Prop}(r:o.guard=none)(s x:Operand)
 (B:o.op= .call {callee:=.builtin .append,args:=#[s,x],argTypes:=#[44,44]})
 (base:Nat) (v:Value) (l:List (Int×Value)) (n:Int) (ad:Ϝ) (f cap:Nat) (w1:ϛ) (c:Nat) (N:l.length=c) (A:w1.ownsRow base 55 2 v c (ch.Ba l)) (M:c<=1000000000) (J:base<=w1.heap.size)
 (C:a.eval s=v) (D:a.eval x=vS (τ w1) 1 1)
 (h:∀g d w2,w2.ownsRow base 55 2 (vS (τ g) (c+1) d) (c+1) (ch.Ba (l++[(n,vS ad f cap)]))->(w1.alloc (.cells #[vI n,vS ad f cap] 55)).grownBy w2 v.ownBlock->(v.ownBlock=some g\/g=w1.heap.size+1)->g<w2.heap.size->K (a.put o.dst (vS (τ g) (c+1) d)) w2):
 if Region.wanted o (yielded ops a.tmps)=true then Oper.wp Tryz.prog o a (ξ w1 #[vI n,vS ad f cap] 55) K Q else E:=by
 obtain⟨I,z,F,G,H⟩:=info_parts ch.S0;refine step_append_lies _ r s x 44 B base 55 I (.agg #[ω,ψ]) 2 32 Tryz.underlying44 z F G H rfl Ϡ v c (ch.Ba l) C
  (A.alloc _) ⟨w1,0,none⟩ 1 1 [vI n,vS ad f cap] D rfl (cell_two_new _ _ _ _) (by intro u i;simp at i;rcases i with rfl|rfl<;>rfl) Ϡ ϩ ϟ Ϥ (w1.heap.size+1) ϡ ?_
 intro g d w2 j k m q;exact h g d w2 (by rw[ch.NI];exact j) k m q
structure MT(W0 wr:World)(ov:Value)(L:List CO)(mv:Value)(ems:List EM)(ml:List Ent):Prop where
 cg:CG wr W0.heap.size ov L
 gl:GL W0 wr mv ems ml
section
variable {W0 w w1 w2 : ϛ} {ov mv : Value} {L : List CO} {ems : List EM} {ml : List Ent}
theorem MT.below(h:MT W0 w ov L mv ems ml)(c:Ϟ w w1):MT W0 w1 ov L mv ems ml:=⟨h.cg.below c,h.gl.below c⟩
theorem Ge{o:Obj}{row:Option Nat}{t e:TypeId}(d:(w.alloc o).grownBy w1 row)(i:∀r,row=some r->An w r t)(h:e≠t){g:Nat}(c:An w g e):w1.heap[g]? =w.heap[g]? :=by
 have f:=AX c;rw[d.block g Ϥ (λk=>tyAt_apart c (i g k.symm) h rfl)];exact Below.heap_alloc _ _ _ f
theorem MT.met(h:MT W0 w ov L mv ems ml){e:EM}{z:Ent}{mv':Value}(u:ER W0 e z)(n:w1.ownsRow W0 63 5 mv' (ems.length+1) (Aq ems++[.string e.key,vI e.time,vI e.seq,hdV e.row,.bool e.met])){o:Obj}(d:(w.alloc o).grownBy w1 mv.ownBlock):MT W0 w1 ov L mv' (ems++[e]) (ml++[z])/\Ϟ W0 w1:=by
 have f:Ϟ W0 w1:=(h.gl.bl.alloc h.gl.bl.size _).grown d (Nat.le_trans h.gl.bl.size ϡ) (λc j=>(ch.AM h.gl.own j).1);have i:∀r,mv.ownBlock=some r->An w r 63:=λr q=>A6 h.gl.own q;refine⟨⟨h.cg.other (Nat.le_trans ϡ d.size) (λg m=>?_),h.gl.snoc u n f⟩,f⟩;rcases m with k|k
 ·exact Ge d i Ϡ k
 ·exact Ge d i Ϡ k
theorem GL.told(h:GL W0 w mv ems ml){n:Nat}{u:List Value}(f:w.ownsRow W0 55 2 ov n u){o:Obj}(i:(w.alloc o).grownBy w1 ov.ownBlock):GL W0 w1 mv ems ml/\Ϟ W0 w1:=by
 have d:Ϟ W0 w1:=(h.bl.alloc h.bl.size _).grown i (Nat.le_trans h.bl.size ϡ) (λc j=>(ch.AM f j).1);have q:∀r,ov.ownBlock=some r->An w r 55:=λr m=>A6 f m;exact⟨⟨A2 h.own (λg k=>Ge i q Ϡ (A6 h.own k)),h.ers,d⟩,d⟩
theorem MT.one(h:MT W0 w ov L mv ems ml)(c:Ϟ w w1){rv:Value}{row:List Cel}(j:A4 w1 w rv row){k:Int}{ov':Value}{o:Obj}(d:(w1.alloc o).grownBy w2 ov.ownBlock)(m:w2.ownsRow W0 55 2 ov' (L.length+1) (ch.Ba (L.map CO.pair++[(k,rv)])))(i:∀g,ov'.ownBlock=some g->ov.ownBlock=some g\/w1.heap.size+1<=g):MT W0 w2 ov' (L++[⟨k,rv,row⟩]) mv ems ml/\Ϟ W0 w2:=by
 have f:=GL.told (h.gl.below c) (h.cg.below c).own d;exact⟨⟨CG.add h.cg c j d m i,f.1⟩,f.2⟩
theorem MT.two(h:MT W0 w ov L mv ems ml){c:ϛ}(i:Ϟ w w1){rv d:Value}{row q:List Cel}(u:A4 w1 w d q)(j:Ϟ w1 w2)(x:A4 w2 w1 rv row){k k2:Int}{ov':Value}{o:Obj}(m:(w2.alloc o).grownBy c ov.ownBlock)(z:c.ownsRow W0 55 2 ov' (L.length+2) (ch.Ba (L.map CO.pair++[(k,rv),(k2,d)])))(r:∀g,ov'.ownBlock=some g->ov.ownBlock=some g\/w2.heap.size+1<=g):MT W0 c ov' (L++[⟨k,rv,row⟩,⟨k2,d,q⟩]) mv ems ml/\Ϟ W0 c:=by
 have f:Ϟ w w2:=bT i j;have n:=GL.told (h.gl.below f) (h.cg.below f).own m;exact⟨⟨CG.add2 (E:=[]) (CG.two2 h.cg i u j x) bR m z r,n.1⟩,n.2⟩
end
end jn
end Go.Proofs.YtdohnkkbkfhphaaGreat
