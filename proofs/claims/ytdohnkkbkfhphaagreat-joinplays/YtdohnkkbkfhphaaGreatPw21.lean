import Derived.Test.YtdohnkkbkfhphaaGreatPw20
set_option linter.all false
set_option maxHeartbeats 8000000
set_option maxRecDepth 100000
open Go.ChangeShapes Go.WideShapes Go.ChangeAt Go.RowKit List
open Inhabited renaming default->ϰ
namespace Go.Proofs.YtdohnkkbkfhphaaGreat
open Go.Proofs.Tryz
namespace jn
open vl bf
attribute [local go_sem] Oper.semAt_some
theorem YG(b:Nat)(p:pl.Pln)(x:pl.PA)(s:Jn)(y:JX)(a:Ϝ)(d c:Nat)(w:ϛ)(h:boxC w b p x s y (vS a d c)):
 η 257 #[μ b] w (θ w (.tuple #[joinV s y,vS a d c])):=by
 have f:=h.lt;obtain⟨u0,u1,u2,u3,u4,u5,u6,u7,u8⟩:=h.join;have m:=h.told;clear h;rw[A0];go_enter func257,ntmps257;go_wp2;have l:b≠w.heap.size:=ϟ
 go_region_held3 (λw'=>Δ w' b 13 (vI s.L.lim)/\Δ w' b 14 (vS y.l.m.1.1 y.l.m.1.2.1 y.l.m.1.2.2)/\Δ w' b 15 (vS y.l.ra y.l.rs.length y.l.rc)/\Δ w' b 16 (vI s.R.lim)/\Δ w' b 17 (vS y.r.m.1.1 y.r.m.1.2.1 y.r.m.1.2.2)/\Δ w' b 18 (vS y.r.ra y.r.rs.length y.r.rc)/\Δ w' b 19 (vI s.lm)/\Δ w' b 20 (vI s.rm)/\Δ w' b 21 (vI s.seq)/\Δ w' b 22 (vS a d c)) (first|go_keep|(refine⟨?_,?_,?_,?_,?_,?_,?_,?_,?_,?_⟩<;>go_simp))
  (fail)
 all_goals
  go_wp2;exact bodyPost_ret (v:=.tuple #[.agg (Ψ s y),vS a d c]) (by simp[results,results257,go_sem]) rfl ⟨rfl,Ϫ.drew⟩
end jn
namespace bf
open vl
attribute [local go_sem] Oper.semAt_some
end bf
namespace bf
open vl
variable {V X Y w w' : ϛ} {base cap g hn i j k n : Nat} {e t : TypeId} {hx xs : List Value} {hv v : Value} {b : Buf} {hs : List Hdr} {x : BX} {p : Plc}
theorem I4{size:Nat}(h:w.ownsRow base e size (vS (τ g) n cap) n xs)(j:Nat)(s:j<n * size)(x:Value):(w.setCell ⟨g,j,none⟩ x).ownsRow base e size (vS (τ g) n cap) n (xs.set j x):=by
 refine⟨by rw[length_set];exact h.1,?_⟩;rcases h.2 with⟨hv,_⟩|⟨r,q,a,hv,f,d,c,l,m,o⟩
 ·cases hv
 ·cases hv
  have u:n * size<=cap * size:=Nat.mul_le_mul_right _ c;refine .inr ⟨g,cap,a.setIfInBounds j x,rfl,f,?_,c,l,by rw[Array.size_setIfInBounds];exact m,?_⟩
  ·rw[setCell_eq_setRow w g j a e (0,0) x d];exact setRow_heap w g a _ e _ d
  ·rw[Array.toList_setIfInBounds,<-o,take_set]
def EM.meet(e:EM):EM:=⟨e.key,e.time,e.seq,e.row,true⟩
def Ent.meet(x:Ent):Ent:=⟨x.key,x.time,x.seq,x.row,true⟩
theorem Jg:∀(l:List EM) (i:Nat),i<l.length->(Aq l).set (i * 5+4) (.bool true)=Aq (l.set i (l.getD i ϰ).meet)
 |[],i,h=>absurd h (Nat.not_lt_zero i)
 |e::l,0,_=>rfl
 |e::l,i+1,h=>by
  have c:=Jg l i (by simpa using h);have a:Aq (e::l)= .string e.key::vI e.time::vI e.seq::hdV e.row:: .bool e.met::Aq l:=rfl;rw[a,show(i+1) * 5+4=(i * 5+4)+1+1+1+1+1 by omega];simp only[sSz,c,getD_cons_succ];rfl
theorem D5{α:Type}{l:List α}{a d:α}(h:i<l.length):(l.set i a).getD i d=a:=by
 simp[gDe,h]
theorem Ew{α:Type}{l:List α}{a d:α}(h:i≠j):(l.set i a).getD j d=l.getD j d:=by
 simp[gDe,List.getElem?_set_ne h]
theorem Ac3{es:List EM}{l:List Ent}(h:OE w base (vS (τ g) es.length cap) es l)(o:i<l.length):
 OE (φ w g (i * 5+4) (.bool true)) base (vS (τ g) es.length cap) (es.set i (es.getD i ϰ).meet) (l.set i (l.getD i ϰ).meet):=by
 have r:i<es.length:=by rw[h.len];exact o
 refine⟨by simpa[World.setCell]using h.low,?_,by rw[length_set,length_set,h.len],λj s=>?_⟩
 ·rw[length_set,<-Jg es i r];exact I4 h.own _ ϟ _
 ·rw[length_set]at s;have u:∀{e:EM} {x:Ent},OR w base e x->OR (φ w g (i * 5+4) (.bool true)) base e x:=λ{e x} k=>by
   obtain⟨c,d,f,q,m,a⟩:=k;exact⟨c,d,f,q,m,A2 a (λb y=>heap_setCell_other _ _ _ _ (λe=>IF h.own a Ϡ (show(Value.slice (τ g) es.length cap).ownBlock=some b by rw[e];rfl) y))⟩
  by_cases e:i=j
  ·subst e;rw[D5 r,D5 o];obtain⟨c,d,f,q,m,a⟩:=u (h.rows i o);exact⟨c,d,f,rfl,m,a⟩
  ·rw[Ew e,Ew e];exact u (h.rows j s)
theorem AaN{base':Nat}{es c:List EM}{l o:List Ent}(h:OE w base v es l)(m:OE w base' (vS (τ g) n cap) c o)(d:v.ownBlock≠some g)(u:Value):OE (φ w g j u) base v es l:=
 h.same (by simp[World.setCell]) (λb q t f a=>heap_setCell_other _ _ _ _ (λe=>by
  dsimp only at e;rcases a with⟨hv,_⟩|a
  ·exact d (by rw[<-e];exact hv)
  ·subst a;exact tyAt_apart (A6 m.own (show(Value.slice (τ g) n cap).ownBlock=some b by rw[e];rfl)) ⟨_,_,f⟩ Ϡ rfl))
def hd0:Hdr:=(none,0,0)
structure OP(w:World)(base:Nat)(hs:List Hdr)(ess:List (List EM))(ls:List (List Ent)):Prop where
 low:base<=w.heap.size
 l1:ess.length=hs.length
 l2:ls.length=hs.length
 oe:∀k,k<hs.length->OE w base (hdV (hs.getD k hd0)) (ess.getD k []) (ls.getD k [])
 two:(hs.map hdV).Pairwise apB
theorem M0{a b:Value}(h:apB a b):apB b a:=λg c d=>h g d c
theorem OP.apart{f:List (List EM)}{q:List (List Ent)}(h:OP w base hs f q)(l:j<hs.length)(m:k<hs.length)(o:j≠k):apB (hdV (hs.getD j hd0)) (hdV (hs.getD k hd0)):=by
 have d:=pairwise_iff_getElem.1 h.two;have e:∀i (c:i<hs.length),hdV (hs.getD i hd0)=(hs.map hdV)[i]'(by rw[lMp];exact c):=λi c=>by
  rw[getElem_map,gDe,gEe c];rfl
 rw[e j l,e k m];rcases Nat.lt_or_gt_of_ne o with a|a
 ·exact d _ _ _ _ a
 ·exact M0 (d _ _ _ _ a)
theorem Hx{h:Hdr}{es:List EM}{l:List Ent}(o:OE w base (hdV h) es l)(m:0<l.length):∃g,h=(some ⟨g,0,none⟩,es.length,h.2.2):=by
 obtain⟨a,n,c⟩:=h;rcases o.own.2 with⟨_,q⟩|⟨g,cap,r,hv,_⟩
 ·rw[<-o.len,q]at m;exact absurd m (Nat.lt_irrefl _)
 ·unfold hdV at hv;injection hv with d f s
  dsimp only at d f;subst d f;exact⟨g,rfl⟩
theorem YH{a:List (List EM)}{c:List (List Ent)}(h:OP w base hs a c)(d:k<hs.length)(z:i<(c.getD k []).length)(m:(hs.getD k hd0).1=some ⟨g,0,none⟩):
 OP (φ w g (i * 5+4) (.bool true)) base hs (a.set k ((a.getD k []).set i ((a.getD k []).getD i ϰ).meet)) (c.set k ((c.getD k []).set i ((c.getD k []).getD i ϰ).meet)):=by
 have r:=h.oe k d;obtain⟨f,o⟩:=Hx r ϟ;have y:f=g:=by rw[o]at m;cases m;rfl
 subst y;have hv:hdV (hs.getD k hd0)=vS (τ f) (a.getD k []).length (hs.getD k hd0).2.2:=by rw[o];rfl
 have l:=r;rw[hv]at l;refine⟨by simpa[World.setCell]using h.low,by rw[length_set];exact h.l1,by rw[length_set];exact h.l2,λj q=>?_,h.two⟩;by_cases e:k=j
 ·subst e;rw[D5 (by rw[h.l1];exact d),D5 (by rw[h.l2];exact d),hv];exact Ac3 l z
 ·rw[Ew e,Ew e];refine AaN (h.oe j q) l (λu=>?_) _;have:=h.apart q d (λs=>e s.symm) f u;rw[hv]at this;exact this rfl
theorem OP.below{a:List (List EM)}{d:List (List Ent)}(h:OP w base hs a d)(c:Ϟ w w'):OP w' base hs a d:=
 ⟨Nat.le_trans h.low c.size,h.l1,h.l2,λk f=>(h.oe k f).below c,h.two⟩
theorem Acp(h:OB w base x b):OP w base ((x.m::x.rs).map (·.1)) ((x.m::x.rs).map (·.2)) (partsB b):=by
 refine⟨h.low,ϡ,by simp[partsB,h.rlen],λk l=>?_,by rw[map_map];exact h.two⟩
 cases k with
 |zero=>exact h.mem
 |succ k=>
  have a:k<x.rs.length:=by simpa using l
  have m:=h.runs k (by rw[<-h.rlen];exact a);have c:((x.m::x.rs).map (·.1)).getD (k+1) hd0=(x.rs.getD k ϰ).1:=by
   simp[gDe,a]
  have d:((x.m::x.rs).map (·.2)).getD (k+1) []=(x.rs.getD k ϰ).2:=by
   simp[gDe,a]
  have f:(partsB b).getD (k+1) []=b.runs.getD k ϰ:=by
   unfold partsB;rw[getD_cons_succ];rfl
  rw[c,d,f];exact m
theorem OA{s:Nat}(h:w.ownsRow base e s v n xs):n<=maxLen:=by
 rcases h.2 with⟨_,a⟩|⟨g,cap,f,_,_,_,c,d,_⟩
 ·rw[a];exact Nat.zero_le _
 ·exact Nat.le_trans c d
theorem Dq{p:Part}{l:List Ent}(h:OE w base (hdV p.1) p.2 l):(p.1.2.1=p.2.length/\p.2.length<=χ)/\BG w p.1.1 p.2:=by
 obtain⟨⟨a,n,c⟩,f⟩:=p;have hn:n=f.length:=by
  obtain⟨m,o,d⟩:=h.form;unfold hdV at d;injection d with _ q _
 subst hn;refine⟨⟨rfl,?_⟩,?_⟩
 ·have:=OA h.own;unfold maxLen at this;dsimp only at this⊢;omega
 ·exact OE.at h
theorem OB.at(h:OB w base x b):bufAt w b x:=by
 have a:∀p∈x.m::x.rs,∃l,OE w base (hdV p.1) p.2 l:=λp a=>by
  rcases mem_cons.1 a with rfl|a
  ·exact⟨_,h.mem⟩
  ·obtain⟨i,_,_,q⟩:=h.run a;exact⟨_,q⟩
 refine⟨λi c=>?_,λp f=>?_,λp f=>?_,?_,h.mem.ers,h.rlen,λi c=>(h.runs i c).ers⟩
 ·rw[lMp]at c;rcases h.hds.2 with⟨_,s⟩|⟨g,cap,r,hv,_⟩
  ·omega
  ·injection hv with m _ _
   refine⟨g,0,m,?_⟩;have o:=World.ownsRow.cells h.hds (g:=g) (by rw[m];rfl) i (hdV (x.rs[i]).1) (by rw[getElem?_map,gEe c];rfl);rw[Ch]at o;rw[gDe,getElem?_map,gEe c];exact o
 ·obtain⟨l,d⟩:=a p f;exact(Dq d).1
 ·obtain⟨l,d⟩:=a p f;exact(Dq d).2
 ·have:=OA h.hds;unfold maxLen at this;omega
def Dh(l:List Ent):Prop:=l.Pairwise ltP
theorem getD_at{α:Type}{l:List α}{d:α}(h:i<l.length):l.getD i d=l[i]:=by
 rw[gDe,gEe h];rfl
theorem YI{l:List Ent}(h:(l.map Az).Nodup)(c:i<l.length)(d:j<l.length)(m:i≠j):¬Eb l[i] l[j]:=λhs=>by
 have e:=L9.2 hs;have f:=pairwise_iff_getElem.1 h;rcases Nat.lt_or_gt_of_ne m with a|a
 ·exact f i j (by simpa using c) (by simpa using d) a (by simpa using e)
 ·exact f j i (by simpa using d) (by simpa using c) a (by simpa using e.symm)
theorem JC{l:List Ent}(h:Md l)(hn:(l.map Az).Nodup):Dh l:=by
 refine pairwise_iff_getElem.2 λi j f c m=>?_;have d:=h i j m c;rw[getD_at f,getD_at c]at d;rcases ltP_tri l[i] l[j]with a|a|a
 ·exact a
 ·exact absurd a (YI hn f c ϟ)
 ·exact absurd a d
theorem Jr{l:List Ent}(h:∀i,i+1<l.length->ltP (l.getD i ϰ) (l.getD (i+1) ϰ)):Dh l:=by
 have c:∀d i,i+d+1<l.length->ltP (l.getD i ϰ) (l.getD (i+d+1) ϰ):=by
  intro d
  induction d with
  |zero=>exact λi a=>h i a
  |succ d ih=>exact λi a=>Co (ih i ϟ) (h (i+d+1) a)
 refine pairwise_iff_getElem.2 λi j a f m=>?_;have:=c (j - i - 1) i ϟ;rw[show i+(j - i - 1)+1=j by omega,getD_at a,getD_at f]at this;exact this
theorem M3{l:List Ent}(h:Dh l):∀i,i+1<l.length->ltP (l.getD i ϰ) (l.getD (i+1) ϰ):=λi a=>by
 rw[getD_at ϟ,getD_at a];exact pairwise_iff_getElem.1 h i (i+1) ϟ a ϟ
theorem FZ{l:List Ent}(h:Dh l):Md l:=λi j d a c=>by
 have:=pairwise_iff_getElem.1 h i j ϟ a d;rw[getD_at (by omega:i<l.length),getD_at a]at c;exact CL _ (Co this c)
theorem EU{l:List Ent}(P:Ent->Bool)(h:Dh l):Dh (l.filter P):=h.sublist filter_sublist
theorem QX:∀{l m:List Ent},l.Perm m->Dh l->Dh m->l=m
 |[],m,hp,_,_=>(nil_perm.1 hp).symm
 |a::l,[],hp,_,_=>absurd (perm_nil.1 hp) ϡ
 |a::l,b::m,hp,h1,h2=>by
  have d:=pairwise_cons.1 h1;have f:=pairwise_cons.1 h2;have o:a=b:=by
   have ha:a∈b::m:=hp.mem_iff.1 (mem_cons_self ..);have q:b∈a::l:=hp.mem_iff.2 (mem_cons_self ..);rcases mem_cons.1 ha with h|h
   ·exact h
   ·rcases mem_cons.1 q with c|c
    ·exact c.symm
    ·exact absurd (Co (d.1 b c) (f.1 a h)) (CL _)
  subst o;rw[QX (List.Perm.cons_inv hp) d.2 f.2]
theorem Fw{l m:List Ent}(h:l.Perm m):(l.map Az).Nodup↔(m.map Az).Nodup:=(h.map Az).nodup_iff
theorem YJ{l m:List Ent}(h:l.Perm m)(p:Plc):hasB l p=hasB m p:=by
 rw[Bool.eq_iff_iff];unfold hasB;simp only[any_eq_true]
 constructor
 ·rintro ⟨x,hx,e⟩;exact⟨x,h.mem_iff.1 hx,e⟩
 ·rintro ⟨x,hx,e⟩;exact⟨x,h.mem_iff.2 hx,e⟩
theorem PQ{l:List Ent}(h:hasB l p=false):p ∉ l.map Az:=λa=>by
 obtain⟨x,hx,e⟩:=mem_map.1 a;unfold hasB at h;have:=any_eq_false.1 h x hx;simp[e]at this
theorem C3(b:Buf):Aa b=b.mem++b.runs.flatten:=by unfold Aa partsB;rw[flatten_cons]
theorem En(h:okB b):Dy b=0:=by
 have f:A8 b.lim 1 64=true:=(Bh _ _ _).2 h.lim;have l:countB b=true:=by unfold countB;simp only[Bool.and_eq_true,decide_eq_true_eq];exact⟨h.mem,h.all⟩
 have m:Fo b=true:=by
  unfold Fo;simp only[Bool.and_eq_true];refine⟨Bb.2 λi a=>?_,?_,?_⟩
  ·rw[getD_at a];have d:(partsB b)[i]∈partsB b:=getElem_mem a;refine Bb.2 λj c=>?_;unfold FM;simp only[Bool.and_eq_true,Bool.or_eq_true,decide_eq_true_eq];refine⟨F0 ?_,?_⟩
   ·rw[getD_at c];exact h.fine _ d _ (getElem_mem c)
   ·cases j with
    |zero=>exact .inl rfl
    |succ j=>exact .inr (h.rise _ d j c)
  ·unfold Jm;refine Bb.2 λi a=>?_;rw[getD_at a];exact decide_eq_true (h.full _ (getElem_mem a))
  ·unfold C5;exact decide_eq_true h.once
 unfold Dy;rw[f,l,m];rfl
theorem okB.rises(h:okB b){l:List Ent}(a:l∈partsB b):Dh l:=Jr (h.rise l a)
theorem okB.entry(h:okB b){y:Ent}(hy:y∈Aa b):E9 y:=by
 obtain⟨l,a,hy⟩:=mem_flatten.1 hy;exact h.fine l a y hy
theorem PU(h1:1<=b.lim/\b.lim<=64)(c:(b.mem.length:Int)<=b.lim)(d:(Aa b).length<=4096)(f:∀y∈Aa b,E9 y)(h:∀l∈partsB b,Dh l)(m:∀r∈b.runs,0<r.length)(o:((Aa b).map Az).Nodup):okB b:=
 ⟨h1,c,d,λl a y q=>f y (mem_flatten.2 ⟨l,a,q⟩),λl a=>M3 (h l a),m,o⟩
theorem QY{d:List Ent}{y:Ent}(c:d.Perm (b.mem++[y])):(Aa (FA b d)).Perm (y::Aa b):=by
 have a:(b.mem++[y]++b.runs.flatten).Perm (y::(b.mem++b.runs.flatten)):=by
  rw[append_assoc];exact perm_middle
 unfold FA;split
 ·rw[C3,C3];dsimp only;rw[flatten_append,nil_append];simp only[flatten_cons,flatten_nil,append_nil];exact(perm_append_comm).trans ((c.append_right _).trans a)
 ·rw[C3,C3];exact(c.append_right _).trans a
theorem Wy{d:List Ent}{y:Ent}(h:okB b)(u:E9 y)(hh:hasB (Aa b) (Az y)=false)(F:(Aa b).length≠4096)(m:d.Perm (b.mem++[y]))(s:Md d):okB (FA b d):=by
 have f:=QY (b:=b) m;have D:((y::Aa b).map Az).Nodup:=nodup_cons.2 ⟨PQ hh,h.once⟩;have B:(d.map Az).Nodup:=by
  rw[Fw m];have hs:((b.mem++[y]).map Az).Perm ((y::b.mem).map Az):=(perm_append_comm).map _;rw[hs.nodup_iff];refine nodup_cons.2 ⟨λC=>PQ hh ?_,?_⟩
  ·rw[C3,map_append];exact mem_append.2 (.inl C)
  ·have:=h.once;rw[C3,map_append]at this;exact(nodup_append.1 this).1
 have q:=JC s B;have A:(FA b d).lim=b.lim:=by unfold FA;split<;>rfl
 refine PU (by rw[A];exact h.lim) ?_ ?_ (λz o=>?_) (λl a=>?_) (λr c=>?_) ?_
 ·have:=h.lim;unfold FA;split
  ·dsimp only[length_nil];omega
  ·dsimp only;omega
 ·rw[f.length_eq,length_cons];have:=h.all;omega
 ·rcases mem_cons.1 (f.mem_iff.1 o)with rfl|o
  ·exact u
  ·exact h.entry o
 ·unfold FA at a;split at a
  ·rcases mem_cons.1 a with rfl|a
   ·exact List.Pairwise.nil
   ·rcases mem_append.1 a with a|a
    ·exact h.rises (mem_cons_of_mem _ a)
    ·have:l=d:=by simpa using a
     rw[this];exact q
  ·rcases mem_cons.1 a with rfl|a
   ·exact q
   ·exact h.rises (mem_cons_of_mem _ a)
 ·have E:d.length=b.mem.length+1:=by rw[m.length_eq];simp
  unfold FA at c;split at c
  ·rcases mem_append.1 c with c|c
   ·exact h.full r c
   ·have:r=d:=by simpa using c
    rw[this];omega
  ·exact h.full r c
 ·rw[Fw f];exact D
theorem OC(P:Ent->Bool):∀l:List (List Ent),(Dg P l).flatten=l.flatten.filter P
 |[]=>rfl
 |r::l=>by
  have a:=OC P l;unfold Dg at a⊢;rw[map_cons,flatten_cons,filter_append,<-a];by_cases h:0<(r.filter P).length
  ·rw[filter_cons_of_pos (by simpa using h),flatten_cons]
  ·have:r.filter P=[]:=length_eq_zero_iff.1 ϟ;rw[filter_cons_of_neg (by simpa using h),this,nil_append]
theorem I5(P:Ent->Bool)(b:Buf):Aa (Bt P b)=(Aa b).filter P:=by
 rw[C3,C3,filter_append];unfold Bt;dsimp only;rw[OC]
theorem Js(P:Ent->Bool)(h:okB b):okB (Bt P b):=by
 have c:=I5 P b;refine PU h.lim ?_ ?_ (λz f=>?_) (λl a=>?_) (λr d=>?_) ?_
 ·have m:=h.mem;have o:(Bt P b).mem.length<=b.mem.length:=length_filter_le _ _;show((Bt P b).mem.length:Int)<=b.lim;omega
 ·rw[c];exact Nat.le_trans (length_filter_le _ _) h.all
 ·rw[c]at f;exact h.entry (mem_filter.1 f).1
 ·rcases mem_cons.1 a with rfl|a
  ·exact EU P (h.rises (mem_cons_self ..))
  ·obtain⟨a,_⟩:=mem_filter.1 (show l∈Dg P b.runs from a);obtain⟨r,d,rfl⟩:=mem_map.1 a;exact EU P (h.rises (mem_cons_of_mem _ d))
 ·obtain⟨_,a⟩:=mem_filter.1 (show r∈Dg P b.runs from d);exact of_decide_eq_true a
 ·rw[c];exact h.once.sublist (filter_sublist.map _)
def x0:BX:=⟨none,0,((none,0,0),[]),[]⟩
def notE:Nat->Obj->Prop:=λ_ o=> ∀c f,o≠ .cells c 63 f
theorem M4{W:ϛ}{b:Nat}(h:An W b t)(ht:t≠63):names notE W b:=λo m c f e=>by
 obtain⟨q,r,a⟩:=h;rw[m]at a;rw[e]at a;injection a with d
 injection d with _ l _
 exact ht l.symm
theorem OP.same{a:List (List EM)}{d:List (List Ent)}(h:OP w base hs a d)(c:w.heap.size<=w'.heap.size)(f:∀g,An w g 63\/An w g 103->w'.heap[g]? =w.heap[g]?):OP w' base hs a d:=
 ⟨Nat.le_trans h.low c,h.l1,h.l2,λk l=>(h.oe k l).other c f,h.two⟩
theorem ty_row{row:Option Nat}(m:X.grownBy Y row)(o:∀r,row=some r->∃x:Obj,X.heap[r]? =some x/\x.isCells=false)(h:An X g t):Y.heap[g]? =X.heap[g]? :=
 m.block g (AX h) (λe=>by
  obtain⟨x,a,d⟩:=o g e.symm;obtain⟨c,f,l⟩:=h;rw[l]at a;cases a;cases d)
def meetP(p:Plc)(y:Ent):Ent:=if Az y=p then y.meet else y
def D9(p:Plc)(b:Buf):Buf:=⟨b.lim,b.mem.map (meetP p),b.runs.map λl=>l.map (meetP p)⟩
def metL(p:Plc)(l:List Ent)(k:Nat):List Ent:=(l.take k).map (meetP p)++l.drop k
def DG(p:Plc)(ls:List (List Ent))(k:Nat):List (List Ent):=(ls.take k).map (λl=>l.map (meetP p))++ls.drop k
theorem Hy(p:Plc)(l:List Ent)(k:Nat):(metL p l k).length=l.length:=by
 unfold metL;rw[lAp,lMp,length_take,length_drop];omega
theorem OD(p:Plc)(l:List (List Ent))(k:Nat):(DG p l k).length=l.length:=by
 unfold DG;rw[lAp,lMp,length_take,length_drop];omega
theorem PV{l:List Ent}(h:k<l.length):(metL p l k).getD k ϰ=l.getD k ϰ:=by
 unfold metL;have a:((l.take k).map (meetP p)).length=k:=by rw[lMp,length_take];omega
 rw[AH ϟ,a,Nat.sub_self];simp[gDe]
theorem QZ{l:List (List Ent)}(h:k<l.length):(DG p l k).getD k []=l.getD k []:=by
 unfold DG;have a:((l.take k).map (λl=>l.map (meetP p))).length=k:=by rw[lMp,length_take];omega
 rw[AH ϟ,a,Nat.sub_self];simp[gDe]
theorem B4{α:Type}{l:List α}{d:α}(h:k<l.length):l.drop k=l.getD k d::l.drop (k+1):=by
 rw[drop_eq_getElem_cons h,gDe,gEe h];rfl
theorem set_mid{α β:Type}(f:α->β)(A:List α)(k:Nat)(x y:β)(B:List β)(h:k<=A.length):((A.take k).map f++x::B).set k y=(A.take k).map f++y::B:=by
 have a:((A.take k).map f).length=k:=by rw[lMp,length_take];omega
 rw[set_append_right _ _ ϟ,a,Nat.sub_self];rfl
theorem JD{α β:Type}(f:α->β)(l:List α)(k:Nat)(d:α)(h:k<l.length):(l.take (k+1)).map f=(l.take k).map f++[f (l.getD k d)]:=by
 rw[take_succ_eq_append_getElem h,map_append,gDe,gEe h];rfl
theorem OG{l:List Ent}(h:k<l.length)(y:Ent)(hy:y=meetP p (l.getD k ϰ)):(metL p l k).set k y=metL p l (k+1):=by
 subst hy;unfold metL;rw[B4 (d:=ϰ) h,set_mid _ _ _ _ _ _ ϟ,JD _ _ _ ϰ h,append_assoc];rfl
theorem YK{l:List Ent}(h:k<l.length)(a:Az (l.getD k ϰ)=p):(metL p l k).set k ((metL p l k).getD k ϰ).meet=metL p l (k+1):=
 OG h _ (by rw[PV h];unfold meetP;rw[if_pos a])
theorem AaO{l:List Ent}(h:k<l.length)(a:Az (l.getD k ϰ)≠p):metL p l k=metL p l (k+1):=by
 rw[<-OG h (meetP p (l.getD k ϰ)) rfl];unfold meetP;rw[if_neg a,<-PV (p:=p) h,gDe,gEe (by rw[Hy];exact h)];exact(set_getElem_self _).symm
theorem Wz(p:Plc)(l:List Ent):metL p l 0=l:=by simp[metL]
theorem YL(p:Plc)(l:List Ent):metL p l l.length=l.map (meetP p):=by simp[metL]
theorem Tt{l:List (List Ent)}(h:k<l.length):(DG p l k).set k ((l.getD k []).map (meetP p))=DG p l (k+1):=by
 unfold DG;rw[B4 (d:=[]) h,set_mid _ _ _ _ _ _ ϟ,JD _ _ _ [] h,append_assoc];rfl
theorem Tu(p:Plc)(l:List (List Ent)):DG p l 0=l:=by simp[DG]
theorem W8(p:Plc)(b:Buf):DG p (partsB b) (partsB b).length=partsB (D9 p b):=by simp[DG,partsB,D9]
theorem set_self{α:Type}{l:List α}{d:α}(h:k<l.length):l.set k (l.getD k d)=l:=by
 rw[gDe,gEe h];exact set_getElem_self _
structure MSt(w V X:World)(base:Nat)(hs:List Hdr)(hv:Value)(hn:Nat)(hx:List Value)(ls:List (List Ent)):Prop where
 op:∃ess,OP X base hs ess ls
 hds:X.ownsRow base 26 1 hv hn hx
 ko:KeepO notE V X
 bl:Ϟ w X
theorem MSt.row{f:List (List Ent)}{row:Option Nat}{B:Nat}(h:MSt w V X base hs hv hn hx f)(m:w.heap.size<=B)(a:X.grownBy Y row)(c:∀r,row=some r->B<=r/\∃x:Obj,X.heap[r]? =some x/\x.isCells=false):MSt w V Y base hs hv hn hx f:=by
 obtain⟨l,o⟩:=h.op;exact⟨⟨l,o.same a.size (λg d=>by rcases d with k|k;exact ty_row a (λr e=>(c r e).2) k;exact ty_row a (λr e=>(c r e).2) k)⟩,A2 h.hds (λg d=>ty_row a (λr e=>(c r e).2) (A6 h.hds d)),h.ko.grown a (λr e=>(c r e).2),Di h.bl nR m a c⟩
theorem JF{c:Nat->Obj->Prop}(d:Ϟ X Y):KeepO c X Y:=λb o a _ _=>(d.block b (Array.getElem?_eq_some_iff.1 a).1).trans a
theorem MSt.below{c:List (List Ent)}(h:MSt w V X base hs hv hn hx c)(a:Ϟ X Y):MSt w V Y base hs hv hn hx c:=by
 obtain⟨d,f⟩:=h.op;exact⟨⟨d,f.below a⟩,own_below h.hds a,h.ko.trans (JF a),h.bl.trans (a.mono h.bl.size)⟩
theorem MSt.met{a:List (List Ent)}(h:MSt w V X base hs hv hn hx a)(I:w.heap.size<=base)(s:k<hs.length)(D:i<(a.getD k []).length)(l:(hs.getD k hd0).1=some ⟨g,0,none⟩):
 MSt w V (φ X g (i * 5+4) (.bool true)) base hs hv hn hx (a.set k ((a.getD k []).set i ((a.getD k []).getD i ϰ).meet))/\KeepO notE X (φ X g (i * 5+4) (.bool true)):=by
 obtain⟨E,y⟩:=h.op;have m:=y.oe k s;have z:(hdV (hs.getD k hd0)).ownBlock=some g:=by
  obtain⟨F,r⟩:=Hx m ϟ;rw[r]at l
  cases l
  rw[r];rfl
 have A:An X g 63:=A6 m.own z;have H:=(AM m.own z).1;have u:KeepO notE X (φ X g (i * 5+4) (.bool true)):=λb o q G B=>by
  refine(heap_setCell_other _ _ _ _ (λe=>?_)).trans q;dsimp only at e;subst e;obtain⟨c,f,d⟩:=A;rw[q]at d;injection d with d
  exact B c f d
 refine⟨⟨⟨_,YH y s D l⟩,A2 h.hds (λb C=>heap_setCell_other _ _ _ _ (λe=>?_)),h.ko.trans u,h.bl.setCell ϥ _⟩,u⟩;dsimp only at e;subst e;exact tyAt_apart A (A6 h.hds C) Ϡ rfl
theorem YM{c:Buf}{a:List (List EM)}(d:OP X base ((x.m::x.rs).map (·.1)) a (partsB c))(u:X.ownsRow base 26 1 (vS x.ra x.rs.length x.rc) x.rs.length (x.rs.map λp=>hdV p.1)):∃x',AF c x'=AF ⟨c.lim,b.mem,b.runs⟩ x/\OB X base x' c:=by
 have y:a.length=x.rs.length+1:=by rw[d.l1];simp
 have z:c.runs.length=x.rs.length:=by have:=d.l2;simp[partsB]at this;exact this
 have A:(x.rs.map (·.1)).length=a.tail.length:=by rw[lMp,length_tail,y];rfl
 have f:((x.rs.map (·.1)).zip a.tail).length=x.rs.length:=by rw[length_zip,<-A,lMp,Nat.min_self]
 have s:((x.rs.map (·.1)).zip a.tail).map (·.1)=x.rs.map (·.1):=map_fst_zip ϟ;have l:((x.rs.map (·.1)).zip a.tail).map (λp=>hdV p.1)=x.rs.map λp=>hdV p.1:=by
  have:((x.rs.map (·.1)).zip a.tail).map (λp=>hdV p.1)=(((x.rs.map (·.1)).zip a.tail).map (·.1)).map hdV:=by rw[map_map];rfl
  rw[this,s,map_map];rfl
 refine⟨⟨x.ra,x.rc,(x.m.1,a.getD 0 []),(x.rs.map (·.1)).zip a.tail⟩,?_,?_⟩
 ·unfold AF;dsimp only;rw[f]
 ·refine⟨d.low,?_,?_,?_,λi B=>?_,?_⟩
  ·exact d.oe 0 ϡ
  ·dsimp only;rw[f,l];exact u
  ·dsimp only;rw[f,z]
  ·dsimp only;have h:i<x.rs.length:=ϟ;have m:=d.oe (i+1) Ϥ;have o:((x.m::x.rs).map (·.1)).getD (i+1) hd0=(((x.rs.map (·.1)).zip a.tail).getD i ϰ).1:=by
    rw[map_cons,getD_cons_succ,gDe,gDe,gEe (by rw[lMp];exact h),gEe (by rw[f];exact h)];simp
   have q:a.getD (i+1) []=(((x.rs.map (·.1)).zip a.tail).getD i ϰ).2:=by
    rw[gDe,gDe,gEe ϟ,gEe (by rw[f];exact h)];simp
   have r:(partsB c).getD (i+1) []=c.runs.getD i ϰ:=by
    unfold partsB;rw[getD_cons_succ];rfl
   rw[o,q,r]at m;exact m
  ·dsimp only;rw[map_cons,l];have:=d.two;rw[map_map,map_cons]at this;exact this
theorem PW{a b:ByteArray}(h:a≠b):¬a.toList=b.toList:=λe=>h (by have:=bytes_beq a b;rw[e]at this;simpa using this.symm)
theorem I6(e f:EM)(w:ϛ):η 55 #[e.val,f.val] w (θ w (vI (cmpP e.ent f.ent))):=by
 obtain⟨R,z⟩:=nM (cmpP e.ent f.ent);have a:ϝ (Bd [Lib.compareBytes (bl e.key) (bl f.key),Dl e.time f.time,Dl e.seq f.seq]=R):=by
  show _=_;rw[<-z];exact Jz e.ent f.ent
 rw[z];clear z;obtain⟨d,h,s,⟨L,M,N⟩,F⟩:=e;obtain⟨m,l,u,⟨I,J,K⟩,G⟩:=f;unfold EM.val hdV;dsimp only at a⊢;by_cases A:d=m
 ·subst A;have y:Lib.compareBytes (bl d) (bl d)=0:=by rw[Ms];simp
  rw[y]at a;by_cases q:Dl h l=0
  ·have c:ϝ (Dl s u=R):=by
    show _=_;rw[<-a.o,q];unfold Bd;by_cases D:Dl s u=0<;>simp[Bd,D]
   clear a y;have C:ϝ (∀r,CT 105 #[vI h,vI l] r λe w'=>e= .returned (vI 0)/\w'=r):=λr=>by have:=Ls h l r;rwa[q]at this
   go_enter func55,ntmps55;go_wp2_with (go_at_call 105;first|(refine(C.o _).mono ?_;rintro e w' ⟨rfl,rfl⟩)|(refine(Ls s u _).mono ?_;rintro e w' ⟨rfl,rfl⟩));go_ret;refine⟨Af c.o,?_⟩
   repeat (first|exact bR|apply Below.drew|(refine Below.alloc ?_ Ϧ _))
  ·have c:ϝ (Dl h l=R):=by
    show _=_;rw[<-a.o];simp[Bd,q]
   clear a y;have H:(Dl h l !=0)=true:=by simpa using q
   go_enter func55,ntmps55;go_wp2_with (go_at_call 105;refine(Ls h l _).mono ?_;rintro e w' ⟨rfl,rfl⟩);go_ret;refine⟨Af c.o,?_⟩
   repeat (first|exact bR|apply Below.drew|(refine Below.alloc ?_ Ϧ _))
 ·have B:=PW A;have O:(d.toList==m.toList)=false:=by simpa using B
  clear B;by_cases o:bl d<bl m
  ·have c:ϝ ((-1:Int)=R):=by
    show _=_;rw[<-a.o,Ms,if_pos o];rfl
   clear a;have E:Op.bytesLess d.toList m.toList=true:=by rw[Lib.toList_data,Lib.toList_data,Gh];exact decide_eq_true o
   go_enter func55,ntmps55;go_wp2;go_ret;refine⟨Af c.o,?_⟩
   repeat (first|exact bR|apply Below.drew|(refine Below.alloc ?_ Ϧ _))
  ·have c:ϝ ((1:Int)=R):=by
    show _=_;rw[<-a.o,Ms,if_neg o,if_neg (λe=>A (Q0 e))];rfl
   clear a;have E:Op.bytesLess d.toList m.toList=false:=by rw[Lib.toList_data,Lib.toList_data,Gh];exact decide_eq_false o
   go_enter func55,ntmps55;go_wp2;go_ret;refine⟨Af c.o,?_⟩
   repeat (first|exact bR|apply Below.drew|(refine Below.alloc ?_ Ϧ _))
end bf
namespace bf
open vl
attribute [local go_sem] Oper.semAt_some
variable {w : ϛ} {b : Buf} {x x' : BX}
theorem Ra(a P:Ϝ)(c c':Nat)(es o:List EM)(l:List Ent)(w:ϛ)(ha:BG w a es)(hr:ERs w es l)(U:BG w P o)(aa:ERs w o l)(hl:l.length<=χ)(ab:∀y∈l,y.row.length<=χ):
 η 74 #[vS a l.length c,vS P l.length c'] w (θ w (.bool true)):=by
 have HA:=hV0 ha;have ad:=hV0 U;have N:=hV0 hr;have O:=hV0 aa;have ae:=hV0 ab;obtain⟨n,hn⟩:∃n,l.length=n:=⟨_,rfl⟩;have s:=hV0 hn;rw[hn]at hl⊢;clear hn ha U hr aa ab;go_enter func74,ntmps74;go_wp2
 go_loopw [5] (λi wr=> ∃k:Nat,k<=n/\i=vI k/\Ϟ w wr) (λi _=>n - (intOf i).toNat)
 case atStart=>exact⟨0,Nat.zero_le _,rfl,bR⟩
 case round=>
  obtain⟨k,hk,rfl,d⟩:=hrel;by_cases B:k<n
  ·obtain⟨b1,o1,e1,x1,x2,x3,x4,x5⟩:=HA.o k (by rw[N.o.1,s.o];exact B);obtain⟨b2,o2,e2,y1,y2,y3,y4,y5⟩:=ad.o k (by rw[O.o.1,s.o];exact B);subst e1 e2;have I:=cLz d x1;have J:=cLz d x2;have K:=cLz d x3;have C:=cLz d x4;have L:=cLz d x5;have u1:=cLz d y1;have u2:=cLz d y2;have u3:=cLz d y3;have u4:=cLz d y4;have u5:=cLz d y5;clear x1 x2 x3 x4 x5 y1 y2 y3 y4 y5;have q:=(N.o.2 k (by rw[s.o];exact B)).below d;have r:=(O.o.2 k (by rw[s.o];exact B)).below d;have Z:l.getD k ϰ∈l:=AD (by rw[s.o];exact B);have M:=ae.o _ Z;have u:ϝ (∀m,CT 55 #[(es.getD k ϰ).val,(o.getD k ϰ).val] m (θ m (vI 0))):=λm=>by
    have H:=I6 (es.getD k ϰ) (o.getD k ϰ) m;rwa[Kg q r,GG.2 (Uw _)]at H
   have A:ϝ (∀m,Ϟ wr m->CT 22 #[hdV (es.getD k ϰ).row,hdV (o.getD k ϰ).row] m (θ m (.bool true))):=λm W=>by
    have H:=RU (es.getD k ϰ).row.1 (o.getD k ϰ).row.1 (es.getD k ϰ).row.2.2 (o.getD k ϰ).row.2.2 (l.getD k ϰ).row (l.getD k ϰ).row m (Ac q.row W) (Ac r.row W) M M;rw[decide_eq_true rfl]at H;unfold hdV;rw[q.len,r.len];exact H
   have D:=q.key.trans r.key.symm;have E:=q.time.trans r.time.symm;have F:=q.seq.trans r.seq.symm;have G:=q.met.trans r.met.symm;clear q r Z M;obtain⟨⟨Q,T,S,⟨r1,r2,r3⟩,R⟩,hz⟩:∃z,es.getD k ϰ=z:=⟨_,rfl⟩;obtain⟨⟨fk,ft,fs,⟨q1,q2,q3⟩,fm⟩,ac⟩:∃z,o.getD k ϰ=z:=⟨_,rfl⟩;rw[hz]at I J K C L u A D E F G;rw[ac]at u1 u2 u3 u4 u5 u A D E F G;unfold EM.val hdV at u;unfold hdV at A C u4;dsimp only at I J K C L u1 u2 u3 u4 u5 u A D E F G;subst D E F G;clear hz ac;have i1:(0:Int)<=(k:Int):=ϟ;have i2:(k:Int)<(n:Int):=ϟ;have dr:Ϟ wr wr.drew:=bR.drew;go_wp2
   go_region_held3
    (λw'=>ύ w' b1 (o1+k * 5) (.string Q) (vI T) (vI S) (vS r1 r2 r3) (.bool R) (ό w' b2 (o2+k * 5) (.string Q) (vI T) (vI S) (vS q1 q2 q3) (.bool R)))
    (first|go_keep|exact⟨cLz h I,cLz h J,cLz h K,cLz h C,cLz h L,cLz h u1,cLz h u2,cLz h u3,cLz h u4,cLz h u5⟩|exact⟨cLz f I,cLz f J,cLz f K,cLz f C,cLz f L,cLz f u1,cLz f u2,cLz f u3,cLz f u4,cLz f u5⟩)
    (first
     |(go_at_call 22;refine(A.o _ f).mono ?_;rintro e wq ⟨rfl,ag⟩;have h:=bT f ag)
     |(go_at_call 55;refine(u.o _).mono ?_;rintro e wp ⟨rfl,af⟩;have f:=dr.trans af))
   all_goals
    have ah:Ϟ w wq:=bT d h;go_wp2;go_roundw
    case rel=>exact⟨k+1,ϟ,by go_num,ah⟩
    case measure=>simp[intOf];omega
  ·go_wp2;go_ret;exact⟨rfl,d⟩
theorem WC(h:bufAt w b x)(c:bufAt w b x')(r:∀l∈partsB b,l.length<=χ)(s:∀y∈Aa b,y.row.length<=χ)(i:Nat)(a:i<b.runs.length):
 η 74 #[hdV (x.rs.getD i ϰ).1,hdV (x'.rs.getD i ϰ).1] w (θ w (.bool true)):=by
 have m:x.rs.getD i ϰ∈x.m::x.rs:=mem_cons_of_mem _ (AD (by rw[h.rlen];exact a));have o:x'.rs.getD i ϰ∈x'.m::x'.rs:=mem_cons_of_mem _ (AD (by rw[c.rlen];exact a));have d:=h.runs i a;have f:=c.runs i a;have q:b.runs.getD i ϰ∈partsB b:=mem_cons_of_mem _ (AD a);have k:=Ra (x.rs.getD i ϰ).1.1 (x'.rs.getD i ϰ).1.1 (x.rs.getD i ϰ).1.2.2 (x'.rs.getD i ϰ).1.2.2 _ _ (b.runs.getD i ϰ) w (h.ems _ m) d (c.ems _ o) f (r _ q) (λy u=>s y (mem_flatten.2 ⟨_,q,u⟩));unfold hdV;rw[(h.len _ m).1,(c.len _ o).1,d.1,f.1];exact k
theorem YN(h:bufAt w b x)(a:bufAt w b x')(m:∀l∈partsB b,l.length<=χ)(o:∀y∈Aa b,y.row.length<=χ):
 η 74 #[hdV x.m.1,hdV x'.m.1] w (θ w (.bool true)):=by
 have c:x.m∈x.m::x.rs:=mem_cons_self ..;have d:x'.m∈x'.m::x'.rs:=mem_cons_self ..;have f:b.mem∈partsB b:=mem_cons_self ..;have k:=Ra x.m.1.1 x'.m.1.1 x.m.1.2.2 x'.m.1.2.2 _ _ b.mem w (h.ems _ c) h.mem (a.ems _ d) a.mem (m _ f) (λy q=>o y (mem_flatten.2 ⟨_,f,q⟩));unfold hdV;rw[(h.len _ c).1,(a.len _ d).1,h.mem.1,a.mem.1];exact k
theorem Rb(b:Buf)(x x':BX)(w:ϛ)(h:bufAt w b x)(r:bufAt w b x')(N:∀l∈partsB b,l.length<=χ)(O:∀y∈Aa b,y.row.length<=χ):
 η 38 #[AF b x,AF b x'] w (θ w (.bool true)):=by
 have K:ϝ (∀a,Ϟ w a->CT 74 #[hdV x.m.1,hdV x'.m.1] a (θ a (.bool true))):=λa c=>YN (Ag h c) (Ag r c) N O;have L:ϝ (∀i a,i<b.runs.length->Ϟ w a->CT 74 #[hdV (x.rs.getD i ϰ).1,hdV (x'.rs.getD i ϰ).1] a (θ a (.bool true))):=λi a hi c=>WC (Ag h c) (Ag r c) N O i hi;have W:ϝ (F8 w x.ra (x.rs.map (·.1))):=h.hds;have Z:ϝ (F8 w x'.ra (x'.rs.map (·.1))):=r.hds;have m:=h.rlen;have u:=r.rlen;have ac:=h.few;clear h r N O;obtain⟨I,A,⟨⟨P,Q,R⟩,ml⟩,C⟩:=x;obtain⟨J,B,⟨⟨S,T,U⟩,ql⟩,D⟩:=x';obtain⟨o,al,ag⟩:=b;unfold AF hdV;unfold hdV at K;dsimp only at K L W Z m u ac⊢;obtain⟨n,hn⟩:∃n,ag.length=n:=⟨_,rfl⟩;have f:ϝ (C.length=n/\D.length=n):=⟨by rw[m,hn],by rw[u,hn]⟩;rw[hn]at L m u;rw[m]at ac;rw[m,u];clear hn m u;have M:Ϟ w (ξ (ξ w (ν o P Q R I n A) 29) (ν o S T U J n B) 29):=by
  repeat (first|exact bR|(refine Below.alloc ?_ Ϧ _))
 have k1:Δ (ξ (ξ w (ν o P Q R I n A) 29) (ν o S T U J n B) 29) w 2 (vS I n A):=ϣ;have k2:Δ (ξ (ξ w (ν o P Q R I n A) 29) (ν o S T U J n B) 29) (w+1) 2 (vS J n B):=ϣ;go_enter func38,ntmps38;go_wp2_with fail;refine(K.o _ M).mono ?_;rintro e a ⟨rfl,F⟩;have c1:=cLz F k1;have c2:=cLz F k2;have aj:w.heap.size<a.heap.size:=bLt _ _ c1;have ak:w.heap.size+1<a.heap.size:=bLt _ _ c2;have af:Ϟ w a:=bT M F;clear k1 k2 M F;go_wp2
 go_loopw [5] (λi wr=> ∃k:Nat,k<=n/\i=vI k/\Ϟ a wr) (λi _=>n - (intOf i).toNat)
 case atStart=>exact⟨0,Nat.zero_le _,rfl,bR⟩
 case round=>
  obtain⟨k,hk,rfl,H⟩:=hrel;have d1:=cLz H c1;have d2:=cLz H c2;have G:=bT af H;have ah:w.heap.size<wr.heap.size:=bLt _ _ d1;have ai:w.heap.size+1<wr.heap.size:=bLt _ _ d2;by_cases d:k<n
  ·obtain⟨b1,o1,e1,x1⟩:=W.o k (by rw[lMp,f.o.1];exact d);obtain⟨b2,o2,e2,y1⟩:=Z.o k (by rw[lMp,f.o.2];exact d);subst e1 e2;have E:=cLz G x1;have u1:=cLz G y1;have aa:(C.map (·.1)).getD k (none,0,0)=(C.getD k ϰ).1:=by rw[gDe,getElem?_map,gEe (by rw[f.o.1];exact d),gDe,gEe (by rw[f.o.1];exact d)];rfl
   have ab:(D.map (·.1)).getD k (none,0,0)=(D.getD k ϰ).1:=by rw[gDe,getElem?_map,gEe (by rw[f.o.2];exact d),gDe,gEe (by rw[f.o.2];exact d)];rfl
   rw[aa]at E;rw[ab]at u1;have q:ϝ (∀a,Ϟ w a->CT 74 #[hdV (C.getD k ϰ).1,hdV (D.getD k ϰ).1] a (θ a (.bool true))):=λa c=>L.o k a d c;obtain⟨⟨⟨s1,s2,s3⟩,sl⟩,hz⟩:∃z,C.getD k ϰ=z:=⟨_,rfl⟩;obtain⟨⟨⟨t1,t2,t3⟩,tl⟩,ad⟩:∃z,D.getD k ϰ=z:=⟨_,rfl⟩;rw[hz]at E q;rw[ad]at u1 q;unfold hdV at E u1 q;dsimp only at E u1 q;have i1:(0:Int)<=(k:Int):=ϟ;have i2:(k:Int)<(n:Int):=ϟ;clear hz ad aa ab x1 y1;go_wp2
   go_region_held3 (λw'=>Δ w' w 2 (vS (some ⟨b1,o1,none⟩) n A)/\Δ w' (w+1) 2 (vS (some ⟨b2,o2,none⟩) n B)/\Δ w' b1 (o1+k) (vS s1 s2 s3)/\Δ w' b2 (o2+k) (vS t1 t2 t3)) (first|go_keep|exact⟨cLz s d1,cLz s d2,cLz s E,cLz s u1⟩)
    (first|(go_at_call 74;refine(q.o _ G.drew).mono ?_;rintro e wq ⟨rfl,ae⟩;have s:Ϟ wr wq:=bR.drew.trans ae))
   all_goals
    go_wp2;go_roundw
    case rel=>exact⟨k+1,ϟ,by go_num,bT H s⟩
    case measure=>simp[intOf];omega
  ·go_wp2;go_ret;exact⟨rfl,G⟩
theorem WE(e:EM)(x:Ent)(w:ϛ)(h:ER w e x)(hw:wfE x)(L:x.key.size<=140737488355328):
 η 82 #[e.val] w (θ w (.bool (Dp x))):=by
 obtain⟨c,r,q,⟨Q,b1,S⟩,E⟩:=e;obtain⟨T,U,W,Z,h5,H⟩:=h;obtain⟨xk,xt,xs,s,xm⟩:=x;obtain⟨a,M,N⟩:=hw;dsimp only at T U W Z h5 H a M N L;subst T U W Z h5;obtain⟨R,C⟩:=nM (Dp ⟨c,r,q,s,E⟩);have ab:ϝ (E9 ⟨c,r,q,s,E⟩->true=R):=λh=>by rw[<-C,F0 h]
 have u:ϝ (¬E9 ⟨c,r,q,s,E⟩->false=R):=λh=>by rw[<-C,Nw h]
 have A:=hIz (λ(a:ϛ) (z:Ϟ w a)=>Dt Q S s a (vl.Ac H z) M N);have m:=hIz (λ(a:ϛ)=>tm.B7 r a);rw[C];obtain⟨ke,K⟩:=nM (A3 s);rw[K]at A;have O:=hV0 K;obtain⟨n,hn⟩:=nM s.length;rw[hn]at A;unfold EM.val hdV;dsimp only;rw[hn];clear C K hn H M N a;have o:Ϟ w (ξ w (ζ c r q Q n S E) 63):=Ϫ
 cases hf:tm.Bc r with
 |false=>
  have d:ϝ (false=R):=u.o (λh=>by have:=h.2.2.1;rw[hf]at this;cases this);rw[hf]at m;go_enter func82,ntmps82;go_wp2_with (go_at_call 66;refine(m.o _).mono ?_;rintro e w' ⟨rfl,f⟩;subst f);go_ret;exact⟨Ab d.o,o⟩
 |true=>
  rw[hf]at m;by_cases s0:q<0
  ·have d:ϝ (false=R):=u.o (λh=>by have:=h.2.2.2.1;dsimp only at this;omega);go_enter func82,ntmps82;go_wp2_with (go_at_call 66;refine(m.o _).mono ?_;rintro e w' ⟨rfl,f⟩;subst f);go_ret;exact⟨Ab d.o,o⟩
  ·by_cases s2:q>1099511627776
   ·have d:ϝ (false=R):=u.o (λh=>by have:=h.2.2.2.2;dsimp only at this;omega);go_enter func82,ntmps82;go_wp2_with (go_at_call 66;refine(m.o _).mono ?_;rintro e w' ⟨rfl,f⟩;subst f);go_ret;exact⟨Ab d.o,o⟩
   ·by_cases G:ke=0
    ·subst G;obtain⟨l,y⟩:∃l:Bool,(l=true↔isKey c):=by
      rcases Classical.em (isKey c)with h|h
      ·exact⟨true,by simp[h]⟩
      ·exact⟨false,by simp[h]⟩
     have P:ϝ (∀a,CT 140 #[.string c] a λe w'=>(∃B aa cap,e= .returned (.tuple #[vS B aa cap,.bool l]))/\Ϟ a w'):=λa=>by
      cases hI:l with
      |true=>
       obtain⟨r0,ag,ae⟩:=y.1 hI;exact(Xt c r0 a L ag ae).mono (λe w' ⟨⟨B,cap,J,_⟩,z⟩=>⟨⟨B,_,cap,J⟩,z⟩)
      |false=>
       have af:¬isKey c:=λh=>by have:=y.2 h;rw[hI]at this;cases this
       exact(Zu c a L (ZN af)).mono (λe w' ⟨J,z⟩=>⟨⟨_,_,_,J⟩,z⟩)
     have d:ϝ (l=R):=by
      show l=R
      cases hI:l with
      |true=>exact ab.o ⟨y.1 hI,O.o,hf,ϥ,ϥ⟩
      |false=>exact u.o (λh=>by have:=y.2 h.1;rw[hI]at this;cases this)
     clear y;go_enter func82,ntmps82;go_wp2_with
      (first
       |(go_at_call 66;refine(m.o _).mono ?_;rintro e w' ⟨rfl,f⟩;subst f)
       |(go_at_call 83;refine(A.o _ o).mono ?_;rintro e F ⟨rfl,D⟩;have I:Ϟ w F:=bT o D;have c0:Δ F w 0 (.string c):=(by rw[D.cell (p:=⟨w.heap.size,0,none⟩) ϡ];go_simp))
       |(go_at_call 140;refine(P.o _).mono ?_;rintro e wb ⟨⟨B,aa,cap,rfl⟩,ac⟩))
     go_ret;exact⟨Ab d.o,bT I ac⟩
    ·have ah:(ke !=0)=true:=by simpa using G
     have d:ϝ (false=R):=u.o (λh=>G (by rw[<-O.o];exact h.2.1));have P:ϝ True:=trivial;go_enter func82,ntmps82;go_wp2_with (first
      |(go_at_call 66;refine(m.o _).mono ?_;rintro e w' ⟨rfl,f⟩;subst f)
      |(go_at_call 83;refine(A.o _ o).mono ?_;rintro e F ⟨rfl,D⟩;have I:Ϟ w F:=bT o D))
     go_ret;exact⟨Ab d.o,I⟩
def upB(l:List Ent):Bool:=allB (l.length - 1) λi=>decide (ltP (l.getD i ϰ) (l.getD (i+1) ϰ))
theorem Mh{l:List Ent}:upB l=true↔Dh l:=by
 unfold upB;rw[Bb]
 constructor
 ·exact λh=>Jr λi a=>of_decide_eq_true (h i ϟ)
 ·exact λh i a=>decide_eq_true (M3 h i ϟ)
theorem M5(x:Int):IntKind.i64.wrap x=(x+9223372036854775808) % 18446744073709551616 - 9223372036854775808:=by
 simp only[IntKind.wrap,IntKind.signed,IntKind.bits];simp;split<;>omega
theorem OH(a:Ϝ)(c:Nat)(es:List EM)(l:List Ent)(w:ϛ)(ha:BG w a es)(hr:ERs w es l)(hl:l.length<=1000000):
 η 80 #[vS a l.length c] w (θ w (.bool (upB l))):=by
 have M:=hV0 ha;have u:=hV0 hr;obtain⟨R,y⟩:=nM (upB l);have P:ϝ (∀k,k+1<l.length->¬ltP (l.getD k ϰ) (l.getD (k+1) ϰ)->false=R):=λk hk h=>by
  rw[<-y];unfold upB;exact(Eh ϟ (decide_eq_false h)).symm
 have Q:ϝ ((∀k,k+1<l.length->ltP (l.getD k ϰ) (l.getD (k+1) ϰ))->true=R):=λh=>by
  rw[<-y];exact(Mh.2 (Jr h)).symm
 rw[y];obtain⟨n,hn⟩:∃n,l.length=n:=⟨_,rfl⟩;have s:=hV0 hn;rw[hn]at hl P Q⊢;clear hn ha hr y;go_enter func80,ntmps80;go_wp2
 go_loopw [3] (λi wr=> ∃k:Nat,(k=0\/k+1<=n)/\i=vI ((k:Int)+1)/\Ϟ w wr/\∀j,j<k->ltP (l.getD j ϰ) (l.getD (j+1) ϰ)) (λi _=>n - (intOf i).toNat)
 case atStart=>exact⟨0,.inl rfl,rfl,bR,λj A=>absurd A (Nat.not_lt_zero j)⟩
 case round=>
  obtain⟨k,hk,rfl,o,aa⟩:=hrel;have N:=hV0 aa;clear aa;by_cases K:k+1<n
  ·obtain⟨f,m,S,x1,x2,x3,x4,x5⟩:=M.o k (by rw[u.o.1,s.o];omega);obtain⟨b2,o2,T,y1,y2,y3,y4,y5⟩:=M.o (k+1) (by rw[u.o.1,s.o];exact K);rw[S]at T
   cases T
   subst S;have C:=cLz o x1;have D:=cLz o x2;have E:=cLz o x3;have r:=cLz o x4;have F:=cLz o x5;have u1:=cLz o y1;have u2:=cLz o y2;have u3:=cLz o y3;have u4:=cLz o y4;have u5:=cLz o y5;clear x1 x2 x3 x4 x5 y1 y2 y3 y4 y5;have h1:=u.o.2 k (by rw[s.o];omega);have h2:=u.o.2 (k+1) (by rw[s.o];exact K);have q:ϝ (∀B,CT 55 #[(es.getD k ϰ).val,(es.getD (k+1) ϰ).val] B (θ B (vI (cmpP (l.getD k ϰ) (l.getD (k+1) ϰ))))):=λB=>by
    have k0:=I6 (es.getD k ϰ) (es.getD (k+1) ϰ) B;rwa[Kg h1 h2]at k0
   obtain⟨H,J⟩:=nM (cmpP (l.getD k ϰ) (l.getD (k+1) ϰ));have O:=hV0 J;rw[J]at q;obtain⟨⟨U,et,Z,⟨r1,r2,r3⟩,W⟩,hz⟩:∃z,es.getD k ϰ=z:=⟨_,rfl⟩;obtain⟨⟨fk,ft,fs,⟨q1,q2,q3⟩,fm⟩,ab⟩:∃z,es.getD (k+1) ϰ=z:=⟨_,rfl⟩;rw[hz]at C D E r F q;rw[ab]at u1 u2 u3 u4 u5 q;unfold EM.val hdV at q;unfold hdV at r u4;dsimp only at C D E r F u1 u2 u3 u4 u5 q;clear hz ab J h1 h2;have i1:(0:Int)<=(k:Int):=ϟ;have i2:(k:Int)<(n:Int):=ϟ;have i3:(0:Int)<=(k:Int)+1:=ϟ;have i4:(k:Int)+1<(n:Int):=ϟ;have ae:IntKind.i64.wrap ((k:Int)+1 - 1)=(k:Int):=by rw[M5];omega
   have ag:(k:Int)+1 - 1=(k:Int):=ϟ;have ah:IntKind.i64.wrap (k:Int)=(k:Int):=by rw[M5];omega
   have ai:IntKind.i64.wrap ((k:Int)+1)=(k:Int)+1:=by rw[M5];omega
   have af:((k:Int)+1).toNat=k+1:=ϟ;by_cases v1:H<0
   ·have ad:¬H≥0:=ϟ;have ac:ϝ (ltP (l.getD k ϰ) (l.getD (k+1) ϰ)):=Fc.1 (by rw[O.o];exact v1);go_wp2
    go_region_held3
     (λw'=>Δ w' f (m+k * 5) (.string U)/\Δ w' f (m+k * 5+1) (vI et)/\Δ w' f (m+k * 5+1+1) (vI Z)/\Δ w' f (m+k * 5+1+1+1) (vS r1 r2 r3)/\Δ w' f (m+k * 5+1+1+1+1) (.bool W)/\Δ w' f (m+(k+1) * 5) (.string fk)/\Δ w' f (m+(k+1) * 5+1) (vI ft)/\Δ w' f (m+(k+1) * 5+1+1) (vI fs)/\Δ w' f (m+(k+1) * 5+1+1+1) (vS q1 q2 q3)/\Δ w' f (m+(k+1) * 5+1+1+1+1) (.bool fm))
     (first|go_keep|exact⟨cLz d C,cLz d D,cLz d E,cLz d r,cLz d F,cLz d u1,cLz d u2,cLz d u3,cLz d u4,cLz d u5⟩)
     (first|(go_at_call 55;refine(q.o _).mono ?_;rintro e L ⟨rfl,I⟩;have d:Ϟ wr L:=bR.drew.trans I))
    all_goals
     go_wp2;go_roundw
     case rel=>exact⟨k+1,.inr ϟ,by go_num,bT o d,λj A=>by
      rcases Nat.lt_succ_iff_lt_or_eq.1 A with h|h
      ·exact N.o j h
      ·rw[h];exact ac.o⟩
     case measure=>simp[intOf];omega
   ·have ad:H≥0:=ϟ;have G:ϝ (false=R):=P.o k K (λh=>v1 (by rw[<-O.o];exact Fc.2 h));go_wp2
    go_region_held3
     (λw'=>Δ w' f (m+k * 5) (.string U)/\Δ w' f (m+k * 5+1) (vI et)/\Δ w' f (m+k * 5+1+1) (vI Z)/\Δ w' f (m+k * 5+1+1+1) (vS r1 r2 r3)/\Δ w' f (m+k * 5+1+1+1+1) (.bool W)/\Δ w' f (m+(k+1) * 5) (.string fk)/\Δ w' f (m+(k+1) * 5+1) (vI ft)/\Δ w' f (m+(k+1) * 5+1+1) (vI fs)/\Δ w' f (m+(k+1) * 5+1+1+1) (vS q1 q2 q3)/\Δ w' f (m+(k+1) * 5+1+1+1+1) (.bool fm))
     (first|go_keep|exact⟨cLz d C,cLz d D,cLz d E,cLz d r,cLz d F,cLz d u1,cLz d u2,cLz d u3,cLz d u4,cLz d u5⟩)
     (first|(go_at_call 55;refine(q.o _).mono ?_;rintro e L ⟨rfl,I⟩;have d:Ϟ wr L:=bR.drew.trans I))
    all_goals
     go_wp2;go_ret;exact⟨Ab G.o,bT o d⟩
  ·have G:ϝ (true=R):=Q.o (λj A=>N.o j ϟ);have i5:¬(k:Int)+1<(n:Int):=ϟ;go_wp2;go_ret;exact⟨Ab G.o,o⟩
end bf
end Go.Proofs.YtdohnkkbkfhphaaGreat
