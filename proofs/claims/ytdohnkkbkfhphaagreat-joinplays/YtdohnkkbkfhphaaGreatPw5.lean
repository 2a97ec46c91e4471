import Derived.Test.YtdohnkkbkfhphaaGreatPw4
set_option linter.all false
set_option maxHeartbeats 4000000
set_option maxRecDepth 100000
open Go.ChangeShapes Go.WideShapes Go.ChangeAt Go.RowKit Go.Shelf List
open Inhabited renaming default->ϰ
namespace Go.Proofs.YtdohnkkbkfhphaaGreat
open Go.Proofs.Tryz
namespace bf
attribute [local go_sem] Oper.semAt_some
variable {i : Nat}
structure EM where
 key:ByteArray
 time:Int
 seq:Int
 row:Hdr
 met:Bool
instance:Inhabited EM:=⟨⟨⟨#[]⟩,0,0,(none,0,0),false⟩⟩
def EM.val(e:EM):Value:=.agg #[.string e.key,vI e.time,vI e.seq,hdV e.row,.bool e.met]
def BG(w:World)(a:Option Addr)(l:List EM):Prop:=
 ∀i,i<l.length->∃b off,a=some ⟨b,off,none⟩/\Δ w b (off+i * 5) (.string (l.getD i ϰ).key)/\Δ w b (off+i * 5+1) (vI (l.getD i ϰ).time)/\
  ϑ w b (off+i * 5+1+1) (vI (l.getD i ϰ).seq) (hdV (l.getD i ϰ).row) (.bool (l.getD i ϰ).met)
theorem BM{w w':ϛ}{a:Ϝ}{l:List EM}(h:BG w a l)(c:Ϟ w w'):BG w' a l:=by
 intro i d;obtain⟨b,o,e,f,g,j,k,m⟩:=h i d;exact⟨b,o,e,cell_later c f,cell_later c g,cell_later c j,cell_later c k,cell_later c m⟩
abbrev Part:=Hdr×List EM
def ems(p:List Part):List EM:=p.flatMap (·.2)
def FW(p:List Part)(i:Nat):Nat:=(ems (p.take i)).length
theorem Qy(p q:List Part):ems (p++q)=ems p++ems q:=by unfold ems;rw[flatMap_append]
theorem Uv{p:List Part}(h:i<p.length):p=p.take i++(p[i]::p.drop (i+1)):=by
 rw[getElem_cons_drop];exact(take_append_drop i p).symm
theorem Pt{p:List Part}(h:i<p.length):FW p (i+1)=FW p i+(p[i]).2.length:=by
 unfold FW;rw[take_succ_eq_append_getElem h,Qy,length_append];simp[ems]
theorem Nu(p:List Part):FW p p.length=(ems p).length:=by unfold FW;rw[take_length]
theorem AcU{p:List Part}{k:Nat}(h:i<p.length)(a:k<(p[i]).2.length):(ems p)[FW p i+k]? =some ((p[i]).2.getD k ϰ):=by
 have e:ems p=ems (p.take i)++((p[i]).2++ems (p.drop (i+1))):=by
  have b:ems p=ems (p.take i++(p[i]::p.drop (i+1))):=by rw[<-Uv h]
  rw[b,Qy];rfl
 rw[e];unfold FW;rw[getElem?_append_right ϟ,Nat.add_sub_cancel_left,getElem?_append_left a,getElem?_eq_getElem a,getD_eq_getElem?_getD,getElem?_eq_getElem a];rfl
theorem IH(a b c:Value)(h1:a.oneCell'=true)(d:b.oneCell'=true)(f:c.oneCell'=true)(w:ϛ):
 η 136 #[.agg #[a,b,c]] w λe w'=>e= .returned (.func (.func 180) #[] #[μ w])/\w'=w.alloc (.cells #[a,b,c] 29):=by
 go_enter func136,ntmps136;go_wp2;go_ret;exact⟨rfl,rfl⟩
theorem II(a b c:Value)(h1:a.oneCell'=true)(d:b.oneCell'=true)(f:c.oneCell'=true)(w:ϛ):
 η 113 #[.agg #[a,b,c]] w λe w'=>e= .returned (.func (.func 161) #[] #[μ w])/\w'=w.alloc (.cells #[a,b,c] 29):=by
 go_enter func113,ntmps113;go_wp2;go_ret;exact⟨rfl,rfl⟩
structure boxAt(w:World)(BX:Nat)(lim:Int)(ra:Option Addr)(rc:Nat)(m:Part)(rs:List Part):Prop where
 lim:Δ w BX 0 (vI lim)
 mem:Δ w BX 1 (hdV m.1)
 runs:Δ w BX 2 (vS ra rs.length rc)
 hds:F8 w ra (rs.map (·.1))
 len:∀p∈m::rs,p.1.2.1=p.2.length/\p.2.length<=χ
 ems:∀p∈m::rs,BG w p.1.1 p.2
 few:rs.length<=χ
theorem ZL(BX:Nat)(lim:Int)(v:Ϝ)(A:Nat)(m:Part)(rs:List Part)(a:Nat->Obj->Prop)(w:ϛ)(h:boxAt w BX lim v A m rs)
 (hS:names a w BX) (aq:∀x,0<rs.length->v=some x->names a w x.block) (ar:∀p∈m::rs,∀x,0<p.2.length->p.1.1=some x->names a w x.block)
 (ag:∀b c f,w.heap.size<=b->a b (.cells c 29 f)) (ah:∀b c f,w.heap.size<=b->a b (.cells c 110 f)):
 Z0 Tryz.prog 161 #[μ BX] ((ems (m::rs)).map λe=>#[e.val]) (KeepO a) w:=by
 intro l J Jx W R hJ ap hY I;have k0:=cell_later R h.lim;have k1:=cell_later R h.mem;have k2:=cell_later R h.runs;obtain⟨⟨d,g,s⟩,ml⟩:=m;unfold hdV at k1;dsimp only at k1;have lX:BX<W.heap.size:=World.block_lt_of_cell? _ _ k0;obtain⟨n,H⟩:∃n,rs.length=n:=⟨_,rfl⟩;have HN:=hV0 H;rw[H]at k2;clear H;obtain⟨xs,al⟩:=nM ((ems ((((d,g,s):Hdr),ml)::rs)).map (λe=>#[e.val]));have HX:=hV0 al;rw[al]at hY⊢;clear al;refine callsIn_of_wp_marks func161 rfl trivial ?_ rfl;simp only[ntmps161,size_toArray,length_cons,length_nil,Nat.reduceAdd,Nat.reduceSub,Array.replicate_succ,Array.replicate_zero,push_toArray,append_toArray,nil_append,cons_append]
 gi_wp2_with (refine⟨trivial,rfl,?_⟩;gi_at_call 136;refine(callsIn_wide.2 (IH _ _ _ rfl rfl rfl _)).mono ?_;rintro e w' ⟨rfl,rfl⟩)
 have E:ϝ (boxAt w BX lim v A ((d,g,s),ml) rs/\names a w BX/\(∀x,0<rs.length->v=some x->names a w x.block)/\(∀p∈((d,g,s),ml)::rs,∀x,0<p.2.length->p.1.1=some x->names a w x.block)):=⟨h,hS,aq,ar⟩;have HP:ϝ ((∀b c f,w.heap.size<=b->a b (.cells c 29 f))/\(∀b c f,w.heap.size<=b->a b (.cells c 110 f))):=⟨ag,ah⟩;have U:ϝ (OwnFrom W.heap.size J/\OwnFrom W.heap.size Jx):=⟨hJ,ap⟩;have HY:=hV0 hY;have c2:Δ (ξ (ξ W #[.func (.yield l) #[] #[]] 110) (ν lim d g s v n A) 29) W 0 (.func (.yield l) #[] #[]):=ϣ;have d1:Δ (ξ (ξ W #[.func (.yield l) #[] #[]] 110) (ν lim d g s v n A) 29) (W+1) 1 (vS d g s):=ϣ;have d2:Δ (ξ (ξ W #[.func (.yield l) #[] #[]] 110) (ν lim d g s v n A) 29) (W+1) 2 (vS v n A):=ϣ;have ba:Ϟ W (ξ (ξ W #[.func (.yield l) #[] #[]] 110) (ν lim d g s v n A) 29):=((Below.refl _ _).alloc (Nat.le_refl _) _).alloc ϡ _;have bp:((W.alloc (.cells #[.func (.yield l) #[] #[]] 110)).alloc (.cells (ν lim d g s v n A) 29)).heap.size=W.heap.size+2:=ϡ;have nB:names a (ξ (ξ W #[.func (.yield l) #[] #[]] 110) (ν lim d g s v n A) 29) (W.heap.size+1):=λo N=>by
  have h:=World.alloc_heap_new (ξ W #[.func (.yield l) #[] #[]] 110) (.cells (ν lim d g s v n A) 29);rw[World.size_alloc]at h;rw[h]at N;cases N;exact ag _ _ _ (by have:=R.size;omega)
 have nY:names a (ξ (ξ W #[.func (.yield l) #[] #[]] 110) (ν lim d g s v n A) 29) W.heap.size:=λo N=>by
  have h:=(Below.heap_alloc (ξ W #[.func (.yield l) #[] #[]] 110) (.cells (ν lim d g s v n A) 29) W.heap.size ϡ).trans (World.alloc_heap_new W _);rw[h]at N;cases N;exact ah _ _ _ R.size
 have a7:J 0 (ξ (ξ W #[.func (.yield l) #[] #[]] 110) (ν lim d g s v n A) 29):=hJ.alloc _ (hJ.alloc _ I);clear hY hJ ap h hS aq ar ag ah k0 k1 k2 I;generalize (W.alloc (.cells #[.func (.yield l) #[] #[]] 110)).alloc (.cells (ν lim d g s v n A) 29)=V at *;have ac:Ϟ w V:=bT R ba;obtain⟨P,hP⟩:∃z:List Part,(((d,g,s),ml)::rs)=z:=⟨_,rfl⟩;have bh:ϝ (P.length=n+1):=by show _=_;rw[<-hP,length_cons,HN.o]
 have a4:ϝ (∀p∈P,p.1.2.1=p.2.length/\p.2.length<=χ/\BG V p.1.1 p.2/\∀x,0<p.2.length->p.1.1=some x->names a V x.block):=λp S=>by
  rw[<-hP]at S;refine⟨(E.o.1.len p S).1,(E.o.1.len p S).2,BM (E.o.1.ems p S) ac,λx I C=>?_⟩;obtain⟨b,o,e,y,_⟩:=E.o.1.ems p S 0 I;rw[C]at e;cases e;exact Gf ac (World.block_lt_of_cell? _ _ y) (E.o.2.2.2 p S _ I C)
 have a5:ϝ ((((d,g,s):Hdr)::rs.map (·.1)).map (λh=>#[hdV h])=P.map λp=>#[hdV p.1]):=by
  show _=_;rw[<-hP];simp
 have HE:ϝ ((ems P).map (λe=>#[e.val])=xs):=by show _=_;rw[<-hP];exact HX.o
 have a3:(rs.map (·.1)).length=n:=by rw[length_map,HN.o]
 have ax:=Nb (W.heap.size+1) lim (d,g,s) v A (rs.map (·.1)) a V (by rw[a3,<-HN.o];exact E.o.1.few) d1 (by rw[a3];exact d2) (λi G=>by obtain⟨b,o,e,x⟩:=E.o.1.hds i G;exact⟨b,o,e,cell_later ac x⟩) nB (λx I C=>by
  obtain⟨b,o,e,y⟩:=E.o.1.hds 0 I;rw[C]at e;cases e;exact Gf ac (World.block_lt_of_cell? _ _ y) (E.o.2.2.1 _ (by simpa using I) C))
 rw[a5.o]at ax;refine D6 (gf:=180) (lb:=#[.pointer (some ⟨W+1,0,none⟩)]) rfl (enters_of func180 Ϣ rfl) ax (Below.refl _ _) (λx C=>by obtain⟨p,_,rfl⟩:=mem_map.1 C;rfl) (λh k=>KeepO.trans h k) (λW l o o' _ h N=>KeepO.put W l o o' h N)
  (λi X=>J (FW P i) X/\KeepO a V X) (λc X=>c= .ret/\Jx () X)
  (λi X X' ae Q hg hr=>⟨(Z1 U.o.1 ϟ) _ X X' ae Q.1 hg hr,Q.2.grown hg (λr e=>(hr r e).2)⟩)
  (λc X X' ae Q hg hr=>⟨Q.1,(Z1 U.o.2 ϟ) _ X X' ae Q.2 hg hr⟩)
  ⟨a7,KeepO.refl _ _⟩
  (λi a' X=>a'={tmps:=#[.func (.yield l) #[] #[],.pointer (some ⟨BX,0,none⟩),.pointer (some ⟨W,0,none⟩),hdV (P.getD i ϰ).1,undef,undef,.agg #[vI lim,vS d g s,vS v n A],.func (.func 180) #[] #[.pointer (some ⟨W+1,0,none⟩)],hdV (P.getD i ϰ).1,undef,undef,undef,undef,undef,undef,undef,undef,undef,undef,undef],defers:=[]})
  (λi a' u X X' ae Q hg hr=>Q) ?assign ?body ?done ?stop
 case assign=>
  intro l' k x X K C G L;obtain⟨hk,ad⟩:=List.getElem?_eq_some_iff.1 C;rw[length_map]at hk;rw[getElem_map]at ad;subst ad;have hd:P.getD k ϰ=P[k]:=by rw[getD_eq_getElem?_getD,getElem?_eq_getElem hk];rfl
  have Z:=λW' h1 h2 h3=>L _ W' h1 h2 h3 rfl;rw[hd]at Z;clear L hd C;obtain⟨⟨⟨z1,z2,z3⟩,zl⟩,hz⟩:∃z,P[k]=z:=⟨_,rfl⟩;rw[hz]at Z⊢;unfold hdV at Z⊢;dsimp only at Z⊢
  gi_wp2
  exact Z X (KeepsFrom.refl _ _) (KeepO.refl _ _) G
 case body=>
  intro l' i x a' X C bn bo a6 au;obtain⟨an,az⟩:=a6;obtain⟨G,ad⟩:=List.getElem?_eq_some_iff.1 C;rw[length_map]at G;have hd:P.getD i ϰ=P[i]:=by rw[getD_eq_getElem?_getD,getElem?_eq_getElem G];rfl
  rw[hd]at au;subst au;have ak:=a4.o P[i] (getElem_mem G);have T:ϝ (∀j,j<(P[i]).2.length->xs[FW P i+j]? =some #[((P[i]).2.getD j ϰ).val]):=λj hj=>by
   rw[<-HE.o,getElem?_map,AcU G hj];rfl
  have Y:ϝ (FW P (i+1)=FW P i+(P[i]).2.length):=Pt G;clear C ad hd;obtain⟨⟨⟨z1,z2,z3⟩,zl⟩,hz⟩:∃z,P[i]=z:=⟨_,rfl⟩;rw[hz]at ak T Y⊢;dsimp only at ak T Y⊢;obtain⟨be,bg,av,a2⟩:=ak;subst be;have am:ϝ (BG V z1 zl/\∀x,0<zl.length->z1=some x->names a V x.block):=⟨av,a2⟩;obtain⟨q,hq⟩:∃q,zl.length=q:=⟨_,rfl⟩;have HQ:=hV0 hq;rw[hq]at bg T Y;unfold hdV;dsimp only;rw[hq];clear hz av a2 hq;obtain⟨O,hO⟩:∃O,FW P i=O:=⟨_,rfl⟩;rw[hO]at an T Y;have lV:W.heap.size<X.heap.size:=by
   have:=World.block_lt_of_cell? _ _ (az.cell nY c2);exact this
  gi_wp2
  gi_loopw [11] (λt wr=> ∃j:Nat,j<=q/\t=vI j/\J (O+j) wr/\KeepO a V wr/\KeepO a X wr/\KeepsFrom V.heap.size X wr) (λt _=>q - (intOf t).toNat)
  case atStart=>exact⟨0,Nat.zero_le _,rfl,an,az,KeepO.refl _ _,KeepsFrom.refl _ _⟩
  case round=>
   obtain⟨j,hj,rfl,ao,M,a0,aj⟩:=hrel;have y2:=M.cell nY c2;have ly:W.heap.size<wr.heap.size:=World.block_lt_of_cell? _ _ y2;by_cases a1:j<q
   ·obtain⟨b,o,e,x1,x2,x3,x4,x5⟩:=am.o.1 j (by rw[HQ.o];exact a1);subst e;have H:=am.o.2 _ (by rw[HQ.o];omega) rfl;have q1:=M.cell H x1;have q2:=M.cell H x2;have q3:=M.cell H x3;have q4:=M.cell H x4;have q5:=M.cell H x5;have aa:=T.o j a1;obtain⟨⟨ek,et,es,⟨r1,r2,r3⟩,em⟩,he⟩:∃z,zl.getD j ϰ=z:=⟨_,rfl⟩;rw[he]at q1 q2 q3 q4 q5 aa;unfold hdV at q4;unfold EM.val hdV at aa;dsimp only at q1 q2 q3 q4 q5 aa;have lb:b<wr.heap.size:=World.block_lt_of_cell? _ _ q1;have i1:(0:Int)<=(j:Int):=ϟ;have i2:(j:Int)<(q:Int):=ϟ;have bd:=HY.o (O+j) _ (ξ wr (ζ ek et es r1 r2 r3 em) 63) aa (U.o.1.alloc _ ao);obtain⟨bk,br,bi,bj,bq,a9⟩:=bd;clear he x1 x2 x3 x4 x5 aa
    gi_wp2
    refine⟨rfl,RoundIn.mono (F:=Fence.wide.inRound l') a9 ?_⟩;rintro e W2 ⟨aw,(⟨rfl,ab,bc⟩|⟨rfl,a8⟩)⟩
    ·have ay:KeepO a wr W2:=(KeepO.alloc wr _).trans bc;have ai:KeepsFrom V.heap.size X W2:=aj.trans (((KeepsOthers.alloc _ _).from _).trans (Hb aw ϟ))
     gi_wp2
     go_roundw
     case rel=>exact⟨j+1,ϟ,by go_num,ab,M.trans ay,a0.trans ay,ai⟩
     case measure=>simp[intOf];omega
    ·have ai:KeepsFrom V.heap.size X W2:=aj.trans (((KeepsOthers.alloc _ _).from _).trans (Hb aw ϟ))
     gi_wp2
     exact⟨ai,rfl,a8⟩
   ·have bb:j=q:=ϟ;subst bb
    gi_wp2
    exact⟨aj,a0,by rw[Y.o];exact ao,M⟩
 case done=>
  rintro D X hD ⟨af,bm⟩ L
  gi_wp2
  refine⟨ϡ,.inl ⟨_,_,rfl,run_takeDeferred L,?_⟩⟩;have ab:=U.o.1.putObj (.deferred none) af ϟ L rfl;rw[length_map,Nu,<-length_map (f:=λe:EM=>#[e.val]),HE.o]at ab;exact⟨_,results_none rfl _ _ _,⟨_,rfl⟩,.inl ab⟩
 case stop=>
  rintro D c X hD ⟨rfl,af⟩ L
  gi_wp2
  refine⟨ϡ,.inl ⟨_,_,rfl,run_takeDeferred L,?_⟩⟩;exact⟨_,results_none rfl _ _ _,⟨_,rfl⟩,.inr (U.o.2.putObj (.deferred none) af ϟ L rfl)⟩
end bf
namespace bf
open vl
variable {w w' : ϛ} {i : Nat}
structure Ent where
 key:ByteArray
 time:Int
 seq:Int
 row:List Cel
 met:Bool
deriving DecidableEq
instance:Inhabited Ent:=⟨⟨⟨#[]⟩,0,0,[],false⟩⟩
structure ER(w:World)(e:EM)(x:Ent):Prop where
 key:e.key=x.key
 time:e.time=x.time
 seq:e.seq=x.seq
 met:e.met=x.met
 len:e.row.2.1=x.row.length
 row:vl.rowAt w e.row.1 x.row
theorem ER.below{e:EM}{x:Ent}(h:ER w e x)(a:Ϟ w w'):ER w' e x:=⟨h.key,h.time,h.seq,h.met,h.len,vl.Ac h.row a⟩
def ERs(w:World)(es:List EM)(l:List Ent):Prop:=es.length=l.length/\∀i,i<l.length->ER w (es.getD i ϰ) (l.getD i ϰ)
theorem ERs.below{es:List EM}{l:List Ent}(h:ERs w es l)(a:Ϟ w w'):ERs w' es l:=⟨h.1,λi b=>(h.2 i b).below a⟩
theorem Qz(w:ϛ):ERs w [] []:=⟨rfl,λi a=>absurd a (Nat.not_lt_zero i)⟩
theorem AS{α:Type}{l m:List α}{d:α}(h:i<l.length):(l++m).getD i d=l.getD i d:=by
 simp[gDe,getElem?_append_left h]
theorem AH{α:Type}{l m:List α}{d:α}(h:l.length<=i):(l++m).getD i d=m.getD (i - l.length) d:=by
 simp[gDe,getElem?_append_right h]
theorem VW{es b:List EM}{l d:List Ent}(h:ERs w es l)(c:ERs w b d):ERs w (es++b) (l++d):=by
 refine⟨by rw[lAp,lAp,h.1,c.1],λi e=>?_⟩;rw[lAp]at e;by_cases a:i<l.length
 ·rw[AS (by rw[h.1];exact a),AS a];exact h.2 i a
 ·rw[AH (by rw[h.1];omega),AH ϟ,h.1];exact c.2 _ ϟ
theorem Abw{e:EM}{x:Ent}(h:ER w e x):ERs w [e] [x]:=⟨rfl,λi a=>by
 have:i=0:=by simpa using a
 subst this;exact h⟩
def bl(b:ByteArray):List UInt8:=b.data.toList
theorem Q0{a b:ByteArray}(h:bl a=bl b):a=b:=ByteArray.ext (Array.ext' h)
def ltP(a b:Ent):Prop:=bl a.key<bl b.key\/(a.key=b.key/\(a.time<b.time\/(a.time=b.time/\a.seq<b.seq)))
instance(a b:Ent):Decidable (ltP a b):=by unfold ltP;exact inferInstance
def Eb(a b:Ent):Prop:=a.key=b.key/\a.time=b.time/\a.seq=b.seq
instance(a b:Ent):Decidable (Eb a b):=by unfold Eb;exact inferInstance
def cmpP(a b:Ent):Int:=if ltP a b then -1 else if Eb a b then 0 else 1
theorem Gh:∀(a b:List UInt8),Op.bytesLess a b=decide (a<b)
 |[],[]=>by simp[Op.bytesLess]
 |_::_,[]=>by simp[Op.bytesLess]
 |[],_::_=>by simp[Op.bytesLess]
 |a::x,b::y=>by
  rw[Op.bytesLess,Gh x y];simp only[cons_lt_cons_iff];by_cases c:a<b<;>by_cases d:a=b<;>by_cases e:x<y<;>simp[c,d,e]
theorem Ms(a b:List UInt8):Lib.compareBytes a b=if a<b then -1 else if a=b then 0 else 1:=by
 rw[Kb,Gh];by_cases c:a<b<;>by_cases d:a=b<;>simp[c,d]
theorem He(a:List UInt8):¬a<a:=List.lt_irrefl a
theorem Pu{a b c:List UInt8}(h1:a<b)(d:b<c):a<c:=List.lt_trans h1 d
theorem lt_tri(a b:List UInt8):a<b\/a=b\/b<a:=by
 by_cases c:a<b
 ·exact .inl c
 ·by_cases d:b<a
  ·exact .inr (.inr d)
  ·exact .inr (.inl (List.le_antisymm (List.not_lt.1 d) (List.not_lt.1 c)))
theorem CL(a:Ent):¬ltP a a:=by
 unfold ltP;rintro (h|⟨_,h|⟨_,h⟩⟩)
 ·exact He _ h
 ·omega
 ·omega
theorem Co{a b c:Ent}(h1:ltP a b)(d:ltP b c):ltP a c:=by
 unfold ltP at *;rcases h1 with h1|⟨f,h1⟩
 ·rcases d with d|⟨e,d⟩
  ·exact .inl (Pu h1 d)
  ·rw[<-e];exact .inl h1
 ·rcases d with d|⟨e,d⟩
  ·rw[f];exact .inl d
  ·exact .inr ⟨f.trans e,ϟ⟩
theorem ltP_tri(a b:Ent):ltP a b\/Eb a b\/ltP b a:=by
 unfold ltP Eb;rcases lt_tri (bl a.key) (bl b.key)with h|h|h
 ·exact .inl (.inl h)
 ·have e:=Q0 h;by_cases d:a.time<b.time
  ·exact .inl (.inr ⟨e,.inl d⟩)
  ·by_cases f:b.time<a.time
   ·exact .inr (.inr (.inr ⟨e.symm,.inl f⟩))
   ·have c:a.time=b.time:=ϟ;by_cases g:a.seq<b.seq
    ·exact .inl (.inr ⟨e,.inr ⟨c,g⟩⟩)
    ·by_cases j:b.seq<a.seq
     ·exact .inr (.inr (.inr ⟨e.symm,.inr ⟨c.symm,j⟩⟩))
     ·exact .inr (.inl ⟨e,c,ϟ⟩)
 ·exact .inr (.inr (.inl h))
theorem Uw(a:Ent):Eb a a:=⟨rfl,rfl,rfl⟩
theorem FC{a b:Ent}(h:Eb a b):Eb b a:=⟨h.1.symm,h.2.1.symm,h.2.2.symm⟩
theorem Nv{a b c:Ent}(h:ltP a b)(k:Eb b c):ltP a c:=by
 unfold ltP at *;rw[<-k.1,<-k.2.1,<-k.2.2];exact h
theorem ZM{a b c:Ent}(h:Eb a b)(k:ltP b c):ltP a c:=by
 unfold ltP at *;rw[h.1,h.2.1,h.2.2];exact k
theorem Ik{a b:Ent}(h:ltP a b):¬Eb a b:=λk=>CL _ (Nv h (FC k))
theorem Fc{a b:Ent}:cmpP a b<0↔ltP a b:=by
 unfold cmpP;by_cases h:ltP a b
 ·simp[h]
 ·by_cases c:Eb a b<;>simp[h,c]
theorem GG{a b:Ent}:cmpP a b=0↔Eb a b:=by
 unfold cmpP;by_cases h:ltP a b
 ·simp[h,Ik h]
 ·by_cases c:Eb a b<;>simp[h,c]
theorem Jz(a b:Ent):Bd [Lib.compareBytes (bl a.key) (bl b.key),Dl a.time b.time,Dl a.seq b.seq]=cmpP a b:=by
 have g:=Ms (bl a.key) (bl b.key);rw[g];unfold Bd Bd Bd Bd Dl cmpP;unfold ltP Eb;rcases lt_tri (bl a.key) (bl b.key)with h|h|h
 ·simp[h]
 ·have e:=Q0 h;simp only[h,He,if_false,if_true,e,false_or,true_and];by_cases d:a.time<b.time
  ·simp[d]
  ·by_cases f:b.time<a.time
   ·have c:¬a.time=b.time:=ϟ;simp[d,f,c]
   ·have j:a.time=b.time:=ϟ;simp only[j,Int.lt_irrefl,if_false,false_or,true_and];by_cases c:a.seq<b.seq
    ·simp[c]
    ·by_cases m:b.seq<a.seq
     ·have o:¬a.seq=b.seq:=ϟ;simp[c,m,o]
     ·have l:a.seq=b.seq:=ϟ;simp[l]
 ·have d:¬bl a.key<bl b.key:=λk=>He _ (Pu k h);have f:¬bl a.key=bl b.key:=λk=>by rw[k]at h;exact He _ h
  have c:¬a.key=b.key:=λk=>f (by rw[k]);simp[d,f,c]
def A8(n a b:Int):Bool:=decide (a<=n/\n<=b)
theorem Bh(n a b:Int):A8 n a b=true↔(a<=n/\n<=b):=by simp[A8]
theorem CP(n a b:Int):A8 n a b=false↔ ¬(a<=n/\n<=b):=by unfold A8;exact decide_eq_false_iff_not
theorem Ar(n a b:Int)(w:ϛ):
 η 29 #[vI n,vI a,vI b] w λe w'=>e= .returned (.bool (A8 n a b))/\w'=w:=by
 by_cases c:a<=n
 ·by_cases d:n<=b
  ·rw[(Bh n a b).2 ⟨c,d⟩];go_enter func29,ntmps29;go_wp2;go_ret;exact⟨rfl,rfl⟩
  ·rw[(CP n a b).2 ϟ];go_enter func29,ntmps29;go_wp2;go_ret;exact⟨rfl,rfl⟩
 ·rw[(CP n a b).2 ϟ];go_enter func29,ntmps29;go_wp2;go_ret;exact⟨rfl,rfl⟩
theorem Il(n:Int)(w:ϛ):
 η 65 #[vI n] w λe w'=>e= .returned (.bool (A8 n 1 64))/\w'=w:=by
 by_cases a:1<=n
 ·by_cases b:n<=64
  ·rw[(Bh n 1 64).2 ⟨a,b⟩];go_enter func65,ntmps65;go_wp2;go_ret;exact⟨rfl,rfl⟩
  ·rw[(CP n 1 64).2 ϟ];go_enter func65,ntmps65;go_wp2;go_ret;exact⟨rfl,rfl⟩
 ·rw[(CP n 1 64).2 ϟ];go_enter func65,ntmps65;go_wp2;go_ret;exact⟨rfl,rfl⟩
theorem AcV(b:Nat)(a:List Int)(w:ϛ)(x:a.length<=100)
 (m:∀i,i<a.length->Δ w b i (vI (a[i]?.getD 0))):
 η 164 #[vS (τ b) a.length a.length] w λe w'=>e= .returned (vI (Bd a))/\w'=w:=by
 go_enter func164,ntmps164;go_wp2
 go_loop [8] (λi=> ∃k:Nat,k<=a.length/\i=vI k/\∀i,i<k->a[i]?.getD 0=0) (λi=>a.length - (intOf i).toNat)
 case atStart=>exact⟨0,Nat.zero_le _,rfl,λi g=>absurd g (Nat.not_lt_zero i)⟩
 case round=>
  obtain⟨k,v,rfl,l⟩:=hrel;have c:=hV0 l;clear l;by_cases p:k<a.length
  ·have r:=m k p;obtain⟨z,j⟩:=nM (a[k]?.getD 0);rw[j]at r;have d:=hV0 j;clear m j;by_cases f:(z==0)=true
   ·have o:z=0:=by simpa using f
    have q:ϝ (z=0):=o;clear o;go_wp2
    go_round
    case rel=>exact⟨k+1,ϟ,by go_num,λi g=>by
     rcases Nat.lt_succ_iff_lt_or_eq.1 g with h|h
     ·exact c.o i h
     ·rw[h,d.o];exact q.o⟩
    case measure=>simp[intOf];omega
   ·have u:(z==0)=false:=by simpa using f
    have s:ϝ (Bd a=z):=by
     show Bd a=z;rw[Na a k c.o p (by rw[d.o];simpa using f)];exact d.o
    go_wp2;go_ret;exact⟨Af (by rw[s.o]),rfl⟩
  ·have t:ϝ (Bd a=0):=by
    show Bd a=0;rw[Ha a k c.o,drop_of_length_le ϟ];rfl
   go_wp2;go_ret;exact⟨Af (by rw[t.o]),rfl⟩
theorem or3(b:Nat)(x y z:Int)(w:ϛ)(h0:Δ w b 0 (vI x))(h1:Δ w b 1 (vI y))(a:Δ w b 2 (vI z)):
 η 164 #[vS (τ b) 3 3] w λe w'=>e= .returned (vI (Bd [x,y,z]))/\w'=w:=
 AcV b [x,y,z] w ϡ (λi c=>by
  match i,c with
  |0,_=>exact h0
  |1,_=>exact h1
  |2,_=>exact a)
def EM.ent(e:EM):Ent:=⟨e.key,e.time,e.seq,[],e.met⟩
theorem Kg{e f:EM}{x y:Ent}(h:ER w e x)(k:ER w f y):cmpP e.ent f.ent=cmpP x y:=by
 unfold cmpP ltP Eb EM.ent;simp only[h.key,h.time,h.seq,k.key,k.time,k.seq]
attribute [local go_sem ↓] Go.wp_at_zero Go.wp_at_succ
theorem Si(e f:EM)(w:ϛ):
 η 116 #[e.val,f.val] w (θ w (vI (cmpP e.ent f.ent))):=by
 have a:ϝ (Bd [Lib.compareBytes e.key.data.toList f.key.data.toList,Dl e.time f.time,Dl e.seq f.seq]=cmpP e.ent f.ent):=Jz e.ent f.ent;obtain⟨b,h,d,⟨k,m,p⟩,r⟩:=e;obtain⟨c,j,g,⟨l,o,q⟩,s⟩:=f;rw[<-a.o];clear a;unfold EM.val hdV;dsimp only;go_enter func116,ntmps116;go_wp2
 go_region_held3 (λw'=>ϖ w' w (.string b) (vI h) (vI d) (ϕ w' (w+1) (.string c) (vI j) (vI g))) (go_keep)
  (first
   |(go_at_call 166;refine(Jy _ _ _).mono ?_;rintro e w' ⟨rfl,rfl⟩)
   |(go_at_call 165;refine(Jw _ _ _).mono ?_;rintro e w' ⟨rfl,rfl⟩)
   |(go_at_call 164;refine(or3 _ (Lib.compareBytes b.data.toList c.data.toList) (Dl h j) (Dl d g) _ ?_ ?_ ?_).mono ?_;(go_simp);(go_simp);(go_simp);rintro e w' ⟨rfl,rfl⟩))
 all_goals
  go_wp2;go_ret;refine⟨rfl,?_⟩
  repeat (first|exact bR|apply Below.drew|(refine Below.alloc ?_ Ϧ _))
theorem Im(e:EM)(w:ϛ):
 η 186 #[e.val] w (θ w (.agg #[.string e.key,vI e.time,vI e.seq])):=by
 obtain⟨a,c,b,⟨d,f,g⟩,h⟩:=e;unfold EM.val hdV;dsimp only;go_enter func186,ntmps186;go_wp2;refine bodyPost_ret (v:=.agg #[.string a,vI c,vI b]) (by simp[results,results186,go_sem]) rfl ⟨rfl,?_⟩
 repeat (first|exact bR|apply Below.drew|(refine Below.setCell ?_ ϡ _)|(refine Below.alloc ?_ Ϧ _))
def isKey(k:ByteArray):Prop:=∃r,rowOk r/\encR r=k.data.toList
structure wfE(x:Ent):Prop where
 key:x.key.size<=maxLen
 row:Cj x.row
 len:x.row.length<=χ
def E9(x:Ent):Prop:=isKey x.key/\A3 x.row=0/\tm.Bc x.time=true/\0<=x.seq/\x.seq<=1099511627776
noncomputable def Dp(x:Ent):Bool:=@decide (E9 x) (Classical.propDecidable _)
theorem F0{x:Ent}(h:E9 x):Dp x=true:=by unfold Dp;exact @decide_eq_true _ (Classical.propDecidable _) h
theorem Nw{x:Ent}(h:¬E9 x):Dp x=false:=by unfold Dp;exact @decide_eq_false _ (Classical.propDecidable _) h
theorem Lv{x:Ent}:Dp x=true↔E9 x:=by
 by_cases h:E9 x
 ·simp[F0 h,h]
 ·simp[Nw h,h]
theorem ZN{k:ByteArray}(h:¬isKey k):NZ k.data.toList:=λr a e=>h ⟨r,a,e⟩
theorem Io(e:EM)(x:Ent)(w:ϛ)(h:ER w e x)(hw:wfE x):
 η 183 #[e.val] w (θ w (.bool (Dp x))):=by
 obtain⟨c,k,j,⟨v,b1,z⟩,E⟩:=e;obtain⟨V,X,Y,Z,h5,H⟩:=h;obtain⟨xk,xt,xs,l,xm⟩:=x;obtain⟨a,O,P⟩:=hw;dsimp only at V X Y Z h5 H a O P;subst V X Y Z h5;obtain⟨R,C⟩:=nM (Dp ⟨c,k,j,l,E⟩);have ae:ϝ (E9 ⟨c,k,j,l,E⟩->true=R):=λh=>by rw[<-C,F0 h]
 have r:ϝ (¬E9 ⟨c,k,j,l,E⟩->false=R):=λh=>by rw[<-C,Nw h]
 have u:=hIz (λ(a:ϛ) (I:Ϟ w a)=>Mj v z l a (vl.Ac H I) O P);rw[C];obtain⟨ke,K⟩:=nM (A3 l);obtain⟨ks,ab⟩:=nM (FV l);rw[K,ab]at u;have Q:=hV0 K;obtain⟨n,L⟩:=nM l.length;rw[L]at u;unfold EM.val hdV;dsimp only;rw[L];clear C K ab L H O P;have aa:Ϟ w (ξ w (ζ c k j v n z E) 63):=Ϫ;by_cases D:isKey c
 ·obtain⟨F,M,J⟩:=D;have t:ϝ (∀a,CT 179 #[.string c] a λe w'=>(∃y A,e= .returned (.tuple #[vS y F.length A,ω]))/\Ϟ a w'):=λN=>(SV c F N a M J).mono (λe w' ⟨⟨y,A,he,_⟩,I⟩=>⟨⟨y,A,he⟩,I⟩);have HK:ϝ (isKey c):=⟨F,M,J⟩;obtain⟨rl,ac⟩:=nM F.length;rw[ac]at t;clear J M ac;go_enter func183,ntmps183;go_wp2_with fail;refine(t.o _).mono ?_;rintro e q ⟨⟨y,A,rfl⟩,d⟩;have c0:Δ q w 0 (.string c):=by rw[d.cell (p:=⟨w,0,none⟩) ϡ];go_simp
  have S:Δ q w 1 (vI k):=by rw[d.cell (p:=⟨w,1,none⟩) ϡ];go_simp
  have T:Δ q w 2 (vI j):=by rw[d.cell (p:=⟨w,2,none⟩) ϡ];go_simp
  have U:Δ q w 3 (vS v n z):=by rw[d.cell (p:=⟨w,3,none⟩) ϡ];go_simp
  have s:=bT aa d;clear d;go_wp2_with fail;refine(u.o _ s).mono ?_;rintro e wb ⟨rfl,o⟩;have d1:=cLz o S;have d2:=cLz o T;have f:=bT s o;clear o c0 S T U;by_cases G:ke=0
  ·subst G;have m:=hIz (λ(a:ϛ)=>tm.Dj k a)
   cases hf:tm.Bc k with
   |false=>
    have b:ϝ (false=R):=r.o (λh=>by have:=h.2.2.1;rw[hf]at this;cases this);rw[hf]at m;go_wp2_with (go_at_call 88;refine(m.o _).mono ?_;rintro e w' ⟨rfl,g⟩;subst g);go_ret;exact⟨Ab b.o,f⟩
   |true=>
    rw[hf]at m;by_cases s0:0<=j
    ·by_cases s2:j<=1099511627776
     ·have b:ϝ (true=R):=ae.o ⟨HK.o,Q.o,hf,s0,s2⟩;go_wp2_with (go_at_call 88;refine(m.o _).mono ?_;rintro e w' ⟨rfl,g⟩;subst g);go_ret;exact⟨Ab b.o,f⟩
     ·have b:ϝ (false=R):=r.o (λh=>s2 h.2.2.2.2);go_wp2_with (go_at_call 88;refine(m.o _).mono ?_;rintro e w' ⟨rfl,g⟩;subst g);go_ret;exact⟨Ab (by rw[<-b.o];exact decide_eq_false ϟ),f⟩
    ·have b:ϝ (false=R):=r.o (λh=>s0 h.2.2.2.1);go_wp2_with (go_at_call 88;refine(m.o _).mono ?_;rintro e w' ⟨rfl,g⟩;subst g);go_ret;exact⟨Ab b.o,f⟩
  ·have af:(ke==0)=false:=by simpa using G
   have b:ϝ (false=R):=r.o (λh=>G (by rw[<-Q.o];exact h.2.1));go_wp2;go_ret;exact⟨Ab b.o,f⟩
 ·have t:ϝ (∀a,CT 179 #[.string c] a (θ a (.tuple #[ψ,vI 1]))):=λN=>Aca c N a (ZN D);have b:ϝ (false=R):=r.o (λh=>D h.1);clear D;go_enter func183,ntmps183;go_wp2_with fail;refine(t.o _).mono ?_;rintro e q ⟨rfl,d⟩;have U:Δ q w 3 (vS v n z):=by rw[d.cell (p:=⟨w,3,none⟩) ϡ];go_simp
  have s:=bT aa d;clear d;go_wp2_with fail;refine(u.o _ s).mono ?_;rintro e wb ⟨rfl,o⟩;have f:=bT s o;go_wp2;go_ret;exact⟨Ab b.o,f⟩
end bf
namespace bf
open vl
attribute [local go_sem] Oper.semAt_some
variable {W w w' : ϛ} {B n : Nat}
structure Buf where
 lim:Int
 mem:List Ent
 runs:List (List Ent)
structure BX where
 ra:Option Addr
 rc:Nat
 m:Part
 rs:List Part
def AF(b:Buf)(x:BX):Value:=.agg #[vI b.lim,hdV x.m.1,vS x.ra x.rs.length x.rc]
structure bufAt(w:World)(b:Buf)(x:BX):Prop where
 hds:F8 w x.ra (x.rs.map (·.1))
 len:∀p∈x.m::x.rs,p.1.2.1=p.2.length/\p.2.length<=χ
 ems:∀p∈x.m::x.rs,BG w p.1.1 p.2
 few:x.rs.length<=χ
 mem:ERs w x.m.2 b.mem
 rlen:x.rs.length=b.runs.length
 runs:∀i,i<b.runs.length->ERs w (x.rs.getD i ϰ).2 (b.runs.getD i ϰ)
theorem Ip{a:Ϝ}{l:List Hdr}(h:F8 w a l)(c:Ϟ w w'):F8 w' a l:=λi d=>by
 obtain⟨b,o,e,x⟩:=h i d;exact⟨b,o,e,cLz c x⟩
theorem Ag{b:Buf}{x:BX}(h:bufAt w b x)(a:Ϟ w w'):bufAt w' b x:=
 ⟨Ip h.hds a,h.len,λp d=>BM (h.ems p d) a,h.few,h.mem.below a,h.rlen,λi c=>(h.runs i c).below a⟩
def partsB(b:Buf):List (List Ent):=b.mem::b.runs
def Aa(b:Buf):List Ent:=(partsB b).flatten
theorem Sj{w:ϛ}:∀{p:List Part} {l:List (List Ent)},p.length=l.length->(∀i,i<l.length->ERs w (p.getD i ϰ).2 (l.getD i ϰ))->ERs w (ems p) l.flatten
 |[],[],_,_=>Qz w
 |[],_::_,h,_=>by cases h
 |_::_,[],h,_=>by cases h
 |p::ps,x::xs,h,k=>by
  have a:=k 0 ϡ;have b:=Sj (p:=ps) (l:=xs) (by simpa using h) (λi c=>by have:=k (i+1) (by simpa using c);simpa using this);exact VW (by simpa using a) b
theorem Ek{b:Buf}{x:BX}(h:bufAt w b x):ERs w (ems (x.m::x.rs)) (Aa b):=
 Sj (by simp[partsB,h.rlen]) (λi a=>by
  cases i with
  |zero=>exact h.mem
  |succ i=>
   have c:i<b.runs.length:=by simpa[partsB]using a
   simpa[partsB]using h.runs i c)
theorem AcW{b:Buf}{x:BX}(h:bufAt w b x)(h0:Δ w B 0 (vI b.lim))(h1:Δ w B 1 (hdV x.m.1))(a:Δ w B 2 (vS x.ra x.rs.length x.rc)):boxAt w B b.lim x.ra x.rc x.m x.rs:=
 ⟨h0,h1,a,h.hds,h.len,h.ems,h.few⟩
theorem Di{a:ϛ}{row:Option Nat}(h:Below n w W)(d:n<=w.heap.size)(b:n<=B)(c:W.grownBy a row)(f:∀r,row=some r->B<=r/\∃x:Obj,W.heap[r]? =some x/\x.isCells=false):Below n w a:=
 h.grown c (Nat.le_trans d h.size) (λr e=>Nat.le_trans b (f r e).1)
theorem CY{D:Nat}{o:Obj}(h:Below n w W)(d:n<=D)(b:W.heap[D]? =some o)(a:Obj):Below n w (W.putObj D a):=
 h.trans ⟨rfl,rfl,rfl,ϡ,λk c=>World.putObj_heap_other ϟ⟩
def Ux(B:Nat):Nat->Obj->Prop:=λb _=>b≠B
theorem Pv{b:Nat}(h:b≠B):names (Ux B) W b:=λ_ _=>h
theorem Abx(W:ϛ)(o:Nat)(v:Value):KeepO (Ux B) W (φ W B o v):=λb x a _ c=>(heap_setCell_other W ⟨B,o,none⟩ b v c).trans a
theorem J0{V:ϛ}{b:Buf}{x:BX}(h:bufAt w b x)(l:Ϟ w V)(c:Nat)(d:Nat->Obj->Prop)(h1:Δ V c 1 (hdV x.m.1))(g:Δ V c 2 (vS x.ra x.rs.length x.rc))(j:names d V c)(k:∀a,0<x.rs.length->x.ra=some a->names d V a.block):
 Z0 Tryz.prog 180 #[μ c] ((x.m::x.rs).map λp=>#[hdV p.1]) (KeepO d) V:=by
 have e:(x.rs.map (·.1)).length=x.rs.length:=lMp ..;have:=Nb c 0 x.m.1 x.ra x.rc (x.rs.map (·.1)) d V (by rw[e];exact h.few) h1 (by rw[e];exact g) (Ip h.hds l) j (λa f ha=>k a (by rw[e]at f;exact f) ha);rw[show((x.m::x.rs).map λp=>#[hdV p.1])=((x.m.1::x.rs.map (·.1)).map λh=>#[hdV h]) by simp];exact this
theorem Acx{b:Buf}{x:BX}(h:bufAt w b x){a:Addr}(h0:0<x.rs.length)(ha:x.ra=some a):a.block<w.heap.size:=by
 obtain⟨c,o,e,y⟩:=h.hds 0 (by simpa using h0);rw[ha]at e;cases e;exact bLt _ _ y
theorem Aby(p:List Part)(i:Nat):FW p i<=(ems p).length:=by
 have h:ems p=ems (p.take i)++ems (p.drop i):=by rw[<-Qy,take_append_drop]
 unfold FW;rw[h,lAp];omega
theorem Nx(b:Buf)(x:BX)(w:ϛ)(h:bufAt w b x)(t:(Aa b).length<=4611686018427387904):
 η 135 #[AF b x] w (θ w (vI (Aa b).length)):=by
 have M:=hV0 h;obtain⟨N,R⟩:=nM ((Aa b).length);have E:ϝ (FW (x.m::x.rs) (x.m::x.rs).length=N):=by show _=_;rw[Nu,(Ek h).1,R]
 rw[R]at t⊢;clear R h;obtain⟨j,m,⟨⟨d,f,g⟩,ml⟩,rs⟩:=x;obtain⟨s,al,am⟩:=b;unfold AF hdV;dsimp only at E⊢;obtain⟨n,Y⟩:∃n,rs.length=n:=⟨_,rfl⟩;have HN:=hV0 Y;rw[Y];clear Y;refine(callsIn_wide (n:=0)).1 ?_;refine callsIn_of_wp_marks func135 rfl trivial ?_ rfl;simp only[ntmps135,size_toArray,length_cons,length_nil,Nat.reduceAdd,Nat.reduceSub,Array.replicate_succ,Array.replicate_zero,push_toArray,append_toArray,nil_append,cons_append]
 gi_wp2_with (refine⟨trivial,rfl,?_⟩;gi_at_call 136;refine(callsIn_wide.2 (IH _ _ _ rfl rfl rfl _)).mono ?_;rintro e w' ⟨rfl,rfl⟩)
 have V0:Δ ((((w.alloc (.cells (ν s d f g j n m) 29)).alloc (.cells #[ω] 3)).alloc (.cells (ν s d f g j n m) 29))) (w+1) 0 (vI 0):=ϣ;have V1:Ξ ((((w.alloc (.cells (ν s d f g j n m) 29)).alloc (.cells #[ω] 3)).alloc (.cells (ν s d f g j n m) 29))) (w+1) 0:=ϣ;have V2:Δ ((((w.alloc (.cells (ν s d f g j n m) 29)).alloc (.cells #[ω] 3)).alloc (.cells (ν s d f g j n m) 29))) (w+1+1) 1 (vS d f g):=ϣ;have V3:Δ ((((w.alloc (.cells (ν s d f g j n m) 29)).alloc (.cells #[ω] 3)).alloc (.cells (ν s d f g j n m) 29))) (w+1+1) 2 (vS j n m):=ϣ;have V4:Ϟ w ((((w.alloc (.cells (ν s d f g j n m) 29)).alloc (.cells #[ω] 3)).alloc (.cells (ν s d f g j n m) 29))):=by
  repeat (first|exact bR|(refine Below.alloc ?_ Ϧ _))
 have V5:((((w.alloc (.cells (ν s d f g j n m) 29)).alloc (.cells #[ω] 3)).alloc (.cells (ν s d f g j n m) 29))).heap.size=w.heap.size+1+1+1:=ϡ;generalize ((((w.alloc (.cells (ν s d f g j n m) 29)).alloc (.cells #[ω] 3)).alloc (.cells (ν s d f g j n m) 29)))=V at *;have U:=J0 M.o V4 (w.heap.size+1+1) (Ux (w.heap.size+1)) V2 (by rw[HN.o];exact V3) (Pv ϟ) (λa h0 ha=>Pv (by have:=Acx M.o h0 ha;omega));obtain⟨P,T⟩:∃z:List Part,(((d,f,g),ml)::rs)=z:=⟨_,rfl⟩;dsimp only at U;rw[T]at U E;have ad:ϝ (∀p∈P,p.1.2.1=p.2.length/\p.2.length<=χ):=λp hp=>M.o.len p (by rw[<-T]at hp;exact hp);clear T;refine D6 (gf:=180) (lb:=#[.pointer (some ⟨w+1+1,0,none⟩)]) rfl (enters_of func180 Ϣ rfl) U bR (λx v=>by obtain⟨p,_,rfl⟩:=mem_map.1 v;rfl) (λh k=>KeepO.trans h k) (λW l o o' _ h ho=>KeepO.put W l o o' h ho)
  (λi X=>Δ X (w+1) 0 (vI (FW P i))/\Ξ X (w+1) 0/\Ϟ w X) (λc X=>False)
  (λi X X' ac t H I=>⟨cell_kept t.1 H (λr e=>(I r e).2),(frozen_kept t.1 H (λr e=>(I r e).2)).trans t.2.1,Di t.2.2 nR ϟ H I⟩)
  (λc X X' ac t H I=>t)
  ⟨V0,V1,V4⟩
  (λi Q X=>Q={tmps:=#[.agg #[vI s,vS d f g,vS j n m],.pointer (some ⟨w,0,none⟩),vI 0,.pointer (some ⟨w+1,0,none⟩),hdV (P.getD i ϰ).1,.agg #[vI s,vS d f g,vS j n m],.func (.func 180) #[] #[.pointer (some ⟨w+1+1,0,none⟩)],hdV (P.getD i ϰ).1,undef,undef,undef,undef,undef],defers:=[]})
  (λi Q u X X' ac t H I=>t) ?assign ?body ?done ?stop
 case assign=>
  intro l' k x X K v A y;obtain⟨hk,J⟩:=List.getElem?_eq_some_iff.1 v;rw[lMp]at hk;rw[getElem_map]at J;subst J;have G:P.getD k ϰ=P[k]:=by rw[gDe,gEe hk];rfl
  have F:=λW' h1 h2 h3=>y _ W' h1 h2 h3 rfl;rw[G]at F;clear y G v;obtain⟨⟨⟨z1,z2,z3⟩,zl⟩,hz⟩:∃z,P[k]=z:=⟨_,rfl⟩;rw[hz]at F⊢;unfold hdV at F⊢;dsimp only at F⊢
  gi_wp2
  exact F X (KeepsFrom.refl _ _) (KeepO.refl _ _) A
 case body=>
  intro l' i x Q X v ai aj ae ab;obtain⟨L,i2,i3⟩:=ae;obtain⟨A,J⟩:=List.getElem?_eq_some_iff.1 v;rw[lMp]at A;have G:P.getD i ϰ=P[i]:=by rw[gDe,gEe A];rfl
  rw[G]at ab;subst ab;have Z:=ad.o P[i] (getElem_mem A);have C:FW P (i+1)=FW P i+(P[i]).2.length:=Pt A;have af:FW P (i+1)<=N:=by have:=Aby P (i+1);rw[Nu]at E;have h2:=E.o;omega
  clear v J G;obtain⟨⟨⟨z1,z2,z3⟩,zl⟩,hz⟩:∃z,P[i]=z:=⟨_,rfl⟩;rw[hz]at Z C⊢;dsimp only at Z C⊢;obtain⟨ag,ah⟩:=Z;subst ag;obtain⟨q,hq⟩:∃q,zl.length=q:=⟨_,rfl⟩;rw[hq]at C ah;unfold hdV;dsimp only;rw[hq];obtain⟨O,hO⟩:∃O,FW P i=O:=⟨_,rfl⟩;obtain⟨O2,S⟩:∃O,FW P (i+1)=O:=⟨_,rfl⟩;rw[hO]at L C;rw[S]at C af;have aa:ϝ (FW P (i+1)=O2/\O2=O+q):=⟨S,C⟩;clear hO S hq;have ak:IntKind.i64.wrap ((O:Int)+(q:Int))=(O:Int)+(q:Int):=by rw[IntKind.wrap_i64];omega
  gi_wp2
  refine⟨(KeepsOthers.setCell _ _ _).from _,Abx _ _ _,?_,by simpa using i2,i3.setCell ϡ _⟩;rw[aa.o.1,aa.o.2];have:=World.cell?_setCell_same X ⟨w+1,0,none⟩ (vI ((O:Int)+(q:Int))) L;rw[Int.natCast_add];exact this
 case done=>
  rintro D X hD ⟨L,i2,i3⟩ y;rw[lMp,E.o]at L
  gi_wp2
  refine⟨ϡ,.inl ⟨_,_,rfl,run_takeDeferred y,?_⟩⟩;exact⟨_,results_tmp rfl _ _ _,rfl,CY i3 ϟ y _⟩
 case stop=>
  rintro D c X hD h y;exact h.elim
end bf
def Ω(B:bf.Buf)(X:bf.BX):Mmz (#[.int .i64 B.lim,.slice X.m.1.1 X.m.1.2.1 X.m.1.2.2,.slice X.ra X.rs.length X.rc]:Array Value):=⟨⟩
end Go.Proofs.YtdohnkkbkfhphaaGreat
