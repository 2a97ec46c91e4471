import Derived.Test.YtdohnkkbkfhphaaGreatPw5
set_option linter.all false
set_option maxHeartbeats 8000000
set_option maxRecDepth 100000
open Go.ChangeShapes Go.WideShapes Go.ChangeAt Go.RowKit Go.Shelf List
open Inhabited renaming default->ϰ
namespace Go.Proofs.YtdohnkkbkfhphaaGreat
open Go.Proofs.Tryz
namespace bf
open vl
variable {P : Program} {md : Region.Mode} {ops : Array Oper} {Q : Exit -> Act -> World -> Prop} {S : World -> Prop} {fuel i n : Nat} {listed : Array Bool} {a : Act} {w : ϛ} {oi : Oper} {l : List Ent}
theorem Ad2(i:Nat)(d:Option Tmp)(k:ops[i]? =some oi)
 (o:Region.noSelect ops=true) (j:Region.free md ops listed i=true) (m:(Region.ready md ops listed).contains i=true) (e:∀c a w,Q (.panic c) (a.put oi.dst undef) w->Q (.panic c) a w) (g:oi.dst=d)
 (q:Region.wanted oi (yielded ops a.tmps)=false) (f:S w) (h:wpAnyH P md ops Q S fuel (listed.setIfInBounds i true) (a.put d undef) w):wpAnyH P md ops Q S (fuel+1) listed a w:=
 wpAnyH_take k o j m e (Or.inr ⟨q,rfl⟩) f (by rw[g];exact h)
theorem Ad3{v:Value}(i:Nat)(d:Option Tmp)(k:ops[i]? =some oi)
 (o:Region.noSelect ops=true) (j:Region.free md ops listed i=true) (m:(Region.ready md ops listed).contains i=true) (e:∀c a w,Q (.panic c) (a.put oi.dst v) w->Q (.panic c) a w) (g:oi.dst=d)
 (q:Region.wanted oi (yielded ops a.tmps)=true) (hy:∀w,S w->(execOp a.eval oi).run P w= .ok (.value v) w) (f:S w) (h:wpAnyH P md ops Q S fuel (listed.setIfInBounds i true) (a.put d v) w):wpAnyH P md ops Q S (fuel+1) listed a w:=
 wpAnyH_take k o j m e (Or.inl ⟨q,hy⟩) f (by rw[g];exact h)
def allB(n:Nat)(P:Nat->Bool):Bool:=(List.range n).all P
theorem Bb{P:Nat->Bool}:allB n P=true↔ ∀i,i<n->P i=true:=by simp[allB]
theorem Eh{P:Nat->Bool}(d:i<n)(h:P i=false):allB n P=false:=by
 rcases Bool.eq_false_or_eq_true (allB n P)with c|c
 ·have:=Bb.1 c i d;rw[h]at this;cases this
 ·exact c
theorem QK(f:FuncId)(V:∀A w,(callFunc f A).run Tryz.prog w= .ok (.enter f A) w)(j:Array Value)(P:Nat->Bool)(a:Ϝ)(cap:Nat)(l:List EM)(w:ϛ)(U:l.length<=χ)(ha:BG w a l)
 (H:∀i c,i<l.length->Ϟ w c->Calls Tryz.prog f (#[.int .i64 (i:Nat),(l.getD i ϰ).val]++j) c (θ c (.bool (P i)))):
 η 181 #[.slice a l.length cap,.func (.func f) #[] j] w (θ w (.bool (allB l.length P))):=by
 have R:ϝ (∀i c,i<l.length->Ϟ w c->CT f (#[.int .i64 (i:Nat),(l.getD i ϰ).val]++j) c (θ c (.bool (P i)))):=H;clear H;obtain⟨n,u⟩:∃n,l.length=n:=⟨_,rfl⟩;have y:=hV0 u;rw[u]at U⊢;clear u;go_enter func181,ntmps181;go_wp2
 go_loopw [9] (λi wr=> ∃k:Nat,k<=n/\i= .int .i64 k/\Ϟ w wr/\∀i,i<k->P i=true) (λi _=>n - (intOf i).toNat)
 case atStart=>exact⟨0,Nat.zero_le _,rfl,bR,λi m=>absurd m (Nat.not_lt_zero i)⟩
 case round=>
  obtain⟨k,hk,rfl,d,B⟩:=hrel;have x:=hV0 B;clear B;by_cases t:k<n
  ·obtain⟨b,o,e,J,K,L,N,O⟩:=ha k (by rw[y.o];exact t);subst e;have E:=cLz d J;have F:=cLz d K;have G:=cLz d L;have v:=cLz d N;have I:=cLz d O;clear J K L N O ha;have i1:(0:Int)<=(k:Int):=ϟ;have i2:(k:Int)<(n:Int):=ϟ;have g:ϝ (∀c,Ϟ wr c->CT f (#[.int .i64 (k:Nat),(l.getD k ϰ).val]++j) c (θ c (.bool (P k)))):=λc T=>R.o k c (by rw[y.o];exact t) (bT d T);obtain⟨⟨X,Z,es,⟨r1,r2,r3⟩,Y⟩,D⟩:∃z,l.getD k ϰ=z:=⟨_,rfl⟩;rw[D]at E F G v I g;unfold EM.val hdV at g;unfold hdV at v;dsimp only at E F G v I g;clear D;have C:=d.size
   cases hp:P k with
   |true=>
    rw[hp]at g;go_wp2_with (go_at_fn f;refine(g.o _ Ϫ).mono ?_;rintro e c ⟨rfl,r⟩;have s:=(d.alloc C _).trans (r.mono Ϥ));go_roundw
    case rel=>exact⟨k+1,ϟ,by go_num,s,λi m=>by
     rcases Nat.lt_succ_iff_lt_or_eq.1 m with h|h
     ·exact x.o i h
     ·rw[h];exact hp⟩
    case measure=>simp[intOf];omega
   |false=>
    have q:ϝ (allB n P=false):=Eh t hp;rw[hp]at g;go_wp2_with (go_at_fn f;refine(g.o _ Ϫ).mono ?_;rintro e c ⟨rfl,r⟩;have s:=(d.alloc C _).trans (r.mono Ϥ));go_ret;exact⟨Ab q.o.symm,s⟩
  ·have q:ϝ (allB n P=true):=Bb.2 (λi m=>x.o i ϟ);go_wp2;go_ret;exact⟨Ab q.o.symm,d⟩
theorem QL(d:FuncId)(G:∀y w,(callFunc d y).run Tryz.prog w= .ok (.enter d y) w)(j:Array Value)(P:Nat->Bool)(a:Ϝ)(cap:Nat)(l:List Hdr)(w:ϛ)(F:l.length<=χ)(ha:F8 w a l)
 (H:∀i c,i<l.length->Ϟ w c->Calls Tryz.prog d (#[.int .i64 (i:Nat),hdV (l.getD i (none,0,0))]++j) c (θ c (.bool (P i)))):
 η 184 #[.slice a l.length cap,.func (.func d) #[] j] w (θ w (.bool (allB l.length P))):=by
 have E:ϝ (∀i c,i<l.length->Ϟ w c->CT d (#[.int .i64 (i:Nat),hdV (l.getD i (none,0,0))]++j) c (θ c (.bool (P i)))):=H;clear H;obtain⟨n,t⟩:∃n,l.length=n:=⟨_,rfl⟩;have x:=hV0 t;rw[t]at F⊢;clear t;go_enter func184,ntmps184;go_wp2
 go_loopw [9] (λi wr=> ∃k:Nat,k<=n/\i= .int .i64 k/\Ϟ w wr/\∀i,i<k->P i=true) (λi _=>n - (intOf i).toNat)
 case atStart=>exact⟨0,Nat.zero_le _,rfl,bR,λi m=>absurd m (Nat.not_lt_zero i)⟩
 case round=>
  obtain⟨k,I,rfl,g,A⟩:=hrel;have v:=hV0 A;clear A;by_cases s:k<n
  ·obtain⟨b,o,e,D⟩:=ha k (by rw[x.o];exact s);subst e;have u:=cLz g D;clear D ha;have J:(0:Int)<=(k:Int):=ϟ;have K:(k:Int)<(n:Int):=ϟ;have f:ϝ (CT d (#[.int .i64 (k:Nat),hdV (l.getD k (none,0,0))]++j) wr (θ wr (.bool (P k)))):=E.o k wr (by rw[x.o];exact s) g;obtain⟨⟨L,N,O⟩,C⟩:∃z,l.getD k (none,0,0)=z:=⟨_,rfl⟩;rw[C]at u f;unfold hdV at u f;dsimp only at u f;clear C;have B:=g.size
   cases hp:P k with
   |true=>
    rw[hp]at f;go_wp2_with (go_at_fn d;refine f.o.mono ?_;rintro e c ⟨rfl,r⟩);go_roundw
    case rel=>exact⟨k+1,ϟ,by go_num,g.trans (r.mono B),λi m=>by
     rcases Nat.lt_succ_iff_lt_or_eq.1 m with h|h
     ·exact v.o i h
     ·rw[h];exact hp⟩
    case measure=>simp[intOf];omega
   |false=>
    have q:ϝ (allB n P=false):=Eh s hp;rw[hp]at f;go_wp2_with (go_at_fn d;refine f.o.mono ?_;rintro e c ⟨rfl,r⟩);go_ret;exact⟨Ab q.o.symm,g.trans (r.mono B)⟩
  ·have q:ϝ (allB n P=true):=Bb.2 (λi m=>v.o i ϟ);go_wp2;go_ret;exact⟨Ab q.o.symm,g⟩
theorem UK(i:Int)(h:Hdr)(w:ϛ):η 185 #[.int .i64 i,hdV h] w (θ w (.bool (decide (0<h.2.1)))):=by
 obtain⟨f,d,g⟩:=h;unfold hdV;dsimp only;by_cases e:0<d
 ·have c:ϝ (decide (0<d)=true):=decide_eq_true e;go_enter func185,ntmps185;go_wp2;go_ret;exact⟨Ab (by rw[c.o]),bR⟩
 ·have c:ϝ (decide (0<d)=false):=decide_eq_false e;go_enter func185,ntmps185;go_wp2;go_ret;exact⟨Ab (by rw[c.o]),bR⟩
noncomputable def FM(l:List Ent)(i:Nat):Bool:=Dp (l.getD i ϰ)&&(decide (i=0)||decide (ltP (l.getD (i - 1) ϰ) (l.getD i ϰ)))
theorem Yv(h:Dp (l.getD i ϰ)=false):FM l i=false:=by unfold FM;rw[h];rfl
theorem UL(h:Dp (l.getD 0 ϰ)=true):FM l 0=true:=by unfold FM;rw[h];rfl
theorem UN(h:Dp (l.getD i ϰ)=true)(c:i≠0):FM l i=decide (ltP (l.getD (i - 1) ϰ) (l.getD i ϰ)):=by
 unfold FM;rw[h,decide_eq_false c];rfl
theorem Yw(a:Ϝ)(cap:Nat)(es:List EM)(l:List Ent)(i:Nat)(H:Nat)(w:ϛ)(hi:i<l.length)(hl:l.length<=χ)(Z:Δ w H 0 (.slice a l.length cap))(ha:BG w a es)(hr:ERs w es l)(ah:∀x∈l,wfE x):
 η 182 #[.int .i64 i,(es.getD i ϰ).val,μ H] w (θ w (.bool (FM l i))):=by
 have ag:l.getD i ϰ∈l:=by simp[gDe,hi]
 have t:ϝ (∀y,Ϟ w y->CT 183 #[(es.getD i ϰ).val] y (θ y (.bool (Dp (l.getD i ϰ))))):=λy hb=>Io _ _ y ((hr.2 i hi).below hb) (ah _ ag);have lP:H<w.heap.size:=bLt _ _ Z;obtain⟨n,hn⟩:=nM l.length;rw[hn]at Z hl hi;have U:=hV0 hn;have G:ϝ (BG w a es/\ERs w es l):=⟨ha,hr⟩;obtain⟨e,he⟩:=nM (es.getD i ϰ);have aj:=hV0 he;rw[he]at t⊢;clear hn ha hr ah ag he;obtain⟨R,hR⟩:=nM (FM l i);have X:=hV0 hR;rw[hR];clear hR
 cases hf:Dp (l.getD i ϰ)with
 |false=>
  have T:ϝ (false=R):=by show _=_;rw[<-X.o,Yv hf]
  rw[hf]at t;obtain⟨k,r,q,⟨f,g,h⟩,m⟩:=e;unfold EM.val hdV at t⊢;dsimp only at t⊢;have d:Ϟ w (ξ w (ζ k r q f g h m) 63):=Ϫ;go_enter func182,ntmps182;go_wp2;refine wp_region_held_drew (S:=(λA=>Ϗ A w (.string k) (.int .i64 r) (.int .i64 q) (.slice f g h) (.bool m))) Ϣ ⟨ϣ,ϣ,ϣ,ϣ,ϣ⟩ (λc=>?_);refine tkz 0 6 c ?_;refine rD 1 λK D=>?_;go_simp;refine(t.o _ d.drew).mono ?_;rintro e w2 ⟨rfl,s⟩;go_wp2_with fail;refine D.out _ _ ⟨cLz s c.1,cLz s c.2.1,cLz s c.2.2.1,cLz s c.2.2.2.1,cLz s c.2.2.2.2⟩ (λc=>?_);clear D K
  try simp only[Act.put,sI,sZ,sSz]
  refine tkz 2 8 c ?_;refine sk 3 9 c ?_;refine sk 4 10 c ?_;refine sk 5 11 c ?_;refine sk 6 12 c ?_;refine sk 7 13 c ?_;refine sk 8 14 c ?_;refine sk 9 15 c ?_;refine sk 10 16 c ?_;refine sk 11 17 c ?_;refine sk 12 18 c ?_;refine sk 13 19 c ?_;refine sk 14 20 c ?_;refine tkz 15 21 c ?_;refine tkz 16 5 c ?_;refine wpAnyH_done Ϣ ?_ _;go_wp2;go_ret;exact⟨Ab T.o,d.drew.trans (s.mono d.drew.size)⟩
 |true=>
  rw[hf]at t;by_cases Y:i=0
  ·subst Y;have T:ϝ (true=R):=by show _=_;rw[<-X.o,UL hf]
   obtain⟨k,r,q,⟨f,g,h⟩,m⟩:=e;unfold EM.val hdV at t⊢;dsimp only at t⊢;have d:Ϟ w (ξ w (ζ k r q f g h m) 63):=Ϫ;go_enter func182,ntmps182;go_wp2;refine wp_region_held_drew (S:=(λA=>Ϗ A w (.string k) (.int .i64 r) (.int .i64 q) (.slice f g h) (.bool m))) Ϣ ⟨ϣ,ϣ,ϣ,ϣ,ϣ⟩ (λc=>?_);refine tkz 0 6 c ?_;refine rD 1 λK D=>?_;go_simp;refine(t.o _ d.drew).mono ?_;rintro e w2 ⟨rfl,s⟩;go_wp2_with fail;refine D.out _ _ ⟨cLz s c.1,cLz s c.2.1,cLz s c.2.2.1,cLz s c.2.2.2.1,cLz s c.2.2.2.2⟩ (λc=>?_);clear D K
   try simp only[Act.put,sI,sZ,sSz]
   refine tkz 2 8 c ?_;refine tkz 3 9 c ?_;refine tkz 4 10 c ?_;refine tkz 5 11 c ?_;refine sk 6 12 c ?_;refine sk 7 13 c ?_;refine sk 8 14 c ?_;refine sk 9 15 c ?_;refine sk 10 16 c ?_;refine sk 11 17 c ?_;refine sk 12 18 c ?_;refine sk 13 19 c ?_;refine tkz 14 20 c ?_;refine tkz 15 21 c ?_;refine tkz 16 5 c ?_;refine wpAnyH_done Ϣ ?_ _;go_wp2;go_ret;exact⟨Ab T.o,d.drew.trans (s.mono d.drew.size)⟩
  ·obtain⟨b,o,ea,E,L,N,F,O⟩:=G.o.1 (i - 1) (by rw[G.o.2.1,U.o];omega);have B:ϝ (∀y,CT 116 #[(es.getD (i - 1) ϰ).val,e.val] y (θ y (.int .i64 (cmpP (l.getD (i - 1) ϰ) (l.getD i ϰ))))):=λy=>by
    have h1:=G.o.2.2 (i - 1) (by rw[U.o];omega);have h2:=G.o.2.2 i (by rw[U.o];omega);rw[aj.o]at h2;have:=Si (es.getD (i - 1) ϰ) e y;rwa[Kg h1 h2]at this
   have aa:decide (cmpP (l.getD (i - 1) ϰ) (l.getD i ϰ)<0)=R:=by
    rw[<-X.o,UN hf Y];exact decide_eq_decide.2 Fc
   obtain⟨C,hC⟩:=nM (cmpP (l.getD (i - 1) ϰ) (l.getD i ϰ));rw[hC]at B aa;subst ea;obtain⟨⟨k2,t2,s2,⟨a2,b2,c2⟩,m2⟩,hz⟩:∃z,es.getD (i - 1) ϰ=z:=⟨_,rfl⟩;rw[hz]at E L N F O B;obtain⟨j,hj⟩:∃j,i=j+1:=⟨i - 1,ϟ⟩;subst hj;have af:j+1 - 1=j:=ϟ;rw[af]at E L N F O;obtain⟨k,r,q,⟨f,g,h⟩,m⟩:=e;unfold EM.val hdV at t B⊢;unfold hdV at F;dsimp only at t B E L N F O⊢;have ai:=hV0 aa;obtain⟨I,J⟩:∃I:Int,((j+1:Nat):Int)=I:=⟨_,rfl⟩;have am:IntKind.i64.wrap (I - 1)=(j:Int):=by rw[<-J,IntKind.wrap_i64];omega
   have an:(I==0)=false:=by rw[<-J];simp;omega
   rw[J];have i1:(0:Int)<=(j:Int):=ϟ;have i2:(j:Int)<(n:Int):=ϟ;have lb:b<w.heap.size:=bLt _ _ E;clear hz hC aa Y af J;have d:Ϟ w (ξ w (ζ k r q f g h m) 63):=Ϫ;go_enter func182,ntmps182;go_wp2;have b0:Δ (ξ w (ζ k r q f g h m) 63) w 0 (.string k):=ϣ;have ab:Δ (ξ w (ζ k r q f g h m) 63) w 1 (.int .i64 r):=ϣ;have ac:Δ (ξ w (ζ k r q f g h m) 63) w 2 (.int .i64 q):=ϣ;have ad:Δ (ξ w (ζ k r q f g h m) 63) w 3 (.slice f g h):=ϣ;have ae:Δ (ξ w (ζ k r q f g h m) 63) w 4 (.bool m):=ϣ;have p0:=cLz d Z;have y1:=cLz d E;have y2:=cLz d L;have y3:=cLz d N;have y4:=cLz d F;have y5:=cLz d O;generalize w.alloc (.cells (ζ k r q f g h m) 63)=V at *
   go_region_held3 (λA=>ϗ A w (.string k) (.int .i64 r) (.int .i64 q) (.slice f g h) (.bool m) (Δ A H 0 (.slice (some ⟨b,o,none⟩) n cap)/\ό A b (o+j * 5) (.string k2) (.int .i64 t2) (.int .i64 s2) (.slice a2 b2 c2) (.bool m2)))
    (first|go_keep|exact⟨cLz u b0,cLz u ab,cLz u ac,cLz u ad,cLz u ae,cLz u p0,cLz u y1,cLz u y2,cLz u y3,cLz u y4,cLz u y5⟩|exact⟨cLz v b0,cLz v ab,cLz v ac,cLz v ad,cLz v ae,cLz v p0,cLz v y1,cLz v y2,cLz v y3,cLz v y4,cLz v y5⟩)
    (first
     |(go_at_call 183;refine(t.o V.drew d.drew).mono ?_;rintro e wA ⟨rfl,ak⟩;have u:Ϟ V wA:=bR.drew.trans ak)
     |(go_at_call 116;refine(B.o wA).mono ?_;rintro e wF ⟨rfl,al⟩;have v:Ϟ V wF:=bT u al))
   all_goals
    go_wp2;go_ret;exact⟨Ab ai.o,bT d v⟩
end bf
namespace bf
variable {W : ϛ} {M : Nat}
abbrev Plc:=ByteArray×Int×Int
def Ci(p:Plc):Value:=.agg #[.string p.1,.int .i64 p.2.1,.int .i64 p.2.2]
theorem bytes_beq(a b:ByteArray):(a.toList==b.toList)=decide (a=b):=by
 by_cases h:a=b
 ·subst h;simp
 ·rw[decide_eq_false h,beq_eq_false_iff_ne];intro e;exact h (ByteArray.ext (Array.ext' (by rwa[Lib.toList_data,Lib.toList_data]at e)))
theorem UO(a b:Plc)(w:ϛ):(Op.equal 232 (Ci a) (Ci b)).run Tryz.prog w= .ok (decide (a=b)) w:=by
 obtain⟨c,k,g⟩:=a;obtain⟨d,m,j⟩:=b;show(Op.equalIn 10000 232 (Ci (c,k,g)) (Ci (d,m,j))).run Tryz.prog w=_;unfold Ci;have h:(binOp .eql 232 (.agg #[.string c,.int .i64 k,.int .i64 g]) (.agg #[.string d,.int .i64 m,.int .i64 j])).run Tryz.prog w= .ok (.bool (decide ((c,k,g)=(d,m,j)))) w:=by
  by_cases f:c.toList=d.toList
  ·have q:c=d:=by have:=bytes_beq c d;rw[f]at this;simpa using this.symm
   subst q;by_cases o:k=m
   ·subst o;by_cases r:g=j
    ·subst r;go_simp
    ·have t:(g==j)=false:=by simpa using r
     go_simp
   ·have s:(k==m)=false:=by simpa using o
    go_simp
  ·have q:c≠d:=λe=>f (by rw[e]);go_simp
 rw[run_eql_struct]at h
 cases hh:(Op.equalIn 10000 232 (.agg #[.string c,.int .i64 k,.int .i64 g]) (.agg #[.string d,.int .i64 m,.int .i64 j])).run Tryz.prog w with
 |ok b w'=>
  rw[hh]at h;simp only[Result.andThen]at h;injection h with f o
  injection f with f
  rw[f,o]
 |_=>rw[hh]at h;simp[Result.andThen]at h
structure wfP(a:Plc):Prop where
 key:a.1.size<=maxLen
 time: -9223372036854775808<=a.2.1/\a.2.1<=9223372036854775807
 seq: -9223372036854775808<=a.2.2/\a.2.2<=9223372036854775807
theorem NR{n:Int}(h: -9223372036854775808<=n/\n<=9223372036854775807):(Lit.int .i64 n).wf=true:=by
 show(decide (IntKind.i64.min<=n)&&decide (n<=IntKind.i64.max))=true;have c:IntKind.i64.min= -9223372036854775808:=Ϡ;have d:IntKind.i64.max=9223372036854775807:=Ϡ;rw[c,d,decide_eq_true h.1,decide_eq_true h.2];rfl
theorem UP(a b c:Value):Tryz.prog.keyLits 3 232 [a,b,c]=([Tryz.prog.keyLits 2 9 [a],Tryz.prog.keyLits 2 3 [b],Tryz.prog.keyLits 2 3 [c]].mapM id).map List.flatten:=Ϣ
theorem Aa0(k:ByteArray)(h:k.size<=maxLen):Tryz.prog.keyLits 2 9 [.string k]=some [.string k.data.toList]:=by
 have e:Tryz.prog.keyLits 2 9 [.string k]=if k.size<=maxLen then some [.string k.data.toList]else none:=by
  unfold Program.keyLits;rw[underlying9]
 rw[e,if_pos h]
theorem SL(n:Int)(h:(Lit.int .i64 n).wf=true):Tryz.prog.keyLits 2 3 [.int .i64 n]=some [.int .i64 n]:=by
 have e:Tryz.prog.keyLits 2 3 [.int .i64 n]=if IntKind.i64=IntKind.i64/\(Lit.int .i64 n).wf=true then some [.int .i64 n]else none:=by
  unfold Program.keyLits;rw[underlying3]
 rw[e,if_pos ⟨rfl,h⟩]
theorem IU(c:Bool)(a:Plc)(w:ϛ)(h:wfP a):(Instr.checkKey c 10000 232 (Ci a)).run Tryz.prog w= .ok () w:=by
 have:=run_checkKey_deep (P:=Tryz.prog) c 9997 3 232 Ϣ w 3 (Ci a) [.string a.1.data.toList,.int .i64 a.2.1,.int .i64 a.2.2] Ϣ (by
  show Tryz.prog.keyLits 3 232 [.string a.1,.int .i64 a.2.1,.int .i64 a.2.2]=_;rw[UP,Aa0 _ h.key,SL _ (NR h.time),SL _ (NR h.seq)];rfl)
 exact this
section
variable {p : Plc} {w : ϛ}
theorem L6:∀(es:List MapEntry) (i:Nat),(∀e∈es,∃q,e.key=Ci q/\q≠p)->(Instr.findAsking 232 (Ci p) es i).run Tryz.prog w= .ok none w
 |[],i,_=>by simp[Instr.findAsking]
 |e::es,i,h=>by
  obtain⟨q,f,d⟩:=h e (mem_cons_self ..);have j:=L6 es (i+1) (λx g=>h x (mem_cons_of_mem _ g));have c:decide (p=q)=false:=decide_eq_false (λh=>d h.symm);simp only[Instr.findAsking,Sem.run_bind,f,UO,Result.andThen_ok,c,Bool.false_eq_true,if_false];exact j
theorem L8{e:MapEntry}(c:e.key=Ci p)(B:List MapEntry):∀(A:List MapEntry) (i:Nat),(∀e∈A,∃q,e.key=Ci q/\q≠p)->(Instr.findAsking 232 (Ci p) (A++e::B) i).run Tryz.prog w= .ok (some (i+A.length,e.val)) w
 |[],i,_=>by
  simp only[nil_append,Instr.findAsking,Sem.run_bind,c,UO,Result.andThen_ok,decide_true,if_true];simp
 |x::A,i,h=>by
  obtain⟨q,g,f⟩:=h x (mem_cons_self ..);have k:=L8 c B A (i+1) (λx j=>h x (mem_cons_of_mem _ j));have d:decide (p=q)=false:=decide_eq_false (λh=>f h.symm);simp only[cons_append,Instr.findAsking,Sem.run_bind,g,UO,Result.andThen_ok,d,Bool.false_eq_true,if_false];rw[k,length_cons]
  congr 3
  omega
theorem K6(es:List MapEntry):(Instr.findKey 232 (Ci p) es).run Tryz.prog w=(Instr.findAsking 232 (Ci p) es 0).run Tryz.prog w:=by
 unfold Instr.findKey;simp only[Sem.run_bind,run_underlying underlying232,Result.andThen_ok]
 cases es with
 |nil=>simp[Instr.findNow,Instr.findAsking]
 |cons e es=>
  have h:∀c,Instr.findNow (.struct c) (Ci p) (e::es) 0=none:=λc=>by
   simp[Instr.findNow,Instr.sameNow]
  rw[h]
variable {M clock : Nat} {es : Array MapEntry}
theorem K7(h:w.heap[M]? =some (.map es clock)):(getObj M).run Tryz.prog w= .ok (.map es clock) w:=by simp[getObj,Sem.run,h]
theorem QM(c:Obj)(h:w.heap[M]? =some (.map es clock)):(setObj M c).run Tryz.prog w= .ok () (w.putObj M c):=by simp[setObj,Sem.run,h,World.putObj]
theorem Ac0(w:ϛ):(zeroValue 3).run Tryz.prog w= .ok (.int .i64 0) w:=Tryz.zeroValue3 w
theorem Yx(c:w.heap[M]? =some (.map es clock))(f:wfP p)(d:∀e∈es.toList,∃q,e.key=Ci q/\q≠p):
 (Instr.lookup 230 (.map (some M)) (Ci p) false).run Tryz.prog w= .ok (.int .i64 0) w:=by
 unfold Instr.lookup;simp only[Sem.run_bind,run_underlying underlying230,Result.andThen_ok,K7 c,Sem.run_pure,IU _ p w f,K6,L6 _ _ d,Ac0,Bool.false_eq_true,if_false]
theorem GN{A B:List MapEntry}{e:MapEntry}(d:w.heap[M]? =some (.map (A++e::B).toArray clock))(g:wfP p)(f:∀e∈A,∃q,e.key=Ci q/\q≠p)(c:e.key=Ci p):
 (Instr.lookup 230 (.map (some M)) (Ci p) false).run Tryz.prog w= .ok e.val w:=by
 unfold Instr.lookup;simp only[Sem.run_bind,run_underlying underlying230,Result.andThen_ok,K7 d,Sem.run_pure,IU _ p w g,K6,L8 c B A 0 f,Bool.false_eq_true,if_false]
theorem UQ(c:w.heap[M]? =some (.map es clock))(f:wfP p)(d:∀e∈es.toList,∃q,e.key=Ci q/\q≠p):
 (Instr.mapEntry 230 (.map (some M)) (Ci p)).run Tryz.prog w= .ok (.tuple #[.int .i64 0,.int .i64 clock]) (w.putObj M (.map (es.push ⟨Ci p,.int .i64 0,clock⟩) (clock+1))):=by
 unfold Instr.mapEntry;simp only[Sem.run_bind,run_underlying underlying230,Result.andThen_ok,K7 c,Sem.run_pure,IU _ p w f,K6,L6 _ _ d,Ac0,QM _ c,goInt]
theorem Yy:(Instr.sameBits 10000 (Ci p) (Ci p))=true:=by
 have c:(p.1==p.1)=true:=by
  obtain⟨⟨⟨x⟩⟩,t⟩:=p;show((⟨x⟩:Array UInt8)==⟨x⟩)=true;simp
 unfold Ci;simp[Instr.sameBits,c]
theorem UR{A B:List MapEntry}{e:MapEntry}(d:w.heap[M]? =some (.map (A++e::B).toArray clock))(k:wfP p)(j:∀e∈A,∃q,e.key=Ci q/\q≠p)(c:e.key=Ci p):
 (Instr.mapEntry 230 (.map (some M)) (Ci p)).run Tryz.prog w= .ok (.tuple #[e.val,.int .i64 e.born]) (w.putObj M (.map (A++e::B).toArray clock)):=by
 have f:(A++e::B).toArray[0+A.length]? =some e:=ϡ;have g:((A++e::B).toArray.modify (0+A.length) λx=>{x with key:=Ci p})=(A++e::B).toArray:=by
  refine Array.ext ϡ (λi m o=>?_);rw[Array.getElem_modify];split
  ·rename_i h;subst h;have:(A++e::B).toArray[0+A.length]=e:=ϡ;rw[this,<-c]
  ·rfl
 unfold Instr.mapEntry;simp only[Sem.run_bind,run_underlying underlying230,Result.andThen_ok,K7 d,Sem.run_pure,IU _ p w k,K6,L8 c B A 0 j,f,Option.map_some,Option.getD_some,c,Instr.keyThatStays,Yy,if_true,g,QM _ d,goInt]
theorem SO{i:Nat}{v:Value}{c:Int}(d:w.heap[M]? =some (.map es clock))(f:es.findIdx? (λe=>(e.born:Int)==c)=some i):
 (Instr.entryStore 230 (.map (some M)) (.int .i64 c) v).run Tryz.prog w= .ok () (w.putObj M (.map (es.modify i λe=>{e with val:=v}) clock)):=by
 unfold Instr.entryStore;simp only[Sem.run_bind,Result.andThen_ok,K7 d,Sem.run_pure,asInt,asIntOf,f,QM _ d]
end
def BN:Nat->List Plc->List MapEntry
 |_,[]=>[]
 |i,p::ps=>⟨Ci p,.int .i64 1,i⟩::BN (i+1) ps
theorem J7(i:Nat)(ps c:List Plc):BN i (ps++c)=BN i ps++BN (i+ps.length) c:=by
 induction ps generalizing i with
 |nil=>rfl
 |cons p ps ih=>rw[cons_append,BN,ih,BN,length_cons,show i+(ps.length+1)=i+1+ps.length by omega];rfl
theorem US(i:Nat)(ps:List Plc):(BN i ps).length=ps.length:=by
 induction ps generalizing i with
 |nil=>rfl
 |cons p ps ih=>rw[BN,length_cons,ih,length_cons]
theorem FN{i:Nat}{ps:List Plc}{e:MapEntry}(h:e∈BN i ps):(∃q,q∈ps/\e.key=Ci q)/\i<=e.born/\e.born<i+ps.length:=by
 induction ps generalizing i with
 |nil=>cases h
 |cons p ps ih=>
  rw[BN]at h;rcases mem_cons.1 h with rfl|h
  ·exact⟨⟨p,mem_cons_self ..,rfl⟩,Nat.le_refl _,ϡ⟩
  ·obtain⟨⟨q,d,c⟩,f,g⟩:=ih h;exact⟨⟨q,mem_cons_of_mem _ d,c⟩,ϟ,by rw[length_cons];omega⟩
def DF(W:World)(M:Nat)(ps:List Plc):Prop:=W.heap[M]? =some (.map (BN 0 ps).toArray ps.length)
theorem GO{ps:List Plc}(h:DF W M ps):M<W.heap.size:=(Array.getElem?_eq_some_iff.1 h).1
theorem find_born{A B:List MapEntry}{e:MapEntry}{n:Nat}(d:∀x∈A,x.born≠n)(f:e.born=n):(A++e::B).toArray.findIdx? (λx=>(x.born:Int)==(n:Int))=some A.length:=by
 rw[findIdx?_toArray,findIdx?_append];have c:A.findIdx? (λx=>(x.born:Int)==(n:Int))=none:=by
  rw[findIdx?_eq_none_iff];intro x g;have:=d x g;rw[beq_eq_false_iff_ne];omega
 rw[c];simp[findIdx?_cons,f]
theorem PD{A B:List MapEntry}{e:MapEntry}(f:MapEntry->MapEntry):(A++e::B).toArray.modify A.length f=(A++f e::B).toArray:=by
 refine Array.ext ϡ (λi d g=>?_);rw[Array.getElem_modify];simp only[getElem_toArray];split
 ·rename_i c;subst c;simp
 ·rename_i c;rcases Nat.lt_or_ge i A.length with h|h
  ·rw[getElem_append_left h,getElem_append_left h]
  ·rw[getElem_append_right h,getElem_append_right h];have:i - A.length=(i - A.length - 1)+1:=ϟ;simp only[getElem_cons];rw[dif_neg ϟ,dif_neg ϟ]
theorem SP{ps:List Plc}{p:Plc}(h:p∈ps):∃A B,ps=A++p::B/\p ∉ A:=by
 induction ps with
 |nil=>cases h
 |cons q ps ih=>
  by_cases e:q=p
  ·subst e;exact⟨[],ps,rfl,ϡ⟩
  ·obtain⟨A,B,c,d⟩:=ih ((mem_cons.1 h).resolve_left (λk=>e k.symm));exact⟨q::A,B,by rw[c];rfl,λk=>(mem_cons.1 k).elim (λk=>e k.symm) d⟩
theorem AbV{ps:List Plc}{p:Plc}(o:DF W M ps)(t:wfP p)(B:p ∉ ps):∃c d,
 (Instr.lookup 230 (.map (some M)) (Ci p) false).run Tryz.prog W= .ok (.int .i64 0) W/\
 (Instr.mapEntry 230 (.map (some M)) (Ci p)).run Tryz.prog W= .ok (.tuple #[.int .i64 0,.int .i64 ps.length]) c/\
 (Instr.lookup 230 (.map (some M)) (Ci p) false).run Tryz.prog c= .ok (.int .i64 0) c/\
 (Instr.entryStore 230 (.map (some M)) (.int .i64 ps.length) (.int .i64 1)).run Tryz.prog c= .ok () d/\
 DF d M (ps++[p])/\W.grownBy d (some M):=by
 have s:∀e∈BN 0 ps,∃q,e.key=Ci q/\q≠p:=λe A=>by
  obtain⟨⟨q,C,f⟩,_⟩:=FN A;exact⟨q,f,λh=>B (by rw[<-h];exact C)⟩
 have y:=Yx o t (by simpa using s);have u:=UQ o t (by simpa using s);obtain⟨c,j⟩:=nM (W.putObj M (.map ((BN 0 ps).toArray.push ⟨Ci p,.int .i64 0,ps.length⟩) (ps.length+1)));rw[j]at u;have r:c.heap[M]? =some (.map (BN 0 ps++(⟨Ci p,.int .i64 0,ps.length⟩:MapEntry)::[]).toArray (ps.length+1)):=by
  rw[<-j,World.putObj_heap_same (GO o)];simp
 have z:=GN r t s rfl;have g:=SO (v:=.int .i64 1) r (find_born (n:=ps.length) (λx D=>by have:=(FN D).2.2;omega) rfl);rw[PD]at g;obtain⟨d,m⟩:=nM (c.putObj M (.map (BN 0 ps++{(⟨Ci p,.int .i64 0,ps.length⟩:MapEntry)with val:=.int .i64 1}::[]).toArray (ps.length+1)));rw[m]at g;refine⟨c,d,y,u,z,g,?_,?_⟩
 ·show d.heap[M]? =_;rw[<-m,World.putObj_heap_same (Array.getElem?_eq_some_iff.1 r).1,J7,lAp];simp[BN]
 ·rw[<-m,<-j];exact⟨rfl,rfl,rfl,ϡ,λk _ f=>(World.putObj_heap_other (λe=>f (by rw[e]))).trans (World.putObj_heap_other (λe=>f (by rw[e])))⟩
theorem AbW{ps:List Plc}{p:Plc}(y:DF W M ps)(m:wfP p)(I:p∈ps):∃(b:Nat) (c d:ϛ),
 (Instr.lookup 230 (.map (some M)) (Ci p) false).run Tryz.prog W= .ok (.int .i64 1) W/\
 (Instr.mapEntry 230 (.map (some M)) (Ci p)).run Tryz.prog W= .ok (.tuple #[.int .i64 1,.int .i64 b]) c/\
 (Instr.lookup 230 (.map (some M)) (Ci p) false).run Tryz.prog c= .ok (.int .i64 1) c/\
 (Instr.entryStore 230 (.map (some M)) (.int .i64 b) (.int .i64 2)).run Tryz.prog c= .ok () d/\
 (∀f:World,f.heap[M]? =d.heap[M]? ->(Instr.lookup 230 (.map (some M)) (Ci p) false).run Tryz.prog f= .ok (.int .i64 2) f)/\W.grownBy d (some M):=by
 obtain⟨A,B,rfl,F⟩:∃A B,ps=A++p::B/\p ∉ A:=SP I;have z:W.heap[M]? =some (.map (BN 0 A++(⟨Ci p,.int .i64 1,A.length⟩:MapEntry)::BN (A.length+1) B).toArray (A++p::B).length):=by
  have:=y;unfold DF at this;rw[J7,Nat.zero_add,BN]at this;exact this
 have j:∀e∈BN 0 A,∃q,e.key=Ci q/\q≠p:=λe G=>by
  obtain⟨⟨q,J,g⟩,_⟩:=FN G;exact⟨q,g,λh=>F (by rw[<-h];exact J)⟩
 have C:=GN z m j rfl;have u:=UR z m j rfl;obtain⟨c,r⟩:=nM (W.putObj M (.map (BN 0 A++(⟨Ci p,.int .i64 1,A.length⟩:MapEntry)::BN (A.length+1) B).toArray (A++p::B).length));rw[r]at u;have t:c.heap[M]? =some (.map (BN 0 A++(⟨Ci p,.int .i64 1,A.length⟩:MapEntry)::BN (A.length+1) B).toArray (A++p::B).length):=by
  rw[<-r,World.putObj_heap_same (GO y)]
 have D:=GN t m j rfl;have L:(BN 0 A).length=A.length:=US 0 A;have o:=SO (v:=.int .i64 2) t (find_born (n:=A.length) (λx K=>by have:=(FN K).2.2;omega) rfl);rw[PD]at o;obtain⟨d,s⟩:=nM (c.putObj M (.map (BN 0 A++{(⟨Ci p,.int .i64 1,A.length⟩:MapEntry)with val:=.int .i64 2}::BN (A.length+1) B).toArray (A++p::B).length));rw[s]at o;refine⟨A.length,c,d,C,u,D,o,λf E=>?_,?_⟩
 ·have H:f.heap[M]? =some (.map (BN 0 A++{(⟨Ci p,.int .i64 1,A.length⟩:MapEntry)with val:=.int .i64 2}::BN (A.length+1) B).toArray (A++p::B).length):=by
   rw[E,<-s,World.putObj_heap_same (Array.getElem?_eq_some_iff.1 t).1]
  exact GN H m j rfl
 ·rw[<-s,<-r];exact⟨rfl,rfl,rfl,ϡ,λk _ g=>(World.putObj_heap_other (λe=>g (by rw[e]))).trans (World.putObj_heap_other (λe=>g (by rw[e])))⟩
theorem Aa1{ps:List Plc}{p:Plc}(c:DF W M (ps++[p]))(k:wfP p)(g:p ∉ ps):(Instr.lookup 230 (.map (some M)) (Ci p) false).run Tryz.prog W= .ok (.int .i64 1) W:=by
 have j:∀e∈BN 0 ps,∃q,e.key=Ci q/\q≠p:=λe d=>by
  obtain⟨⟨q,m,f⟩,_⟩:=FN d;exact⟨q,f,λh=>g (by rw[<-h];exact m)⟩
 unfold DF at c;rw[J7]at c;exact GN c k j rfl
end bf
namespace bf
open vl
attribute [local go_sem] Oper.semAt_some
variable {b : Nat} {W W' : ϛ}
def Az(x:Ent):Plc:=(x.key,x.time,x.seq)
theorem L9{a b:Ent}:Az a=Az b↔Eb a b:=by
 unfold Az Eb;simp[Prod.mk.injEq]
def hasB(l:List Ent)(p:Plc):Bool:=l.any λx=>decide (Az x=p)
def FX:Nat->Obj->Prop:=λ_ _=>True
theorem Am:names FX W b:=λ_ _=>trivial
theorem CI{n:Nat}(h:Below n W W')(d:W.heap.size<=n):KeepO FX W W':=λb o c _ _=>(h.block b (by have:=(Array.getElem?_eq_some_iff.1 c).1;omega)).trans c
theorem GP{w V:ϛ}{b:Buf}{x:BX}(h:bufAt w b x)(r:Ϟ w V)(B:Nat)(d:Nat->Obj->Prop)(h0:Δ V B 0 (.int .i64 b.lim))(h1:Δ V B 1 (hdV x.m.1))(j:Δ V B 2 (.slice x.ra x.rs.length x.rc))
 (q:names d V B) (g:∀b,b<w.heap.size->names d V b)
 (k:∀b c f,V.heap.size<=b->d b (.cells c 29 f)) (m:∀b c f,V.heap.size<=b->d b (.cells c 110 f)):
 Z0 Tryz.prog 161 #[μ B] ((ems (x.m::x.rs)).map λe=>#[e.val]) (KeepO d) V:=
 ZL B b.lim x.ra x.rc x.m x.rs d V (AcW (Ag h r) h0 h1 j) q (λa ha t=>g _ (Acx h ha t)) (λp s a h0 ha=>by
  obtain⟨u,o,e,y,_⟩:=h.ems p s 0 h0;rw[ha]at e;cases e;exact g _ (bLt _ _ y)) k m
theorem Cl{B:Nat}(h:Ϟ W W'):KeepsFrom B W W':=⟨h.size,λk o _ c _=>(h.block k (Array.getElem?_eq_some_iff.1 c).1).trans c⟩
theorem Da{o D:Nat}{v:Value}{x:Obj}(h:Δ W b o v)(d:W.heap[D]? =some x)(f:x.isCells=false)(c:Obj):Δ (W.putObj D c) b o v:=
 cell_kept h (grownBy_putObj' W D c) (λr e=>by cases e;exact⟨x,d,f⟩)
theorem AbX(b:Buf)(x:BX)(p:Plc)(w:ϛ)(h:bufAt w b x):
 η 265 #[AF b x,Ci p] w (θ w (.bool (hasB (Aa b) p))):=by
 have HB:=hV0 h;have HE:=Ek h;have aa:ϝ (ERs w (ems (x.m::x.rs)) (Aa b)):=HE;obtain⟨L,hL⟩:=nM (Aa b);rw[hL]at aa⊢;clear hL h HE;obtain⟨R,hR⟩:=nM (hasB L p);have ah:=hV0 hR;rw[hR];clear hR;obtain⟨q,s,⟨⟨d,f,g⟩,ml⟩,rs⟩:=x;obtain⟨m,au,av⟩:=b;obtain⟨v,A,C⟩:=p;unfold AF hdV Ci;dsimp only at aa⊢;obtain⟨n,hn⟩:∃n,rs.length=n:=⟨_,rfl⟩;have HN:=hV0 hn;rw[hn];clear hn;refine(callsIn_wide (n:=0)).1 ?_;refine callsIn_of_wp_marks func265 rfl trivial ?_ rfl;simp only[ntmps265,size_toArray,length_cons,length_nil,Nat.reduceAdd,Nat.reduceSub,Array.replicate_succ,Array.replicate_zero,push_toArray,append_toArray,nil_append,cons_append]
 gi_wp2_with (refine⟨trivial,rfl,?_⟩;gi_at_call 113;refine(callsIn_wide.2 (II _ _ _ rfl rfl rfl _)).mono ?_;rintro e w' ⟨rfl,rfl⟩)
 have V0:Δ (ξ (ξ (ξ (ξ w (ν m d f g q n s) 29) #[.string v,.int .i64 A,.int .i64 C] 232) #[ϋ] 4) (ν m d f g q n s) 29) (w+1) 0 (.string v):=ϣ;have V1:Δ (ξ (ξ (ξ (ξ w (ν m d f g q n s) 29) #[.string v,.int .i64 A,.int .i64 C] 232) #[ϋ] 4) (ν m d f g q n s) 29) (w+1) 1 (.int .i64 A):=ϣ;have V2:Δ (ξ (ξ (ξ (ξ w (ν m d f g q n s) 29) #[.string v,.int .i64 A,.int .i64 C] 232) #[ϋ] 4) (ν m d f g q n s) 29) (w+1) 2 (.int .i64 C):=ϣ;have V3:Δ (ξ (ξ (ξ (ξ w (ν m d f g q n s) 29) #[.string v,.int .i64 A,.int .i64 C] 232) #[ϋ] 4) (ν m d f g q n s) 29) (w+1+1) 0 (.bool false):=ϣ;have V4:Ξ (ξ (ξ (ξ (ξ w (ν m d f g q n s) 29) #[.string v,.int .i64 A,.int .i64 C] 232) #[ϋ] 4) (ν m d f g q n s) 29) (w+1+1) 0:=ϣ;have V5:Δ (ξ (ξ (ξ (ξ w (ν m d f g q n s) 29) #[.string v,.int .i64 A,.int .i64 C] 232) #[ϋ] 4) (ν m d f g q n s) 29) (w+1+1+1) 0 (.int .i64 m):=ϣ;have V6:Δ (ξ (ξ (ξ (ξ w (ν m d f g q n s) 29) #[.string v,.int .i64 A,.int .i64 C] 232) #[ϋ] 4) (ν m d f g q n s) 29) (w+1+1+1) 1 (.slice d f g):=ϣ;have V7:Δ (ξ (ξ (ξ (ξ w (ν m d f g q n s) 29) #[.string v,.int .i64 A,.int .i64 C] 232) #[ϋ] 4) (ν m d f g q n s) 29) (w+1+1+1) 2 (.slice q n s):=ϣ;have V8:Ϟ w (ξ (ξ (ξ (ξ w (ν m d f g q n s) 29) #[.string v,.int .i64 A,.int .i64 C] 232) #[ϋ] 4) (ν m d f g q n s) 29):=by
  repeat (first|exact bR|(refine Below.alloc ?_ Ϧ _))
 have V9:((((w.alloc (.cells (ν m d f g q n s) 29)).alloc (.cells #[.string v,.int .i64 A,.int .i64 C] 232)).alloc (.cells #[ϋ] 4)).alloc (.cells (ν m d f g q n s) 29)).heap.size=w.heap.size+1+1+1+1:=ϡ;generalize ((((w.alloc (.cells (ν m d f g q n s) 29)).alloc (.cells #[.string v,.int .i64 A,.int .i64 C] 232)).alloc (.cells #[ϋ] 4)).alloc (.cells (ν m d f g q n s) 29))=V at *;have af:=GP HB.o V8 (w.heap.size+1+1+1) FX V5 V6 (by rw[HN.o];exact V7) Am (λ_ _=>Am) (λ_ _ _ _=>trivial) (λ_ _ _ _=>trivial);dsimp only at af;obtain⟨E,N⟩:=nM (ems ((((d,f,g):Hdr),ml)::rs));rw[N]at af aa;clear N;refine D6 (gf:=161) (lb:=#[.pointer (some ⟨w+1+1+1,0,none⟩)]) rfl (enters_of func161 Ϣ rfl) af bR (λx U=>by obtain⟨p,_,rfl⟩:=mem_map.1 U;rfl) (λh k=>KeepO.trans h k) (λW l o o' _ h ho=>KeepO.put W l o o' h ho)
  (λi X=>(∀j,j<i->Az (L.getD j ϰ)≠(v,A,C))/\KeepO FX V X/\Ξ X (w+1+1) 0/\Ϟ w X) (λc X=>c= .ret/\true=R/\Δ X (w+1+1) 0 (.bool true)/\Ϟ w X)
  (λi X X' aj H F G=>⟨H.1,H.2.1.grown F (λr e=>(G r e).2),(frozen_kept (H.2.1.cell Am V3) F (λr e=>(G r e).2)).trans H.2.2.1,Di H.2.2.2 nR ϟ F G⟩)
  (λc X X' aj H F G=>⟨H.1,H.2.1,cell_kept H.2.2.1 F (λr e=>(G r e).2),Di H.2.2.2 nR ϟ F G⟩)
  ⟨λj O=>absurd O (Nat.not_lt_zero j),KeepO.refl _ _,V4,V8⟩
  (λi a' X=> ∃B,a'={tmps:=#[.agg #[.int .i64 m,.slice d f g,.slice q n s],.agg #[.string v,.int .i64 A,.int .i64 C],.pointer (some ⟨w,0,none⟩),.pointer (some ⟨w+1,0,none⟩),.pointer (some ⟨w+1+1,0,none⟩),.pointer (some ⟨B,0,none⟩),.agg #[.int .i64 m,.slice d f g,.slice q n s],.func (.func 161) #[] #[.pointer (some ⟨w+1+1+1,0,none⟩)],(E.getD i ϰ).val,undef,undef,undef,undef],defers:=[]}/\Ϗ X B (.string (E.getD i ϰ).key) (.int .i64 (E.getD i ϰ).time) (.int .i64 (E.getD i ϰ).seq) (hdV (E.getD i ϰ).row) (.bool (E.getD i ϰ).met))
  (λi a' u X X' aj H F G=>by
   obtain⟨B,h1,h2,h3,h4,h5,h6⟩:=H;exact⟨B,h1,cell_kept h2 F (λr e=>(G r e).2),cell_kept h3 F (λr e=>(G r e).2),cell_kept h4 F (λr e=>(G r e).2),cell_kept h5 F (λr e=>(G r e).2),cell_kept h6 F (λr e=>(G r e).2)⟩) ?assign ?body ?done ?stop
 case assign=>
  intro l' k x X K U hi Z;obtain⟨hk,ai⟩:=List.getElem?_eq_some_iff.1 U;rw[lMp]at hk;rw[getElem_map]at ai;subst ai;have hd:E.getD k ϰ=E[k]:=by rw[gDe,gEe hk];rfl
  have T:=Z;rw[hd]at T;clear Z hd U;obtain⟨⟨ek,et,es,⟨r1,r2,r3⟩,em⟩,hz⟩:∃z,E[k]=z:=⟨_,rfl⟩;rw[hz]at T⊢;unfold EM.val hdV at T⊢;dsimp only at T⊢;obtain⟨j1,I,j3,J⟩:=hi
  gi_wp2
  have lX:w.heap.size+1+1<X.heap.size:=bLt _ _ (I.cell Am V3);exact T _ _ ((KeepsOthers.alloc _ _).from _) (KeepO.alloc _ _) ⟨j1,I.trans (KeepO.alloc _ _),ϣ,J.alloc J.size _⟩ ⟨X.heap.size,rfl,ϣ,ϣ,ϣ,ϣ,ϣ⟩
 case body=>
  intro l' i x a' X U ao ar an ae;obtain⟨j1,I,j3,J⟩:=an;obtain⟨B,ae,b0,b1,b2,b3,b4⟩:=ae;subst ae;obtain⟨hi,_⟩:=List.getElem?_eq_some_iff.1 U;rw[lMp]at hi;have am:=aa.o.1;have ab:=aa.o.2 i ϟ;have KP:ϝ (∀w1,CT 186 #[(E.getD i ϰ).val] w1 (θ w1 (.agg #[.string (E.getD i ϰ).key,.int .i64 (E.getD i ϰ).time,.int .i64 (E.getD i ϰ).seq]))):=λw1=>Im _ w1;have ac:Az (L.getD i ϰ)=((E.getD i ϰ).key,(E.getD i ϰ).time,(E.getD i ϰ).seq):=by unfold Az;rw[ab.key,ab.time,ab.seq]
  have ak:ϝ (L.getD i ϰ∈L):=by show _∈_;rw[gDe,gEe ϟ];simp
  obtain⟨⟨ek,et,es,⟨r1,r2,r3⟩,em⟩,hz⟩:∃z,E.getD i ϰ=z:=⟨_,rfl⟩;rw[hz]at KP b0 b1 b2 b3 b4 ac⊢;unfold EM.val hdV at KP;unfold hdV at b3;dsimp only at KP b0 b1 b2 b3 b4 ac;have ag:=hV0 ac;have c0:=I.cell Am V0;have c1:=I.cell Am V1;have c2:=I.cell Am V2;have c3:=I.cell Am V3;have lX:w.heap.size+1+1<X.heap.size:=bLt _ _ c3;have ap:Tryz.prog.follows .mixedOrders=true:=Ϣ;clear hz ac ab am U;by_cases N:(ek,et,es)=(v,A,C)
  ·have HE:ϝ (true=R):=by
    show _=_;rw[<-ah.o];exact(any_eq_true.2 ⟨_,ak.o,by rw[ag.o];simpa using N⟩).symm
   injection N with Y al
   injection al with e2 e3
   subst Y e2 e3
   gi_wp2
   gi_region_with_o (refine⟨trivial,rfl,?_⟩;gi_at_call 186;refine(CallsIn.inRound l' (callsIn_wide.2 (KP.o _))).mono ?_;rintro e w2 ⟨rfl,t⟩;have k0:=cLz t c0;have k1:=cLz t c1;have k2:=cLz t c2;have k3:=cLz t c3;have kf:Ξ w2 (w+1+1) 0:=(by rw[t.frozen (p:=⟨w+1+1,0,none⟩) lX];exact j3);have y:Ϟ X w2:=bR.drew.trans t)
   all_goals
    gi_wp2
    exact⟨(Cl y).trans ((KeepsOthers.setCell _ _ _).from _),rfl,HE.o,World.cell?_setCell_same _ _ _ k3,(bT J y).setCell ϥ _⟩
  ·have aq:((ek.toList==v.toList)&&((et==A)&&(es==C)))=false:=by
    rw[bytes_beq];by_cases Y:ek=v
    ·by_cases e2:et=A
     ·have e3:es≠C:=λe3=>N (by rw[Y,e2,e3]);simp[Y,e2,e3]
     ·simp[Y,e2]
    ·simp[Y]
   have ad:ϝ (Az (L.getD i ϰ)≠(v,A,C)):=by show _≠_;rw[ag.o];exact N
   by_cases t1:ek.toList=v.toList
   ·by_cases t2:et=A
    ·have t3:(es==C)=false:=by
      rw[beq_eq_false_iff_ne];intro e3;have Y:ek=v:=by have:=bytes_beq ek v;rw[t1]at this;simpa using this.symm
      exact N (by rw[Y,t2,e3])
     subst t2
     gi_wp2
     gi_region_with_o (refine⟨trivial,rfl,?_⟩;gi_at_call 186;refine(CallsIn.inRound l' (callsIn_wide.2 (KP.o _))).mono ?_;rintro e w2 ⟨rfl,t⟩;have k0:=cLz t c0;have k1:=cLz t c1;have k2:=cLz t c2;have y:Ϟ X w2:=bR.drew.trans t)
     all_goals
      gi_wp2
      exact⟨Cl y,CI y nR,λj O=>by
       rcases Nat.lt_succ_iff_lt_or_eq.1 O with h|h
       ·exact j1 j h
       ·rw[h];exact ad.o,I.trans (CI y nR),by rw[y.frozen (p:=⟨w+1+1,0,none⟩) lX];exact j3,bT J y⟩
    ·have aw:(et==A)=false:=by simpa using t2
     gi_wp2
     gi_region_with_o (refine⟨trivial,rfl,?_⟩;gi_at_call 186;refine(CallsIn.inRound l' (callsIn_wide.2 (KP.o _))).mono ?_;rintro e w2 ⟨rfl,t⟩;have k0:=cLz t c0;have k1:=cLz t c1;have k2:=cLz t c2;have y:Ϟ X w2:=bR.drew.trans t)
     all_goals
      gi_wp2
      exact⟨Cl y,CI y nR,λj O=>by
       rcases Nat.lt_succ_iff_lt_or_eq.1 O with h|h
       ·exact j1 j h
       ·rw[h];exact ad.o,I.trans (CI y nR),by rw[y.frozen (p:=⟨w+1+1,0,none⟩) lX];exact j3,bT J y⟩
   ·skip
    gi_wp2
    gi_region_with_o (refine⟨trivial,rfl,?_⟩;gi_at_call 186;refine(CallsIn.inRound l' (callsIn_wide.2 (KP.o _))).mono ?_;rintro e w2 ⟨rfl,t⟩;have k0:=cLz t c0;have k1:=cLz t c1;have k2:=cLz t c2;have y:Ϟ X w2:=bR.drew.trans t)
    all_goals
     gi_wp2
     exact⟨Cl y,CI y nR,λj O=>by
      rcases Nat.lt_succ_iff_lt_or_eq.1 O with h|h
      ·exact j1 j h
      ·rw[h];exact ad.o,I.trans (CI y nR),by rw[y.frozen (p:=⟨w+1+1,0,none⟩) lX];exact j3,bT J y⟩
 case done=>
  rintro D X hD ⟨j1,I,j3,J⟩ Z;have c3:=I.cell Am V3;have HE:ϝ (false=R):=by
   show _=_;rw[<-ah.o]
   symm
   rw[lMp]at j1;refine any_eq_false.2 (λx U=>?_);obtain⟨j,O,rfl⟩:=getElem_of_mem U;have:=j1 j (by rw[aa.o.1];exact O);rw[gDe,gEe O]at this;simpa using this
  gi_wp2
  have T:(X.setCell ⟨w+1+1,0,none⟩ (.bool false)).heap[D]? =some (.deferred (some [])):=(heap_setCell_other _ _ _ _ ϥ).trans Z;refine⟨ϡ,.inl ⟨_,_,rfl,run_takeDeferred T,?_⟩⟩;have y3:=Da (World.cell?_setCell_same _ _ (.bool false) c3) T rfl (.deferred none);exact⟨.bool false,(by simp[results,results265,go_sem,y3]),Ab HE.o,CY (J.setCell ϥ _) ϟ T _⟩
 case stop=>
  rintro D c X hD ⟨rfl,N,c3,J⟩ Z
  gi_wp2
  refine⟨ϡ,.inl ⟨_,_,rfl,run_takeDeferred Z,?_⟩⟩;have y3:=Da c3 Z rfl (.deferred none);exact⟨.bool true,(by simp[results,results265,go_sem,y3]),Ab N,CY J ϟ Z _⟩
end bf
end Go.Proofs.YtdohnkkbkfhphaaGreat
