import Derived.Test.YtdohnkkbkfhphaaGreatPw52
set_option linter.all false
set_option maxHeartbeats 8000000
set_option maxRecDepth 100000
open Go.ChangeShapes Go.WideShapes Go.ChangeAt Go.RowKit List
namespace Go.Proofs.YtdohnkkbkfhphaaGreat
open Go.Proofs.Tryz
namespace jn
open vl bf
variable {w : ϛ}
theorem TG.chgs{base:Nat}{v:Value}{L:List CO}(h:TG w base v L):v=vS (Mg v) L.length (Oz v)/\ch.BZ w (Mg v) (L.map CO.chg):=by
 have f:=h.own;refine⟨J6 f,λi t=>?_⟩;have a:i<L.length:=by simpa using t
 rcases f.2 with⟨k,y⟩|⟨g,c,x,k,_⟩
 ·omega
 ·have o:=World.ownsRow.cells f (g:=g) (by rw[k];rfl);obtain⟨m,n⟩:=ch.S2 (L.map CO.pair) i (by simpa using a);obtain⟨q,d⟩:=P9 L i a;rw[q]at m n;have l:=o _ _ m;have b:=o _ _ n;rw[ch.Ch,Nat.zero_add]at l b;obtain⟨u,j⟩:=h.rows (L.getD i default) (by rw[gDe,gEe a];exact getElem_mem a);have r:=J6 j;rw[r]at j b;refine⟨g,0,Mg (L.getD i default).rv,Oz (L.getD i default).rv,by rw[k];rfl,?_,?_,?_⟩
  ·rw[d,Nat.zero_add];exact l
  ·rw[d,Nat.zero_add];exact b
  ·rw[d];exact vl.E6 j
theorem evs5{b:Nat}{d f g h:Ϝ}(j:Δ w b 0 (vI 1))(k:Δ w b 1 (vI 1))(z:Δ w b 2 (vI 1))(A:Δ w b 3 (vS d 2 2))
 (c4:Δ w b 4 (vI 1)) (B:Δ w b 5 (vI 2)) (C:Δ w b 6 (vI 2)) (D:Δ w b 7 (vS f 2 2))
 (E:Δ w b 8 (vI 2)) (F:Δ w b 9 (vI 1)) (l:Δ w b 10 (vI 4)) (m:Δ w b 11 (vS none 0 0))
 (n:Δ w b 12 (vI 1)) (o:Δ w b 13 (vI 1)) (q:Δ w b 14 (vI 4)) (r:Δ w b 15 (vS g 2 2))
 (t:Δ w b 16 (vI 1)) (u:Δ w b 17 (vI 1)) (x:Δ w b 18 (vI 5)) (y:Δ w b 19 (vS h 2 2))
 (h1:vl.rowAt w d (rw2 7 1)) (G:vl.rowAt w f (rw2 7 2)) (H:vl.rowAt w g (rw2 7 3)) (I:vl.rowAt w h (rw2 7 4)):Gi w (τ b) J9 [(d,2),(f,2),(none,0),(g,2),(h,2)]:=by
 intro i a
 match i,a with
 |0,_=>exact⟨b,0,rfl,j,k,z,A,h1,EN Ϡ Ϡ,Ϡ⟩
 |1,_=>exact⟨b,0,rfl,c4,B,C,D,G,EN Ϡ Ϡ,Ϡ⟩
 |2,_=>exact⟨b,0,rfl,E,F,l,m,λi a=>absurd a (Nat.not_lt_zero i),λc J=>absurd J not_mem_nil,Ϡ⟩
 |3,_=>exact⟨b,0,rfl,n,o,q,r,H,EN Ϡ Ϡ,Ϡ⟩
 |4,_=>exact⟨b,0,rfl,t,u,x,y,I,EN Ϡ Ϡ,Ϡ⟩
theorem Y8(w:ϛ):η 36 #[] w λe m=>(∃b G,e= .returned (vS (τ b) 5 5)/\Gi m (τ b) J9 G)/\Ϟ w m:=by
 go_enter func36,ntmps36;go_wp2_with fail;refine(pl.GY _ _ _).mono ?_;rintro e E ⟨⟨A,rfl,i⟩,x⟩;have o:=hV0 i;clear i;go_wp2_with fail;refine(pl.GY _ _ _).mono ?_;rintro e F ⟨⟨B,rfl,j⟩,y⟩;have q:=hV0 j;clear j;go_wp2_with fail;refine(pl.GY _ _ _).mono ?_;rintro e H ⟨⟨C,rfl,k⟩,z⟩;have r:=hV0 k;clear k;go_wp2_with fail;refine(pl.GY _ _ _).mono ?_;rintro e c ⟨⟨D,rfl,l⟩,h⟩;have t:=hV0 l;clear l;have g:Ϟ F c:=bT z h;have f:Ϟ E c:=bT y g;have u:Ϟ w c:=bT x f;go_wp2;generalize a:(World.alloc c _)=W;have d:Ϟ c W:=by rw[<-a];exact Ϫ
 have n:ϝ (Gi W (τ c) J9 [(A,2),(B,2),(none,0),(C,2),(D,2)]):=evs5 (by subst a;go_simp) (by subst a;go_simp) (by subst a;go_simp) (by subst a;go_simp) (by subst a;go_simp) (by subst a;go_simp) (by subst a;go_simp) (by subst a;go_simp) (by subst a;go_simp) (by subst a;go_simp) (by subst a;go_simp) (by subst a;go_simp) (by subst a;go_simp) (by subst a;go_simp) (by subst a;go_simp) (by subst a;go_simp) (by subst a;go_simp) (by subst a;go_simp) (by subst a;go_simp) (by subst a;go_simp)
  (vl.Ac o.o (bT f d)) (vl.Ac q.o (bT g d)) (vl.Ac r.o (bT h d)) (vl.Ac t.o d)
 clear a;go_ret;exact⟨⟨_,_,rfl,n.o⟩,bT u d⟩
theorem Va(x:pl.PA)(b:Nat)(n:List RX)(w:ϛ)(D:pl.planAt w pl.Ef x)(a:Gi w (τ b) J9 n):η 19 #[pl.Ak pl.Ef x,vS (τ b) 5 5] w λe h=>(∃s y m G l F,e= .returned (.tuple #[joinV s y,vS m 4 G,vS (τ l) 1 F,ω])/\s.lm=4/\s.seq=3/\ch.BZ h m Em/\Δ h l 0 (vI 3))/\Ϟ w h:=by
 refine(Tf pl.Ef x J9 n _ 5 w pl.WT D a Ϡ).mono ?_;rintro e h ⟨⟨y,t,L,J,rfl,d,k,E,f⟩,B⟩;obtain⟨s,r,z,I,A⟩:=AaC Vf;rw[r]at d k f⊢;dsimp only at d k f⊢;refine⟨?_,B⟩;obtain⟨i,j⟩:=E.chgs;have q:L.length=4:=by
  have:=congrArg List.length d;simpa using this
 rw[d]at j;rw[q]at i;rcases f.2 with⟨a,u⟩|⟨g,c,H,a,_⟩
 ·exact absurd u ϡ
 ·have C:=World.ownsRow.cells f (g:=g) (by rw[a];rfl);have o:=C 0 (vI 3) rfl;rw[i,a];exact⟨s,y,Mg t,Oz t,g,c,rfl,z,A,j,o⟩
theorem QR(n:Nat):Cj (bt.AE n):=λc a=>by
 rw[eq_of_mem_replicate a];exact⟨Ϡ,Ϡ⟩
theorem LA{a b:List Cel}(ha:Cj a)(d:Cj b):Cj (a++b):=λc f=>(mem_append.1 f).elim (ha c) (d c)
theorem Y9:ch.CU Em:=by
 intro c a;simp only[Em,mem_cons,not_mem_nil,or_false]at a;rcases a with rfl|rfl|rfl|rfl
 ·exact⟨LA (EN Ϡ Ϡ) (QR 2),Ϡ,Ϡ⟩
 ·exact⟨LA (EN Ϡ Ϡ) (QR 2),Ϡ,Ϡ⟩
 ·exact⟨LA (EN Ϡ Ϡ) (EN Ϡ Ϡ),Ϡ,Ϡ⟩
 ·exact⟨LA (EN Ϡ Ϡ) (EN Ϡ Ϡ),Ϡ,Ϡ⟩
theorem Vb(f:Ϝ)(j:Nat)(w:ϛ)(h:ch.BZ w f Em):η 37 #[ψ,vS f 4 j] w λe l=>(∃b d,e= .returned (.tuple #[vS b 2 d,ω,ω]))/\Ϟ w l:=by
 refine(ch.Aaj none f 0 j [] Em w (λi r=>absurd r (Nat.not_lt_zero i)) (λc q=>absurd q not_mem_nil) Ϡ h Y9 Ϡ).mono ?_;rintro e l ⟨t,o⟩;refine⟨?_,o⟩;have u:ch.BE []=0:=Ϣ;rcases t with⟨a,_⟩|⟨_,a,_⟩|⟨_,_,k,a,_,n,_⟩|⟨_,_,_,out,b,d,m,_,_,g,_⟩
 ·exact absurd u a
 ·exact absurd Vg a
 ·exact absurd (Vh k a) n
 ·have:=congrArg List.length m;rw[show Em.length=4 from rfl,AaD]at this;have:out.length=2:=by simpa[ch.Bi]using this
  rw[this]at g;exact⟨b,d,g⟩
theorem PG(w:ϛ):η 12 #[] w (θ w (.bool true)):=by
 go_enter func12,ntmps12;go_wp2_with fail;refine(pl.T7 _).mono ?_;rintro e X ⟨⟨x,rfl,L,_⟩,G⟩;have t:=hV0 L;obtain⟨R,m⟩:=nM (pl.Ak pl.Ef x);have u:=hV0 m;rw[m];clear L m;go_wp2_with fail;refine(Y8 _).mono ?_;rintro e i ⟨⟨b,T,rfl,N⟩,l⟩;have A:ϝ (CT 19 #[R,vS (τ b) 5 5] i λe f=>(∃s y d h n P,e= .returned (.tuple #[joinV s y,vS d 4 h,vS (τ n) 1 P,ω])/\s.lm=4/\s.seq=3/\ch.BZ f d Em/\Δ f n 0 (vI 3))/\Ϟ i f):=by
  have:=Va x b T i (pl.Aj t.o l) N;rw[u.o]at this;exact this
 have C:Ϟ w i:=bT G l;clear N t u G l;go_wp2_with fail;refine A.o.mono ?_;rintro e j ⟨⟨s,y,d,h,n,P,rfl,J,M,I,K⟩,H⟩;have D:Ϟ w j:=bT C H;have q:=hV0 I;have r:ϝ (s.lm=4/\s.seq=3):=⟨J,M⟩;clear A I H C J M;rw[A0];go_upto_region 2 with fail;generalize k:(World.alloc j _)=a;have g:Ϟ j a:=by rw[<-k];exact Ϫ
 have o:ϝ (AK a j s y):=by
  subst k;exact AL ..
 clear k;have E:Ϟ w a:=bT D g;have O:=cLz g K;obtain⟨_,_,_,_,_,_,u6,_,u8⟩:=o.o;rw[r.o.1]at u6;rw[r.o.2]at u8;have z:ϝ (CT 37 #[ψ,vS d 4 h] a λe f=>(∃B F,e= .returned (.tuple #[vS B 2 F,ω,ω]))/\Ϟ a f):=Vb d h a (ch.Ct q.o g);clear K q g D o;go_wp2_with fail;refine z.o.mono ?_;rintro e S ⟨⟨B,F,rfl⟩,c⟩;have Q:Ϟ w S:=bT E c;have U:=cLz c O;have V:=cLz c u6;have W:=cLz c u8;clear z O u6 u8 c E;go_wp2;go_ret;exact⟨rfl,Q⟩
end jn
namespace jn
open vl bf
variable {p : pl.Pln} {side : Int} {s : Jn} {e : Ent} {v : Ev}
def sm(r:List Cel):Prop:=Cj r/\r.length<=400
theorem My(h0:pl.Al p=0):sm (bt.AE (pl.As p side).length):=by
 refine⟨QR _,?_⟩;have:=pl.DI (pl.Bj h0).2.2.1;unfold bt.AE pl.As;rw[length_replicate];split<;>omega
theorem QS(h:goodJ p s)(b:e∈Aa s.L++Aa s.R):sm e.row:=by
 refine⟨(h.wf e b).1.row,?_⟩;rcases mem_append.1 b with a|a
 ·exact(Bp (C8 h (side:=1) rfl a)).2
 ·exact(Bp (C8 h (side:=2) rfl a)).2
theorem FR{k:Int}{a b:List Cel}(i:0<=k/\k<=4)(ha:sm a)(d:sm b):∀c∈[(⟨k,AJ side a b⟩:ch.Chg)],Cj c.r/\c.r.length<=χ/\(-9223372036854775808<=c.k/\c.k<=9223372036854775807):=λc f=>by
 rw[mem_singleton.1 f];have g:=ha.2;have h:=d.2;unfold AJ;split
 ·exact⟨LA d.1 ha.1,by show(b++a).length<=_;rw[lAp];omega,by show _<=k;omega,by show k<=_;omega⟩
 ·exact⟨LA ha.1 d.1,by show(a++b).length<=_;rw[lAp];omega,by show _<=k;omega,by show k<=_;omega⟩
theorem Vd{a b:ch.Chg}(ha:ch.CU [a])(d:ch.CU [b]):ch.CU [a,b]:=λc f=>by
 rcases mem_cons.1 f with h|h
 ·exact ha c (by rw[h];exact mem_singleton.2 rfl)
 ·exact d c h
theorem Gp:ch.CU []:=λc a=>absurd a not_mem_nil
theorem Wq{l:List Ent}{f:Ent->List ch.Chg}(h:∀e∈l,ch.CU (f e)):ch.CU (l.flatMap f):=λc a=>by
 obtain⟨e,b,a⟩:=mem_flatMap.1 a;exact h e b c a
theorem Wr{a b:List ch.Chg}(ha:ch.CU a)(d:ch.CU b):ch.CU (a++b):=λc f=>(mem_append.1 f).elim (ha c) (d c)
theorem Adm(h:e∈Aa (bufOf s side)):e∈Aa s.L++Aa s.R:=by
 unfold bufOf at h;split at h
 ·exact mem_append_right _ h
 ·exact mem_append_left _ h
theorem Mz{b:Buf}{a:ByteArray}{fr c:Int}(h:e∈Cx b a fr c):e∈Aa b:=by
 unfold Cx at h;exact(mem_filter.1 ((A9 _).mem_iff.1 h)).1
theorem Aci(h0:pl.Al p=0)(h:goodJ p s)(f:comeJ p s v)(j:wfV v):ch.CU (FH p s v):=by
 have d:sm v.row:=⟨j.row,(Bp f.err).2⟩;unfold FH;split
 ·split
  ·unfold Gk;split
   ·rename_i e a;have c:=mem_of_getLast? a;unfold Cc at c;split at c
    ·exact FR Ϡ d (QS h (mem_append_right _ (Mz c)))
    ·cases c
   ·split
    ·exact FR Ϡ d (My h0)
    ·exact Gp
  ·unfold DU;refine Wq λe a=>?_;unfold Cq at a;have c:=(mem_filter.1 a).1;split at c
   ·have b:=QS h (mem_append_left _ (Mz c));split
    ·rename_i o i;have g:=Mz (mem_filter.1 (mem_of_getLast? i)).1;exact Vd (FR Ϡ b (QS h (mem_append_right _ g))) (FR Ϡ d b)
    ·split
     ·exact Vd (FR Ϡ b (My h0)) (FR Ϡ d b)
     ·exact FR Ϡ d b
   ·cases c
 ·unfold Ck;refine Wr (Wq λe a=>?_) ?_
  ·unfold partners at a;split at a
   ·have b:=QS h (Adm (Mz a));split
    ·exact Vd (FR Ϡ b (My h0)) (FR Ϡ d b)
    ·exact FR Ϡ d b
   ·cases a
  ·split
   ·exact FR Ϡ d (My h0)
   ·exact Gp
theorem PH(h:goodJ p s):Tl s:=by
 have c:∀{b:Buf},okB b->(∀y∈Aa b,y.row.length<=χ)->((∀l∈partsB b,l.length<=χ)/\∀y∈Aa b,y.row.length<=χ):=λok a=>⟨λl d=>by have:=ok.small.1 l d;omega,a⟩;exact⟨c h.ok.L λy a=>(h.wf y (mem_append_left _ a)).1.len,c h.ok.R λy a=>(h.wf y (mem_append_right _ a)).1.len⟩
theorem Ja:Tl j0:=⟨⟨λl a=>by rw[mem_singleton.1 a];exact Nat.zero_le _,λy b=>absurd b not_mem_nil⟩,⟨λl a=>by rw[mem_singleton.1 a];exact Nat.zero_le _,λy b=>absurd b not_mem_nil⟩⟩
theorem PL(g:∀y∈Aa s.L++Aa s.R,wfE y/\wfP (Az y))(f:wfV v):Tl (stepJ p s v).2.1/\ch.CU (stepJ p s v).2.2:=by
 by_cases a:(stepJ p s v).1=0
 ·refine⟨PH (good_step g f a),?_⟩;unfold stepJ at a⊢;split at a
  ·rename_i k;exact absurd a k
  ·rename_i b;split at a
   ·rename_i k;exact absurd a k
   ·rename_i c;rw[if_neg b,if_neg c];split
    ·exact Gp
    ·rename_i h;have d:=Cd (Decidable.not_not.1 b);rw[Ku];exact Aci d.1 ⟨d.2,g⟩ (Mx (Decidable.not_not.1 c) h) f
 ·unfold stepJ at a⊢;split
  ·exact⟨Ja,Gp⟩
  ·rename_i b;rw[if_neg b]at a;split
   ·exact⟨Ja,Gp⟩
   ·rename_i c;rw[if_neg c]at a;split at a<;>exact absurd rfl a
theorem LC{p:pl.Pln}:∀(l:List Ev) (s:Jn) (i:Nat),goodJ p s->(∀v∈l,wfV v)->ch.CU (C6 p s l i).2.1/\(C6 p s l i).2.1.length<=10000 * l.length/\(C6 p s l i).2.2.length<=l.length
 |[],s,i,h,_=>⟨Gp,Nat.zero_le _,Nat.zero_le _⟩
 |v::l,s,i,h,hv=>by
  have b:∀u∈l,wfV u:=λu j=>hv u (mem_cons_of_mem _ j);rw[C6,length_cons];split
  ·obtain⟨a,d,f⟩:=LC l s (i+1) h b;exact⟨a,by show(C6 p s l (i+1)).2.1.length<=_;omega,by show((i:Int)::(C6 p s l (i+1)).2.2).length<=_;rw[length_cons];omega⟩
  ·rename_i c;have g:=PL (p:=p) (s:=s) h.wf (hv v (mem_cons_self ..));obtain⟨a,d,f⟩:=LC l _ (i+1) (good_step h.wf (hv v (mem_cons_self ..)) (by simpa using c)) b;have k:=Kh p s v;exact⟨Wr g.2 a,by show((stepJ p s v).2.2++(C6 p (stepJ p s v).2.1 l (i+1)).2.1).length<=_;rw[lAp];omega,by show(C6 p (stepJ p s v).2.1 l (i+1)).2.2.length<=_;omega⟩
theorem Ve{l:List Ev}(b:∀v∈l,wfV v):Tl (AZ p l).2.1/\ch.CU (AZ p l).2.2.1/\(AZ p l).2.2.1.length<=1200000/\(AZ p l).2.2.2.length<=1000000:=by
 unfold AZ;split
 ·exact⟨Ja,Gp,Nat.zero_le _,Nat.zero_le _⟩
 ·rename_i d;have a:=good_start (Decidable.not_not.1 d);unfold Fp;split
  ·exact⟨Ja,Gp,Nat.zero_le _,Nat.zero_le _⟩
  ·rename_i h;obtain⟨c,f,g⟩:=LC l (Aw p) 0 a b;exact⟨PH (Jc l _ 0 a b),c,by show(C6 p (Aw p) l 0).2.1.length<=_;omega,by show(C6 p (Aw p) l 0).2.2.length<=_;omega⟩
end jn
end Go.Proofs.YtdohnkkbkfhphaaGreat
