import Derived.Test.YtfkihidbnfkbaaaGreatDoorPb7
set_option linter.all false
set_option maxHeartbeats 8000000
set_option maxRecDepth 100000
open Go.ChangeShapes Go.WideShapes Go.ChangeAt Go.RowKit Go.Maps Go.WideMaps List
open Inhabited renaming default->ϰ
namespace Go.Proofs.YtfkihidbnfkbaaaGreatDoor
open Go.Proofs.Tryz
namespace ch
open vl
variable {r : List Cel} {a b n : Int} {B base cap nn : Nat} {w w' : ϙ} {out v : List Cnt} {l : List Chg} {ad : Ϛ} {kv : KV} {k : List UInt8}
theorem AcV:(Tryz.prog.info? 9).map (λi=>(i.zero,i.size,i.bytes))=some (some (.string ⟨#[]⟩),1,16):=Ϡ
def Uf(c:Chg):Value:=.string ⟨(encR c.r).toArray⟩
theorem Acy(h:rowOk r):(.string (EY r):Value)= .string ⟨(encR r).toArray⟩:=by
 rw[<-Jo h]
theorem Ug{g:Array Oper}{rest:List Oper}{o:Oper}{a:Act}{Q:Exit->Act->World->Prop}(p:o.guard=none)(s x:Operand)
 (t:o.op= .call {callee:=.builtin .append,args:=#[s,x],argTypes:=#[226,226]}) (base:Nat) (v:Value) (n:Nat) (e:List Value) (z:a.eval s=v) (c:ϙ)
 (y:c.ownsRow base 9 1 v n e) (X:ByteArray) (B:Nat) (m:c.heap.size=B) (A:a.eval x=vS (τ B) 1 1) (H:n<=2000000) (G:base<=c.heap.size)
 (h:∀d w',w'.ownsRow base 9 1 d (n+1) (e++[.string X])->(c.alloc (.cells #[.string X] 9)).grownBy w' v.ownBlock->wpList Tryz.prog g Q rest (a.put o.dst d) w'):
 wpList Tryz.prog g Q (o::rest) a (ξ c #[.string X] 9):=by
 subst m;obtain⟨F,q,C,D,E⟩:=info_parts AcV;refine wpList_append_own _ p s x 226 t base 9 F (.string ⟨#[]⟩) 1 16 underlying226 q C D E rfl Ϟ v n e z
  (World.ownsRow.alloc y _) ⟨c,0,none⟩ 1 1 [.string X] A rfl (cell_one_new _ _ _) (by intro u f;simp at f;subst f;rfl) ϧ ϝ Ϣ ?_
 intro d w' i j _;exact h d w' i j
theorem XT{c:ϙ}{e:TypeId}{size n:Nat}{j:List Value}{v:Value}{o:Obj}(f:Below base w c)(d:base<=c.heap.size)(i:c.ownsRow base e size v n j)(g:(c.alloc o).grownBy w' v.ownBlock):Below base w w':=
 (f.alloc d o).grown g Ϣ (λk h=>(World.ownsRow.lt i k h).1)
theorem Qo(h:4096<l.length):AW l=2:=by unfold AW;rw[if_pos h]
theorem Uh(c:¬4096<l.length)(k:Nat)(f:k<l.length)(h:∀i,i<k->Mt l i)(d:FM l k≠0):AW l=FM l k:=by
 unfold AW;rw[if_neg c,YI _ (λi e=>Ot (h i e)) d f]
theorem takeC(l:List Chg)(k:Nat)(h:k<l.length):l.take (k+1)=l.take k++[l.getD k ϰ]:=by
 rw[take_succ_eq_append_getElem h];simp[gDe,h]
theorem Ui(h:w.ownsRow base 9 1 (vS ad l.length cap) l.length (l.map Uf)):Gx w ad l:=by
 intro i f;obtain⟨m,o,j,d⟩:=J2 h
 cases j
 obtain⟨g,rfl⟩:=d ϝ;refine⟨g,rfl,?_⟩;have c:=World.ownsRow.cells h (g:=g) rfl i (.string ⟨(encR (l.getD i ϰ).r).toArray⟩) (by
  simp[getElem?_map,gEe f,gDe,Uf])
 have e:(⟨g,0,none⟩:Addr).add i=⟨g,i,none⟩:=by unfold Addr.add;split<;>simp_all
 rw[e]at c;exact c
theorem Acz(h:a=b):Ending.returned (.tuple #[ψ,vI a])= .returned (.tuple #[ψ,vI b]):=by rw[h]
theorem Aea{a b:Nat}(h:a=b):Ending.returned (.tuple #[vS ad a cap,ω])= .returned (.tuple #[vS ad b cap,ω]):=by rw[h]
def Vw(l:List Chg)(e:Ending)(w':World):Prop:=
 (AW l=0/\Cx l/\∃ad cap,e= .returned (.tuple #[vS ad l.length cap,ω])/\Gx w' ad l)\/
 (AW l≠0/\e= .returned (.tuple #[ψ,vI (AW l)]))
theorem Kn{x:Int}(h:AW l=x)(c:x≠0):Vw l (.returned (.tuple #[ψ,vI x])) w':=.inr ⟨by rw[h];exact c,Acz h.symm⟩
theorem Uj(a:Ϛ)(cap:Nat)(l:List Chg)(w:ϙ)(hv:Fh w a l)(hw:Fi l)(N:l.length<=χ):
 η 162 #[vS a l.length cap] w λe w'=>Vw l e w'/\Ϝ w w':=by
 have Z:ϛ (∀w,Fh w a l->l.length<=1000000->∀i,i<l.length->CT 228 #[vS a l.length cap,vI i] w (θ w (.bool (B6 l i)))):=λw h N i j=>SX a cap l i w h hw N j;obtain⟨n,Q⟩:∃n,l.length=n:=⟨_,rfl⟩;have q:=hqz Q;rw[Q]at N Z⊢;clear Q;by_cases h4:4096<n
 ·have f:ϛ (AW l=2):=Qo (by rw[q.o];exact h4);go_enter func162,ntmps162;go_wp2
  go_ret2
  exact⟨Kn f.o Ϟ,bR⟩
 ·obtain⟨i0,j,aj,ak,al⟩:=info_parts AcV;obtain⟨wm,a1,A,ac⟩:=run_make_own (P:=Tryz.prog) w w.heap.size 226 9 i0 (.string ⟨#[]⟩) 1 underlying226 j aj ak .i64 .i64 n (by rw[al];omega) ϧ nR;have aq:Ϝ w wm:=bR.grown ac nR (λk hk=>by cases hk);have ao:=hqz A;have Y:=hqz hv;clear j aj ak al A ac hv;go_enter func162,ntmps162;go_wp2
  go_loopw [4,17] (λv i wr=> ∃k:Nat,k<=n/\i=vI k/\wr.ownsRow w 9 1 v k ((l.take k).map Uf)/\Ϝ w wr/\(∀i,i<k->Mt l i)) (λ_ i _=>n - (intOf i).toNat)
  case atStart=>exact⟨0,ϝ,rfl,ao.o,aq,λi j=>absurd j (Nat.not_lt_zero i)⟩
  case round=>
   obtain⟨k,hk,rfl,A,g,aa⟩:=hrel;have K:=hqz A;have J:=hqz aa;have C:=g.size;clear A aa;by_cases ag:k<n
   ·have G:k<l.length:=by rw[q.o];exact ag
    obtain⟨b,o,H,rc,e,x1,x2,x3⟩:=Y.o k G;subst e;obtain⟨I,U,am,an⟩:=YH hw k G;have q1:=cLz g x1;have S:=cLz g x2;have z:ϛ (vl.rowAt wr H (l.getD k ϰ).r):=Ab x3 g;have i1:(0:Int)<=(k:Int):=ϝ;have i2:(k:Int)<(n:Int):=ϝ;have D:ϛ (FM l k≠0->AW l=FM l k):=λhe=>Uh (by rw[q.o];exact h4) k G J.o he;have M:ϛ ((l.take (k+1)).map Uf=(l.take k).map Uf++[.string ⟨(encR (l.getD k ϰ).r).toArray⟩]):=by
     show(l.take (k+1)).map Uf=_;rw[takeC l k G,map_append];rfl
    have p:ϛ (FM l k=if (l.getD k ϰ).k<1\/4<(l.getD k ϰ).k then 4 else if A5 (l.getD k ϰ).r=0 then(if B6 l k then 0 else 6)else A5 (l.getD k ϰ).r):=rfl;have L:ϛ (∀w',Ϝ w w'->CT 228 #[vS (some ⟨b,o,none⟩) n cap,vI k] w' (θ w' (.bool (B6 l k)))):=λw' hb=>Z.o w' (J4 Y.o hb) ϝ k ag;obtain⟨⟨m,r⟩,ab⟩:∃c,l.getD k ϰ=c:=⟨_,rfl⟩;rw[ab]at q1 S z M p I U am an;dsimp only at q1 S z M p I U am an;clear x1 x2 x3 ab;obtain⟨rl,ai⟩:∃l,r.length=l:=⟨_,rfl⟩;rw[ai]at S;have E:ϛ (∀w,vl.rowAt w H r->CT 112 #[vS H rl rc] w (θ w (.tuple #[.string (EY r),vI (A5 r)]))):=by
     subst ai;exact λw h=>Iy H rc r w h I U
    by_cases e1:m<1
    ·have f:ϛ (AW l=4):=by
      have d:=p.o;rw[if_pos (.inl e1)]at d;show AW l=4;rw[D.o (by rw[d];decide),d]
     go_wp2
     go_ret2
     exact⟨Kn f.o Ϟ,g.alloc C _⟩
    ·have ay:decide (m<1)=false:=decide_eq_false e1;by_cases e2:4<m
     ·have f:ϛ (AW l=4):=by
       have d:=p.o;rw[if_pos (.inr e2)]at d;show AW l=4;rw[D.o (by rw[d];decide),d]
      go_wp2
      go_ret2
      exact⟨Kn f.o Ϟ,g.alloc C _⟩
     ·have az:decide (4<m)=false:=decide_eq_false e2;by_cases t:A5 r=0
      ·have ah:rowOk r:=Mp t I;have V:ϛ ((.string (EY r):Value)= .string ⟨(encR r).toArray⟩):=Acy ah;obtain⟨ks,af⟩:∃s,EY r=s:=⟨_,rfl⟩;obtain⟨pb,R⟩:∃x,B6 l k=x:=⟨_,rfl⟩;rw[af]at E V;rw[R]at L p;have ax:=hqz R;clear af ah R
       cases pb
       ·have f:ϛ (AW l=6):=by
         have d:=p.o;rw[if_neg ϝ,if_pos t,if_neg Ϟ]at d;show AW l=6;rw[D.o (by rw[d];decide),d]
        go_wp2_with (first
         |(go_at_call 112;refine(E.o _ (Ab z.o Ϩ)).mono ?_;rintro e T ⟨rfl,y⟩;have u:=(g.alloc C _).trans (y.mono Ϣ))
         |(go_at_call 228;refine(L.o _ u).mono ?_;rintro e wb ⟨rfl,F⟩))
        go_ret2
        exact⟨Kn f.o Ϟ,bT u F⟩
       ·have f:ϛ (Mt l k):=QG (by
         have d:=p.o;rw[if_neg ϝ,if_pos t,if_pos rfl]at d;exact d)
        go_wp2_with (first
         |(go_at_call 112;refine(E.o _ (Ab z.o Ϩ)).mono ?_;rintro e T ⟨rfl,y⟩;have u:=(g.alloc C _).trans (y.mono Ϣ);have ar:Ϝ wr T:=Ϩ.trans (y.mono ϟ))
         |(go_at_call 228;refine(L.o _ u).mono ?_;rintro e wb ⟨rfl,F⟩;have O:=bT u F;have X:=own_below K.o (bT ar F))
         |(at_builtin;refine Ug rfl (.tmp 43) (.tmp 45) rfl w.heap.size _ k _ rfl _ X _ _ rfl rfl ϝ O.size ?_;intro v' w1 av au))
        go_roundw
        case rel=>exact⟨k+1,ϝ,by go_num,by rw[M.o,<-V.o];exact av,XT O O.size X au,λi j=>by
         rcases Nat.lt_or_ge i k with h|h
         ·exact J.o i h
         ·rw[show i=k by omega];exact f.o⟩
        case measure=>simp[intOf];omega
      ·have a0:(A5 r==0)=false:=by simpa using t
       have f:ϛ (AW l=A5 r):=by
        have d:=p.o;rw[if_neg ϝ,if_neg t]at d;show AW l=A5 r;rw[D.o (by rw[d];exact t),d]
       go_wp2_with (go_at_call 112;refine(E.o _ (Ab z.o Ϩ)).mono ?_;rintro e T ⟨rfl,y⟩;have u:=(g.alloc C _).trans (y.mono Ϣ))
       go_ret2
       exact⟨Kn f.o t,u⟩
   ·have ae:k=n:=ϝ;have HT:ϛ (l.take k=l):=take_of_length_le (by rw[q.o];omega);have W:ϛ (Cx l):=⟨by rw[q.o];omega,λi j=>J.o i (by rw[q.o]at j;omega)⟩;obtain⟨ad,ap,aw,_⟩:=J2 K.o;subst aw;go_wp2
    go_ret2
    exact⟨.inl ⟨Abj W.o,W.o,ad,ap,Aea (ae.trans q.o.symm),Ui (by have h:=K.o;rw[HT.o,ae]at h;rw[q.o];exact h)⟩,g⟩
def keyed(kv:KV):Prop:=∀p∈kv,∃r,rowOk r/\encR r=p.1
structure good(kv:KV):Prop where
 up:rising kv
 len:kv.length<=4096
 cnt:∀p∈kv,1<=p.2/\p.2<=1073741824
 key:keyed kv
theorem before_total:∀(a b:List UInt8),bytesBefore a b=false->a≠b->bytesBefore b a=true
 |[],[],_,h=>absurd rfl h
 |[],_::_,h,_=>by simp[bytesBefore]at h
 |_::_,[],_,_=>by simp[bytesBefore]
 |a::x,b::y,h,hne=>by
  rw[bytesBefore]at h⊢;by_cases e:a=b
  ·subst e;have g:x≠y:=λe=>hne (by rw[e]);have c:bytesBefore x y=false:=by simpa using h
   simp[before_total x y c g]
  ·have c:¬a<b:=by
    intro f;simp[f]at h
   have d:b<a:=by
    rw[UInt8.lt_iff_toNat_lt]at c⊢;have:a.toNat≠b.toNat:=λh=>e (UInt8.toNat_inj.1 h);omega
   simp[d]
theorem mem_ins(x:List UInt8×Int)(l:KV):∀p,p∈insK x l↔p=x\/p∈l:=by
 induction l with
 |nil=>intro p;simp[insK]
 |cons y r ih=>
  intro p;rw[insK];split
  ·simp
  ·rw[mem_cons,ih p,mem_cons]
   constructor
   ·rintro (h|h|h)
    ·exact .inr (.inl h)
    ·exact .inl h
    ·exact .inr (.inr h)
   ·rintro (h|h|h)
    ·exact .inr (.inl h)
    ·exact .inl h
    ·exact .inr (.inr h)
theorem Ac0(x:List UInt8×Int)(l:KV):(insK x l).length=l.length+1:=by
 induction l with
 |nil=>rfl
 |cons y r ih=>
  rw[insK];split
  ·rfl
  ·rw[length_cons,ih,length_cons]
theorem Uk{x:List UInt8×Int}{l:KV}(h:rising l)(g:∀p∈l,p.1≠x.1):rising (insK x l):=by
 induction l with
 |nil=>exact pairwise_singleton _ _
 |cons y r ih=>
  have f:=pairwise_cons.1 h;rw[insK];split
  ·rename_i d;refine pairwise_cons.2 ⟨?_,h⟩;intro p c;rcases mem_cons.1 c with e|c
   ·rw[e];exact d
   ·exact before_trans d (f.1 p c)
  ·rename_i d;refine pairwise_cons.2 ⟨?_,ih f.2 (λp c=>g p (mem_cons_of_mem _ c))⟩;intro p c;rcases(mem_ins x r p).1 c with e|c
   ·rw[e];exact before_total _ _ (by simpa using d) (λe=>g y (mem_cons_self ..) e.symm)
   ·exact f.1 p c
theorem LV{p:List UInt8×Int}:p∈IP kv k↔p∈kv/\p.1≠k:=by
 unfold IP;rw[mem_filter];simp
theorem NF(h:rising kv)(k:List UInt8):rising (IP kv k):=List.Pairwise.filter _ h
theorem Vx(kv:KV)(k:List UInt8):(IP kv k).length<=kv.length:=length_filter_le _ _
theorem Ul(h:rising kv)(k:List UInt8)(n:Int):rising (Jv kv k n):=Uk (NF h k) (λp c=>(LV.1 c).2)
theorem mem_put{p:List UInt8×Int}:p∈Jv kv k n↔p=(k,n)\/(p∈kv/\p.1≠k):=by
 unfold Jv;rw[mem_ins,LV]
theorem Sy(h:DU kv k≠0):(k,DU kv k)∈kv:=by
 unfold DU at *
 cases e:kv.find? (λp=>p.1==k)with
 |none=>rw[e]at h;exact absurd rfl h
 |some p=>
  dsimp only;have c:=mem_of_find?_eq_some e;have d:=find?_some e;have f:p.1=k:=by simpa using d
  rw[<-f];exact c
theorem Um(h:DU kv k≠0):(IP kv k).length<kv.length:=by
 have c:=Sy h;unfold IP;rw[length_filter_lt_length_iff_exists];exact⟨_,c,ϟ⟩
theorem Ac1:(Jv kv k n).length=(IP kv k).length+1:=by unfold Jv;rw[Ac0]
theorem XU(h:keyed kv)(k:List UInt8):keyed (IP kv k):=λp c=>h p (LV.1 c).1
theorem XV(h:keyed kv)(d:rowOk r)(n:Int):keyed (Jv kv (encR r) n):=λp c=>by
 rcases mem_put.1 c with e|e
 ·subst e;exact⟨r,d,rfl⟩
 ·exact h p e.1
theorem Aa2(h:good kv)(k:List UInt8):0<=DU kv k/\DU kv k<=1073741824:=by
 by_cases e:DU kv k=0
 ·omega
 ·have:=h.cnt _ (Sy e);exact⟨ϝ,this.2⟩
theorem Aa3(h:good kv)(f:rowOk r)(n:Int):good (SS kv (encR r) n):=by
 unfold SS;split
 ·exact h
 ·split
  ·exact h
  ·split
   ·exact⟨NF h.up _,Nat.le_trans (Vx _ _) h.len,λp c=>h.cnt p (LV.1 c).1,XU h.key _⟩
   ·split
    ·exact h
    ·rename_i g i j d;refine⟨Ul h.up _ _,?_,?_,XV h.key f _⟩
     ·rw[Ac1];have o:=h.len;by_cases e:DU kv (encR r)=0
      ·have:=Vx kv (encR r);have m:kv.length≠4096:=λh=>d ⟨e,h⟩;omega
      ·have:=Um e;omega
     ·intro p c;rcases mem_put.1 c with e|e
      ·subst e;exact⟨ϣ,ϣ⟩
      ·exact h.cnt p e.1
theorem XW(h:keyed kv):∃out:List Cnt,AJ out=kv/\∀c∈out,rowOk c.r:=by
 induction kv with
 |nil=>exact⟨[],rfl,λc d=>by cases d⟩
 |cons p r ih=>
  obtain⟨out,g,i⟩:=ih (λq o=>h q (mem_cons_of_mem _ o));obtain⟨f,j,m⟩:=h p (mem_cons_self ..);refine⟨⟨f,p.2⟩::out,?_,?_⟩
  ·show(encR f,p.2)::AJ out=p::r;rw[g,m]
  ·intro c d;rcases mem_cons.1 d with e|d
   ·rw[e];exact j
   ·exact i c d
theorem Og{a b:List Cel}(ha:rowOk a)(d:rowOk b)(h:bytesBefore (encR a) (encR b)=true):AX a b<0:=by
 have e:=Om a b ha.2 d.2;have c:=Kb (encR a) (encR b);rw[DD]at h;rw[F0,h,if_pos rfl]at c;omega
theorem Aa4(h:rowOk r):B9 r:=λc d=>(h.2 c d).2
theorem Bj{α:Type} [Inhabited α]{l:List α}{i:Nat}(h:i<l.length):l.getD i ϰ∈l:=by simp[gDe,h]
theorem Sz{c:Cnt}(h:c∈out):(encR c.r,c.n)∈AJ out:=mem_map.2 ⟨c,h,rfl⟩
theorem XX(h:good (AJ out))(e:∀c∈out,rowOk c.r):DV out/\BJ out:=by
 refine⟨⟨by have:=h.len;rw[J3]at this;exact this,?_⟩,?_⟩
 ·intro i f;have g:=Bj f;have d:=h.cnt _ (Sz g);refine⟨Ku (e _ g),d.1,d.2,λs=>?_⟩;have q:=Bj (l:=out) (i:=i - 1) ϝ;refine Og (e _ q) (e _ g) ?_;have j:=h.up;unfold rising AJ at j;rw[pairwise_map,pairwise_iff_getElem]at j;have:=j (i - 1) i ϝ f ϝ;have m:out[i - 1]=out.getD (i - 1) ϰ:=by simp[gDe,show i - 1<out.length by omega]
  have o:out[i]=out.getD i ϰ:=by simp[gDe,f]
  rw[m,o]at this;exact this
 ·intro c d;have p:=h.cnt _ (Sz d);have t:=(e c d).1;dsimp only at p;exact⟨Aa4 (e c d),ϝ,ϝ,ϝ⟩
theorem Gr(f:BJ v)(h:DV v):∀c∈v,rowOk c.r:=by
 intro c e;obtain⟨i,d,rfl⟩:=getElem_of_mem e;have:=Pu f d (h.2 i d);simpa[gDe,d]using this
theorem XY(g:BJ v)(h:DV v):good (AJ v):=by
 refine⟨Wd g h,by rw[J3];exact h.1,?_,?_⟩
 ·intro p e;obtain⟨c,d,rfl⟩:=mem_map.1 e;obtain⟨i,f,rfl⟩:=getElem_of_mem d;have:=h.2 i f;simp only[FW,gDe,gEe f,Option.getD_some]at this;exact⟨this.2.1,this.2.2.1⟩
 ·intro p e;obtain⟨c,d,rfl⟩:=mem_map.1 e;exact⟨c.r,Gr g h c d,rfl⟩
theorem Aa5{a b:List Cnt}(ha:∀c∈a,rowOk c.r)(j:∀c∈b,rowOk c.r)(h:AJ a=AJ b):a=b:=by
 induction a generalizing b with
 |nil=>cases b with
  |nil=>rfl
  |cons d s=>cases h
 |cons c r ih=>cases b with
  |nil=>cases h
  |cons d s=>
   have g:(encR c.r,c.n)=(encR d.r,d.n)/\AJ r=AJ s:=List.cons.inj h;have e:=Prod.mk.inj g.1;have i:=Q3 (ha c (mem_cons_self ..)).2 (j d (mem_cons_self ..)).2 e.1;rw[ih (λx f=>ha x (mem_cons_of_mem _ f)) (λx f=>j x (mem_cons_of_mem _ f)) g.2]
   cases c;cases d
   simp only at i e;rw[i,e.2]
def Ae3(kv:KV)(c:Chg):KV:=SS kv (encR c.r) (Ep c.k)
def atK(kv:KV)(l:List Chg)(i:Nat):KV:=(l.take i).foldl Ae3 kv
def Ko(kv:KV)(l:List Chg)(i:Nat):Int:=Aba (atK kv l i) (encR (l.getD i ϰ).r) (Ep (l.getD i ϰ).k)
theorem S0(kv:KV)(l:List Chg)(i:Nat)(h:i<l.length):atK kv l (i+1)=SS (atK kv l i) (encR (l.getD i ϰ).r) (Ep (l.getD i ϰ).k):=by
 unfold atK;rw[takeC l i h,foldl_append];rfl
theorem Vy(d:Fi l)(h:Cx l)(i:Nat)(c:i<l.length):rowOk (l.getD i ϰ).r:=Mp (h.2 i c).2.2.1 (YH d i c).1
theorem Vz(h:good kv)(d:Fi l)(c:Cx l)(i:Nat)(e:i<=l.length):good (atK kv l i):=by
 induction i with
 |zero=>exact h
 |succ i ih=>
  rw[S0 kv l i ϝ];exact Aa3 (ih ϝ) (Vy d c i ϝ) _
theorem XZ{i:Nat}{x:Value}(h:Dr w B nn kv):w.cell? ⟨B,i,none⟩≠some x:=by
 obtain⟨f,d,c,g,j,m⟩:=h;intro e;simp[World.cell?,c]at e
theorem Qp(h:Gx w ad l)(d:Dr w B nn kv)(f:w.grownBy w' (some B)):Gx w' ad l:=by
 intro i m;obtain⟨g,e,c⟩:=h i m;refine⟨g,e,f.cell c (λh=>?_)⟩;have j:g=B:=by simpa using h
 subst j;exact XZ d c
theorem Ac2(k:Int): -1<=Ep k/\Ep k<=1:=by unfold Ep;split<;>omega
theorem Aa6{c d:Int}(h:a=b)(k:c=d):Ending.returned (.tuple #[ψ,vI a,vI c])= .returned (.tuple #[ψ,vI b,vI d]):=by rw[h,k]
theorem Ac3{a b:Nat}(h:a=b):Ending.returned (.tuple #[vS ad a cap,ω,ω])= .returned (.tuple #[vS ad b cap,ω,ω]):=by rw[h]
theorem Ac4(h:rowOk r):(encR r).length<=maxLen:=by
 have e:=Dh r (λc d=>(h.2 c d).1);have f:=h.1;unfold maxLen;omega
end ch
end Go.Proofs.YtfkihidbnfkbaaaGreatDoor
