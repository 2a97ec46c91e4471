import Derived.Test.YtfkihidbnfkbaaaGreatDoorPb6
import Derived.Test.YtfkihidbnfkbaaaGreatDoorPb8
set_option linter.all false
set_option maxHeartbeats 8000000
set_option maxRecDepth 100000
open Go.ChangeShapes Go.WideShapes Go.ChangeAt Go.RowKit Go.Maps Go.WideMaps List
open Inhabited renaming default->ϰ
namespace Go.Proofs.YtfkihidbnfkbaaaGreatDoor
open Go.Proofs.Tryz
namespace bf
open vl
variable {W w w' : World} {l : List Ent} {C NB b base cap2 g : Nat} {t : TypeId} {v : Value} {p : Part}
theorem LF(base:Nat)(t j e:TypeId)(i:TypeInfo)(size c:Nat)(d:Tryz.prog.underlying t=some (.slice e))(a:Tryz.prog.info? e=some i)
 (v:Value) (n:Nat) (k:List Value) (h:w.ownsRow base e size v n k):(Builtin.append_ #[t,t] j #[v,vS none 0 c]).run Tryz.prog w= .ok v w:=by
 rcases h.2 with⟨rfl,rfl⟩|⟨g,m,o,rfl,_,_,f,_⟩
 ·simp[Builtin.append_,run_underlying d,sizeOf,typeInfo,a,Builtin.lenOf,Builtin.firstCells]
 ·simp[Builtin.append_,run_underlying d,sizeOf,typeInfo,a,Builtin.lenOf,Builtin.firstCells,f,storeCells]
theorem Jj{d:Array Oper}{rest:List Oper}{o:Oper}{a:Act}{Q:Exit->Act->World->Prop}(k:o.guard=none)(s x:Operand)(t:TypeId)
 (q:o.op= .call {callee:=.builtin .append,args:=#[s,x],argTypes:=#[t,t]}) (base:Nat) (e:TypeId) (i:TypeInfo) (size c:Nat) (z:Tryz.prog.underlying t=some (.slice e)) (m:Tryz.prog.info? e=some i)
 (v:Value) (n:Nat) (f:List Value) (y:a.eval s=v) (r:w.ownsRow base e size v n f) (A:a.eval x=vS none 0 c)
 (h:wpList Tryz.prog d Q rest (a.put o.dst v) w):wpList Tryz.prog d Q (o::rest) a w:=by
 refine wpList_plain k λK j=>?_;have u:=LF (w:=w) base t o.type e i size c z m v n f r;unfold Oper.wp;simp[execOp,q,resolve,invoke,builtin,y,A,u,Result.andThen];exact j _ _ h
theorem TR(h:w.grownBy w' none):Ϝ w w':=bR.grown h nR (λb a=>by cases a)
theorem FX(e:EM)(x:Ent)(w:World)(h:ER w e x)(K:x.row.length<=1000000):
 Calls Tryz.prog 295 #[e.val] w λr w'=>(∃y c,r= .returned (e.to (y,x.row.length,c)).val/\AA w' w (vS y x.row.length c) x.row)/\Ϝ w w':=by
 obtain⟨A,hi,ab,ac,ae⟩:=info_parts Tryz.infoV;have D:ϛ (Tryz.prog.info? 119=some A/\A.zero=some (.agg #[vI 0,vI 0,.string ⟨#[]⟩])/\A.size=3/\A.bytes=32):=⟨hi,ab,ac,ae⟩;clear hi ab ac ae;obtain⟨d,k,i,⟨m,n1,a⟩,f⟩:=e;have z:=h.row;have H:=h.len;dsimp only at z H;subst H;unfold EM.val EM.to hdV;dsimp only;obtain⟨r,hr⟩:=nM x.row;rw[hr]at z K⊢;clear h hr;obtain⟨n,F⟩:∃n,r.length=n:=⟨_,rfl⟩;have E:=hqz F;have O:((w.alloc (.cells #[.string d,vI k,vI i,vS m r.length a,.bool f] 166)).alloc (.cells #[.string ⟨#[]⟩,vI 0,vI 0,vS none 0 0,.bool false] 166)).cell? ⟨w,0,none⟩=some (.string d):=ϡ;have P:((w.alloc (.cells #[.string d,vI k,vI i,vS m r.length a,.bool f] 166)).alloc (.cells #[.string ⟨#[]⟩,vI 0,vI 0,vS none 0 0,.bool false] 166)).cell? ⟨w,1,none⟩=some (vI k):=ϡ;have Q:((w.alloc (.cells #[.string d,vI k,vI i,vS m r.length a,.bool f] 166)).alloc (.cells #[.string ⟨#[]⟩,vI 0,vI 0,vS none 0 0,.bool false] 166)).cell? ⟨w,2,none⟩=some (vI i):=ϡ;have J:((w.alloc (.cells #[.string d,vI k,vI i,vS m r.length a,.bool f] 166)).alloc (.cells #[.string ⟨#[]⟩,vI 0,vI 0,vS none 0 0,.bool false] 166)).cell? ⟨w,3,none⟩=some (vS m r.length a):=ϡ;have R:((w.alloc (.cells #[.string d,vI k,vI i,vS m r.length a,.bool f] 166)).alloc (.cells #[.string ⟨#[]⟩,vI 0,vI 0,vS none 0 0,.bool false] 166)).cell? ⟨w,4,none⟩=some (.bool f):=ϡ;have g0:((w.alloc (.cells #[.string d,vI k,vI i,vS m r.length a,.bool f] 166)).alloc (.cells #[.string ⟨#[]⟩,vI 0,vI 0,vS none 0 0,.bool false] 166)).cell? ⟨w+1,0,none⟩=some (.string ⟨#[]⟩):=ϡ;have g1:((w.alloc (.cells #[.string d,vI k,vI i,vS m r.length a,.bool f] 166)).alloc (.cells #[.string ⟨#[]⟩,vI 0,vI 0,vS none 0 0,.bool false] 166)).cell? ⟨w+1,1,none⟩=some (vI 0):=ϡ
 have g2:((w.alloc (.cells #[.string d,vI k,vI i,vS m r.length a,.bool f] 166)).alloc (.cells #[.string ⟨#[]⟩,vI 0,vI 0,vS none 0 0,.bool false] 166)).cell? ⟨w+1,2,none⟩=some (vI 0):=ϡ;have g3:((w.alloc (.cells #[.string d,vI k,vI i,vS m r.length a,.bool f] 166)).alloc (.cells #[.string ⟨#[]⟩,vI 0,vI 0,vS none 0 0,.bool false] 166)).cell? ⟨w+1,3,none⟩=some (vS none 0 0):=ϡ;have g4:((w.alloc (.cells #[.string d,vI k,vI i,vS m r.length a,.bool f] 166)).alloc (.cells #[.string ⟨#[]⟩,vI 0,vI 0,vS none 0 0,.bool false] 166)).cell? ⟨w+1,4,none⟩=some (.bool false):=ϡ;have T:((w.alloc (.cells #[.string d,vI k,vI i,vS m r.length a,.bool f] 166)).alloc (.cells #[.string ⟨#[]⟩,vI 0,vI 0,vS none 0 0,.bool false] 166)).frozen? ⟨w,3,none⟩=false:=ϡ;have U:((w.alloc (.cells #[.string d,vI k,vI i,vS m r.length a,.bool f] 166)).alloc (.cells #[.string ⟨#[]⟩,vI 0,vI 0,vS none 0 0,.bool false] 166)).frozen? ⟨w+1,0,none⟩=false:=ϡ;have V:((w.alloc (.cells #[.string d,vI k,vI i,vS m r.length a,.bool f] 166)).alloc (.cells #[.string ⟨#[]⟩,vI 0,vI 0,vS none 0 0,.bool false] 166)).frozen? ⟨w+1,1,none⟩=false:=ϡ;have X:((w.alloc (.cells #[.string d,vI k,vI i,vS m r.length a,.bool f] 166)).alloc (.cells #[.string ⟨#[]⟩,vI 0,vI 0,vS none 0 0,.bool false] 166)).frozen? ⟨w+1,2,none⟩=false:=ϡ;have Y:((w.alloc (.cells #[.string d,vI k,vI i,vS m r.length a,.bool f] 166)).alloc (.cells #[.string ⟨#[]⟩,vI 0,vI 0,vS none 0 0,.bool false] 166)).frozen? ⟨w+1,3,none⟩=false:=ϡ;have Z:((w.alloc (.cells #[.string d,vI k,vI i,vS m r.length a,.bool f] 166)).alloc (.cells #[.string ⟨#[]⟩,vI 0,vI 0,vS none 0 0,.bool false] 166)).frozen? ⟨w+1,4,none⟩=false:=ϡ;have G:Ϝ w ((w.alloc (.cells #[.string d,vI k,vI i,vS m r.length a,.bool f] 166)).alloc (.cells #[.string ⟨#[]⟩,vI 0,vI 0,vS none 0 0,.bool false] 166)):=by
  repeat (first|exact bR|(refine Below.alloc ?_ Ϥ _))
 have ai:((w.alloc (.cells #[.string d,vI k,vI i,vS m r.length a,.bool f] 166)).alloc (.cells #[.string ⟨#[]⟩,vI 0,vI 0,vS none 0 0,.bool false] 166)).heap.size=w.heap.size+1+1:=ϟ
 cases m with
 |none=>
  have h0:r=[]:=by
   cases r with
   |nil=>rfl
   |cons c r=>
    obtain⟨_,_,e,_⟩:=z 0 ϟ
    cases e
  subst h0;simp only[length_nil]at J⊢;clear z K F E;go_enter func295,ntmps295;go_wp2_with (at_builtin;refine Jj rfl (.const (vS none 0 0)) (.tmp 4) 80 rfl w.heap.size 119 A 3 a underlying80 D.o.1 _ _ _ rfl (World.ownsRow_nil _ _ _ _) rfl ?_);exact bodyPost_ret (v:=.agg #[.string d,vI k,vI i,vS none 0 0,.bool f]) (by simp[results,results295,go_sem]) rfl ⟨⟨none,0,rfl,World.ownsRow_nil _ _ _ _⟩,by
   repeat (first|exact bR|(refine Below.alloc ?_ Ϥ _))⟩
 |some y=>
  have af:ϛ (∀j u,(celCells r)[j]? =some u->((w.alloc (.cells #[.string d,vI k,vI i,vS (some y) n a,.bool f] 166)).alloc (.cells #[.string ⟨#[]⟩,vI 0,vI 0,vS none 0 0,.bool false] 166)).cell? (y.add j)=some u):=by
   intro j u L;rw[F]at G;have H:0<r.length:=by
    rcases Nat.eq_zero_or_pos r.length with h|h
    ·rw[length_eq_zero_iff.1 h]at L;cases L
    ·exact h
   obtain⟨b,o,e,_⟩:=z 0 H
   cases e
   exact cLz G (FG z j u L)
  rw[F]at K O P Q J R g0 g1 g2 g3 g4 T U V X Y Z G ai⊢;clear z F;go_enter func295,ntmps295;go_wp2_with (at_builtin;refine wpList_append_own _ rfl (.const (vS none 0 0)) (.tmp 4) 80 rfl (w.heap.size+1+1) 119 A (.agg #[vI 0,vI 0,.string ⟨#[]⟩]) 3 32 underlying80 D.o.1 D.o.2.1 D.o.2.2.1 D.o.2.2.2 rfl Ϟ _ _ _ rfl (World.ownsRow_nil _ _ _ _) y n a (celCells r) rfl (by rw[DT,E.o]) af.o (EZ r) ϧ ϝ ϟ ?_;intro v2 s I ah ao;have q:Below ((w.alloc (.cells #[.string d,vI k,vI i,vS (some y) n a,.bool f] 166)).alloc (.cells #[.string ⟨#[]⟩,vI 0,vI 0,vS none 0 0,.bool false] 166)).heap.size ((w.alloc (.cells #[.string d,vI k,vI i,vS (some y) n a,.bool f] 166)).alloc (.cells #[.string ⟨#[]⟩,vI 0,vI 0,vS none 0 0,.bool false] 166)) s:=TR ah;have y0:=cLz q O;have y1:=cLz q P;have y2:=cLz q Q;have y3:=cLz q J;have y4:=cLz q R;have z0:=cLz q g0;have z1:=cLz q g1;have z2:=cLz q g2;have z3:=cLz q g3;have z4:=cLz q g4;rw[Nat.zero_add,nil_append]at I;obtain⟨M,S,aa⟩:=Oj (show AA s _ v2 r from(by unfold AA;rw[E.o];exact I));rw[E.o]at aa;subst aa;have h0:s.frozen? ⟨w,3,none⟩=false:=(by rw[q.frozen (p:=⟨w,3,none⟩) ϣ];exact T);have h1:s.frozen? ⟨w+1,0,none⟩=false:=(by rw[q.frozen (p:=⟨w+1,0,none⟩) ϣ];exact U);have aj:s.frozen? ⟨w+1,1,none⟩=false:=(by rw[q.frozen (p:=⟨w+1,1,none⟩) ϣ];exact V);have ak:s.frozen? ⟨w+1,2,none⟩=false:=(by rw[q.frozen (p:=⟨w+1,2,none⟩) ϣ];exact X);have al:s.frozen? ⟨w+1,3,none⟩=false:=(by rw[q.frozen (p:=⟨w+1,3,none⟩) ϣ];exact Y);have am:s.frozen? ⟨w+1,4,none⟩=false:=(by rw[q.frozen (p:=⟨w+1,4,none⟩) ϣ];exact Z));have ag:Ϝ w s:=bT G q;refine bodyPost_ret (v:=.agg #[.string d,vI k,vI i,vS M n S,.bool f]) (by simp[results,results295,go_sem,y0,y1,y2,y3,y4,z0,z1,z2,z3,z4]) rfl ⟨⟨M,S,rfl,?_⟩,by
   repeat (first|exact ag|(refine Below.setCell ?_ ϣ _))⟩
  unfold AA;rw[E.o];refine Di (A4 I (λg hg=>?_)) ϝ;have an:=(AE I hg).1
  repeat rw[heap_setCell_other _ _ _ _ ϣ]
theorem EA(w:World)(a b c d e:Value)(t:TypeId):∀j u,[a,b,c,d,e][j]? =some u->(w.alloc (.cells #[a,b,c,d,e] t)).cell? ((⟨w,0,none⟩:Addr).add j)=some u:=by
 intro j u f;rw[C3]
 match j,f with
 |0,f=>simp at f;subst f;simp[go_sem]
 |1,f=>simp at f;subst f;simp[go_sem]
 |2,f=>simp at f;subst f;simp[go_sem]
 |3,f=>simp at f;subst f;simp[go_sem]
 |4,f=>simp at f;subst f;simp[go_sem]
 |(n+5),f=>simp at f
theorem L9{P:Ent->Bool}{k:Nat}(h:k<l.length):(l.take (k+1)).filter P=(l.take k).filter P++(if P (l.getD k ϰ)=true then [l.getD k ϰ]else []):=by
 rw[take_succ_eq_append_getElem h,filter_append];have e:l.getD k ϰ=l[k]:=by rw[gDe,gEe h];rfl
 rw[e]
 congr 1
 simp only[filter_cons,filter_nil]
theorem TS(q:FuncId)(eg:∀ab w,(callFunc q ab).run Tryz.prog w= .ok (.enter q ab) w)(M:Array Value)(P:Ent->Bool)(a:Option Addr)(cap:Nat)(es:List EM)(l:List Ent)(w:World)(hl:l.length<=100000)(ha:Cm w a es)(hr:ERs w es l)(ag:∀x∈l,x.row.length<=1000000)
 (H:∀i d,i<l.length->Ϝ w d->Calls Tryz.prog q (#[(es.getD i ϰ).val]++M) d λe w'=>e= .returned (.bool (P (l.getD i ϰ)))/\Ϝ d w'):
 Calls Tryz.prog 281 #[vS a l.length cap,.func (.func q) #[] M] w λe w'=>(∃v j,e= .returned v/\OE w' w v j (l.filter P))/\Ϝ w w':=by
 obtain⟨J,ac,aj,ak,al⟩:=info_parts VD;have K:ϛ (Tryz.prog.info? 166=some J/\J.zero=some (.agg #[.string ⟨#[]⟩,vI 0,vI 0,vS none 0 0,.bool false])/\J.size=5/\J.bytes=64):=⟨ac,aj,ak,al⟩;clear ac aj ak al;have HH:ϛ (∀i d,i<l.length->Ϝ w d->CT q (#[(es.getD i ϰ).val]++M) d λe w'=>e= .returned (.bool (P (l.getD i ϰ)))/\Ϝ d w'):=H;have L:ϛ (Cm w a es/\ERs w es l/\∀x∈l,x.row.length<=1000000):=⟨ha,hr,ag⟩;clear H ha hr ag;obtain⟨n,hn⟩:∃n,l.length=n:=⟨_,rfl⟩;have HN:=hqz hn;rw[hn]at hl⊢;clear hn;go_enter func281,ntmps281;go_wp2
 go_loopw [5,10] (λx i wr=> ∃(k:Nat) (j:List EM),k<=n/\i=vI k/\OE wr w x j ((l.take k).filter P)/\Ϝ w wr) (λ_ i _=>n - (intOf i).toNat)
 case atStart=>exact⟨0,[],Nat.zero_le _,rfl,E4 nR,bR⟩
 case round=>
  obtain⟨k,j,hk,rfl,ae,f⟩:=hrel;have I:=hqz ae;clear ae;by_cases ar:k<n
  ·have E:k<l.length:=by rw[HN.o];exact ar
   obtain⟨b,o,e,x1,x2,x3,x4,x5⟩:=L.o.1 k (by rw[L.o.2.1.1];exact E);subst e;have q1:=cLz f x1;have q2:=cLz f x2;have q3:=cLz f x3;have q4:=cLz f x4;have q5:=cLz f x5;clear x1 x2 x3 x4 x5;have i1:(0:Int)<=(k:Int):=ϝ;have i2:(k:Int)<(n:Int):=ϝ;have m:ϛ (∀d,Ϝ wr d->CT q (#[(es.getD k ϰ).val]++M) d λe w'=>e= .returned (.bool (P (l.getD k ϰ)))/\Ϝ d w'):=λd V=>HH.o k d E (bT f V);have Z:ER w (es.getD k ϰ) (l.getD k ϰ):=L.o.2.1.2 k E;have F:(l.getD k ϰ).row.length<=1000000:=L.o.2.2 _ (by rw[gDe,gEe E];exact getElem_mem E);have A:ϛ (∀d,Ϝ wr d->CT 295 #[(es.getD k ϰ).val] d λr w'=>(∃ad c,r= .returned ((es.getD k ϰ).to (ad,(l.getD k ϰ).row.length,c)).val/\AA w' d (vS ad (l.getD k ϰ).row.length c) (l.getD k ϰ).row)/\Ϝ d w'):=λd V=>FX _ _ d (Z.below (bT f V)) F;have G:ϛ ((l.take (k+1)).filter P=(l.take k).filter P++(if P (l.getD k ϰ)=true then [l.getD k ϰ]else [])):=L9 E;have y:=hqz Z;have ap:j.length<=100000:=by
    have h1:=I.o.len;have h2:=length_filter_le P (l.take k);rw[length_take]at h2;omega
   obtain⟨xx,ai⟩:=nM (l.getD k ϰ);rw[ai]at m A G y;obtain⟨⟨R,U,T,⟨r1,r2,r3⟩,S⟩,hz⟩:∃z,es.getD k ϰ=z:=⟨_,rfl⟩;rw[hz]at q1 q2 q3 q4 q5 m A y;unfold EM.val EM.to hdV at A;unfold EM.val hdV at m;unfold hdV at q4;dsimp only at q1 q2 q3 q4 q5 m A;clear hz ai Z F;have ah:=f.size;obtain⟨rl,F⟩:=nM xx.row.length;have an:=hqz F;rw[F]at A;clear F
   cases hp:P xx with
   |false=>
    rw[hp]at m G;go_wp2_with (go_at_fn q;refine(m.o _ Ϩ).mono ?_;rintro e d ⟨rfl,s⟩;have D:Ϝ wr d:=Ϩ.trans (s.mono ϟ));go_roundw
    case rel=>exact⟨k+1,j,ϝ,by go_num,by rw[G.o];simpa using I.o.below D,f.trans (D.mono ah)⟩
    case measure=>simp[intOf];omega
   |true=>
    rw[hp]at m G;obtain⟨en,Y⟩:=nM j.length;have O:=hqz Y;rw[Y]at ap;clear Y;go_wp2_with (first
     |(go_at_fn q;refine(m.o _ Ϩ).mono ?_;rintro e d ⟨rfl,s⟩;have D:Ϝ wr d:=Ϩ.trans (s.mono ϟ);have y1:d.cell? ⟨wr.heap.size,0,none⟩=some (.string R):=cLz s ϡ;have y2:d.cell? ⟨wr.heap.size,1,none⟩=some (vI U):=cLz s ϡ;have y3:d.cell? ⟨wr.heap.size,2,none⟩=some (vI T):=cLz s ϡ;have y4:d.cell? ⟨wr.heap.size,3,none⟩=some (vS r1 r2 r3):=cLz s ϡ;have y5:d.cell? ⟨wr.heap.size,4,none⟩=some (.bool S):=cLz s ϡ)
     |(go_at_call 295;refine(A.o _ D).mono ?_;rintro e w2 ⟨⟨aa,c2,rfl,au⟩,ao⟩;have X:Ϝ wr w2:=bT D ao;have am:ϛ (w2.ownsRow w.heap.size 166 5 u5 en (A1 j)):=(by have h:=own_below I.o.own X;rw[O.o]at h;exact h);have ay:w.heap.size<=w2.heap.size:=Nat.le_trans ah X.size)
     |(at_builtin;refine wpList_append_own _ rfl (.tmp 17) (.tmp 20) 33 rfl w.heap.size 166 J (.agg #[.string ⟨#[]⟩,vI 0,vI 0,vS none 0 0,.bool false]) 5 64 underlying33 K.o.1 K.o.2.1 K.o.2.2.1 K.o.2.2.2 rfl Ϟ _ _ _ rfl (World.ownsRow.alloc am.o _) ⟨w2.heap.size,0,none⟩ 1 1 [.string R,vI U,vI T,vS aa rl c2,.bool S] rfl rfl (EA _ _ _ _ _ _ _) (by intro u hu;simp at hu;rcases hu with rfl|rfl|rfl|rfl|rfl<;>rfl) ϧ ϝ Ϣ ?_;intro v3 w3 af aq ax))
    obtain⟨g3,c3,av⟩:∃g c,v3=vS (some ⟨g,0,none⟩) (en+1) c:=by
     rcases af.2 with⟨_,h0⟩|⟨g,cap,aw,rfl,_⟩
     ·exact absurd h0 ϝ
     ·exact⟨_,_,rfl⟩
    subst av;have Q:=LW (e:=⟨R,U,T,(aa,rl,c2),S⟩) (x:=xx) (g:=g3) (cap2:=c3) I.o X ⟨y.o.key,y.o.time,y.o.seq,y.o.met,an.o.symm,by unfold hdV;dsimp only;exact Di au (by have:=D.size;omega)⟩ (by rw[O.o];exact af) aq;rw[O.o]at Q;go_roundw
    case rel=>exact⟨k+1,_,ϝ,by go_num,by rw[G.o];simpa using Q.1,f.trans Q.2⟩
    case measure=>simp[intOf];omega
  ·have HT:ϛ (l.take k=l):=take_of_length_le (by rw[HN.o];omega);go_wp2;go_ret;exact⟨⟨_,j,rfl,by have:=I.o;rw[HT.o]at this;exact this⟩,f⟩
def Ai(w:World)(b:Nat)(t:TypeId):Prop:=∃cur f,w.heap[b]? =some (.cells cur t f)
theorem A0(h:Ai w b t)(a:w'.heap[b]? =w.heap[b]?):Ai w' b t:=by
 obtain⟨c,f,h⟩:=h;exact⟨c,f,a.trans h⟩
theorem A2(h:Ai w b t):b<w.heap.size:=by
 obtain⟨c,f,h⟩:=h;exact(Array.getElem?_eq_some_iff.1 h).1
theorem Ad(h:Ai w b t)(a:Ϝ w w'):Ai w' b t:=A0 h (a.block b (A2 h))
theorem tyAt_apart{d:Nat}{i:TypeId}(h:Ai w b t)(a:Ai w d i)(k:t≠i):b≠d:=by
 rintro rfl;obtain⟨c,f,h⟩:=h;obtain⟨m,n,a⟩:=a;rw[h]at a;injection a with e
 injection e with _ j _
 exact k j
theorem A6(h:Ai w b t)(p:Addr)(v:Value):Ai (w.setCell p v) b t:=by
 obtain⟨c,f,h⟩:=h;by_cases e:p.block=b
 ·subst e;exact⟨if p.spot.isSome=true then c else c.setIfInBounds p.off v,f,by simp[World.setCell,Array.getElem?_modify,h]⟩
 ·exact⟨c,f,(heap_setCell_other w p b v (λh=>e h.symm)).trans h⟩
theorem Av{e:TypeId}{s:Nat}{n:Nat}{d:List Value}(h:w.ownsRow base e s v n d)(a:v.ownBlock=some g):Ai w g e:=by
 rcases h.2 with⟨rfl,_⟩|⟨b,f,i,rfl,_,c,_⟩
 ·cases a
 ·cases a;exact⟨_,_,c⟩
theorem OE.other{es:List EM}(h:OE w base v es l)(d:w.heap.size<=w'.heap.size)(a:∀g,Ai w g 166\/Ai w g 119->w'.heap[g]? =w.heap[g]?):OE w' base v es l:=
 h.same d (λg f t c e=>by
  rcases e with⟨_,rfl⟩|rfl
  ·exact a g (.inl ⟨_,_,c⟩)
  ·exact a g (.inr ⟨_,_,c⟩))
def apB(a b:Value):Prop:=∀g,a.ownBlock=some g->b.ownBlock≠some g
structure OB(w:World)(base:Nat)(x:BX)(b:Buf):Prop where
 low:base<=w.heap.size
 mem:OE w base (hdV x.m.1) x.m.2 b.mem
 hds:w.ownsRow base 33 1 (vS x.ra x.rs.length x.rc) x.rs.length (x.rs.map λp=>hdV p.1)
 rlen:x.rs.length=b.runs.length
 runs:∀i,i<b.runs.length->OE w base (hdV (x.rs.getD i ϰ).1) (x.rs.getD i ϰ).2 (b.runs.getD i ϰ)
 two:((x.m::x.rs).map λp=>hdV p.1).Pairwise apB
theorem OB.below{x:BX}{b:Buf}(h:OB w base x b)(a:Ϝ w w'):OB w' base x b:=
 ⟨Nat.le_trans h.low a.size,h.mem.below a,own_below h.hds a,h.rlen,λi c=>(h.runs i c).below a,h.two⟩
def BX.more(x:BX)(g cap:Nat)(p:Part):BX:=⟨some ⟨g,0,none⟩,cap,x.m,x.rs++[p]⟩
def Buf.more(b:Buf)(l:List Ent):Buf:=⟨b.lim,b.mem,b.runs++[l]⟩
theorem Ace{d w2:World}{x:BX}{b:Buf}(h:OB w base x b)(y:Ϝ w d)(s:OE d w (hdV p.1) p.2 l)
 (E:w2.ownsRow base 33 1 (vS (some ⟨g,0,none⟩) (x.rs.length+1) cap2) (x.rs.length+1) ((x.rs.map λp=>hdV p.1)++[hdV p.1])) (j:d.heap.size<=w2.heap.size)
 (m:∀b,Ai d b 166\/Ai d b 119->w2.heap[b]? =d.heap[b]?):OB w2 base (x.more g cap2 p) (b.more l):=by
 have k:=h.below y;refine⟨Nat.le_trans k.low j,k.mem.other j m,?_,?_,λi f=>?_,?_⟩
 ·unfold BX.more;dsimp only;rw[lAp,map_append];exact E
 ·unfold BX.more Buf.more;dsimp only;rw[lAp,lAp,h.rlen];rfl
 ·unfold BX.more Buf.more at *;dsimp only at *;rw[lAp]at f;by_cases n:i<b.runs.length
  ·rw[Bc (by rw[h.rlen];exact n),Bc n];exact(k.runs i n).other j m
  ·have:i=b.runs.length:=by simp at f;omega
   subst this;rw[AP (by rw[h.rlen];exact Nat.le_refl _),AP nR,h.rlen,Nat.sub_self];exact(s.other j m).mono h.low
 ·unfold BX.more;dsimp only;rw[show(x.m::(x.rs++[p]))=(x.m::x.rs)++[p]from rfl,map_append];refine pairwise_append.2 ⟨h.two,ϟ,λa ha c z g r=>?_⟩;have A:c=hdV p.1:=by simpa using z
  subst A;intro D;have F:=(AE s.own D).1;obtain⟨q,o,rfl⟩:=mem_map.1 ha;rcases mem_cons.1 o with rfl|o
  ·have:=(AE h.mem.own r).2;omega
  ·obtain⟨i,f,rfl⟩:=getElem_of_mem o;have u:=h.runs i (by rw[<-h.rlen];exact f);have e:x.rs.getD i ϰ=x.rs[i]:=by rw[gDe,gEe f];rfl
   rw[e]at u;have:=(AE u.own r).2;omega
structure KSt(W:World)(C NB base:Nat)(x:BX)(b:Buf):Prop where
 ob:OB W base x b
 c0:W.cell? ⟨NB,0,none⟩=some (vI b.lim)
 c1:W.cell? ⟨NB,1,none⟩=some (hdV x.m.1)
 c2:W.cell? ⟨NB,2,none⟩=some (vS x.ra x.rs.length x.rc)
 f2:W.frozen? ⟨NB,2,none⟩=false
 ty:Ai W NB 36
 r0:W.cell? ⟨C,0,none⟩=some (vI 0)
 r1:W.cell? ⟨C,1,none⟩=some (vS none 0 0)
 r2:W.cell? ⟨C,2,none⟩=some (vS none 0 0)
 g0:W.frozen? ⟨C,0,none⟩=false
 g1:W.frozen? ⟨C,1,none⟩=false
 g2:W.frozen? ⟨C,2,none⟩=false
 rt:Ai W C 36
 ne:C<NB
 up:base<=C
theorem KSt.below{d:World}{x:BX}{b:Buf}(h:KSt W C NB base x b)(a:Ϝ W d):KSt d C NB base x b:=by
 have e:=A2 h.ty;have c:=A2 h.rt;exact⟨h.ob.below a,cLz a h.c0,cLz a h.c1,cLz a h.c2,(a.frozen (p:=⟨NB,2,none⟩) e).trans h.f2,Ad h.ty a,cLz a h.r0,cLz a h.r1,cLz a h.r2,(a.frozen (p:=⟨C,0,none⟩) c).trans h.g0,(a.frozen (p:=⟨C,1,none⟩) c).trans h.g1,(a.frozen (p:=⟨C,2,none⟩) c).trans h.g2,Ad h.rt a,h.ne,h.up⟩
theorem AF{p:Addr}(h:w'.heap[p.block]? =w.heap[p.block]?):w'.frozen? p=w.frozen? p:=by
 unfold World.frozen?;rw[h]
theorem Aae{n j:World}{x:BX}{b:Buf}{o:Obj}(h:KSt W C NB base x b)(s:Ϝ W n)(G:OE n W (hdV p.1) p.2 l)
 (y:j.ownsRow base 33 1 (vS (some ⟨g,0,none⟩) (x.rs.length+1) cap2) (x.rs.length+1) ((x.rs.map λp=>hdV p.1)++[hdV p.1])) (u:(n.alloc o).grownBy j (Value.slice x.ra x.rs.length x.rc).ownBlock):
 KSt (j.setCell ⟨NB,2,none⟩ (vS (some ⟨g,0,none⟩) (x.rs.length+1) cap2)) C NB base (x.more g cap2 p) (b.more l)/\Below base W (j.setCell ⟨NB,2,none⟩ (vS (some ⟨g,0,none⟩) (x.rs.length+1) cap2)):=by
 have d:=h.below s;have P:n.heap.size<=j.heap.size:=by have:=u.size;simp at this;omega
 have r:∀c t,Ai n c t->t≠33->j.heap[c]? =n.heap[c]? :=λc t f H=>by
  have F:=A2 f;rw[u.block c Ϣ (λe=>?_)]
  ·exact Below.heap_alloc _ _ c F
  ·exact tyAt_apart f (Av d.ob.hds e.symm) H rfl
 have q:=r NB _ d.ty Ϟ;have m:=r C _ d.rt Ϟ;have L:=(cOb (a:=⟨NB,0,none⟩) q).trans d.c0;have M:=(cOb (a:=⟨NB,1,none⟩) q).trans d.c1;have z:=(cOb (a:=⟨NB,2,none⟩) q).trans d.c2;have I:=(cOb (a:=⟨C,0,none⟩) m).trans d.r0;have J:=(cOb (a:=⟨C,1,none⟩) m).trans d.r1;have K:=(cOb (a:=⟨C,2,none⟩) m).trans d.r2;have O:=h.ne;have i:∀c v,c≠NB->(j.setCell ⟨NB,2,none⟩ v).heap[c]? =j.heap[c]? :=λc v f=>heap_setCell_other _ _ _ _ f;refine⟨⟨Ace h.ob s G (A4 y (λk D=>i k _ ?_)) (by simp[World.setCell];omega) (λc f=>?_),?_,?_,?_,?_,?_,?_,?_,?_,?_,?_,?_,?_,h.ne,h.up⟩,?_⟩
 ·exact λe=>tyAt_apart (Av y D) (A0 d.ty q) Ϟ e
 ·rcases f with f|f
  ·exact(i c _ (λe=>tyAt_apart f d.ty Ϟ e)).trans (r c _ f Ϟ)
  ·exact(i c _ (λe=>tyAt_apart f d.ty Ϟ e)).trans (r c _ f Ϟ)
 ·show _=some (Value.int .i64 b.lim);go_simp
 ·show _=some (hdV x.m.1);go_simp
 ·unfold BX.more;dsimp only;rw[lAp];exact World.cell?_setCell_same _ _ _ z
 ·have:=(AF (p:=⟨NB,2,none⟩) q).trans d.f2;go_simp
 ·exact A6 (A0 d.ty q) _ _
 ·rw[cOb (a:=⟨C,0,none⟩) (i C _ ϝ)];exact I
 ·rw[cOb (a:=⟨C,1,none⟩) (i C _ ϝ)];exact J
 ·rw[cOb (a:=⟨C,2,none⟩) (i C _ ϝ)];exact K
 ·rw[AF (p:=⟨C,0,none⟩) (i C _ ϝ),AF (p:=⟨C,0,none⟩) m];exact d.g0
 ·rw[AF (p:=⟨C,1,none⟩) (i C _ ϝ),AF (p:=⟨C,1,none⟩) m];exact d.g1
 ·rw[AF (p:=⟨C,2,none⟩) (i C _ ϝ),AF (p:=⟨C,2,none⟩) m];exact d.g2
 ·exact A0 (A0 d.rt m) (i C _ ϝ)
 ·have E:=h.ob.low;have Q:=h.up;have A:Below base W j:=((s.mono E).alloc d.ob.low o).grown u (by simp;have:=d.ob.low;omega) (λc f=>(AE d.ob.hds f).1);exact A.setCell ϣ _
end bf
namespace bf
open vl
attribute [local go_sem] Oper.semAt_some
variable {l : List Ent} {W w w2 : World} {B C N base base' : Nat} {v : Value} {es : List EM} {hh : Hdr} {lim : Int}
def DK(P:Ent->Bool)(l:List (List Ent)):List (List Ent):=(l.map (·.filter P)).filter λr=>decide (0<r.length)
def CY(P:Ent->Bool)(b:Buf):Buf:=⟨b.lim,b.mem.filter P,DK P b.runs⟩
theorem TT{P:Ent->Bool}{l:List (List Ent)}{k:Nat}(h:k<l.length):DK P (l.take (k+1))=DK P (l.take k)++(if 0<((l.getD k ϰ).filter P).length then [(l.getD k ϰ).filter P]else []):=by
 unfold DK;rw[take_succ_eq_append_getElem h,map_append,filter_append];have e:l.getD k ϰ=l[k]:=by rw[gDe,gEe h];rfl
 rw[e]
 congr 1
 simp only[map_cons,map_nil,filter_cons,filter_nil,decide_eq_true_eq]
theorem Bj{α:Type}{l:List α}{d:α}{j:Nat}(h:j<l.length):l.getD j d∈l:=by
 rw[gDe,gEe h];exact getElem_mem h
theorem AcR:(Tryz.prog.info? 33).map (λi=>(i.zero,i.size,i.bytes))=some (some (vS none 0 0),1,24):=Ϡ
structure nbAt(W:World)(B:Nat):Prop where
 n0:W.cell? ⟨B,0,none⟩=some (vI 0)
 n1:W.cell? ⟨B,1,none⟩=some (vS none 0 0)
 n2:W.cell? ⟨B,2,none⟩=some (vS none 0 0)
 o0:W.frozen? ⟨B,0,none⟩=false
 o1:W.frozen? ⟨B,1,none⟩=false
 o2:W.frozen? ⟨B,2,none⟩=false
 ty:Ai W B 36
theorem Kg(W:World):nbAt (W.alloc (.cells #[vI 0,vS none 0 0,vS none 0 0] 36)) W.heap.size:=⟨ϡ,ϡ,ϡ,ϡ,ϡ,ϡ,⟨_,_,World.alloc_heap_new W _⟩⟩
theorem LP(h:nbAt W B):nbAt W.drew B:=⟨h.n0,h.n1,h.n2,h.o0,h.o1,h.o2,h.ty⟩
theorem Cl{d:World}(a:Ϝ W d)(h:nbAt W B):nbAt d B:=by
 have c:=A2 h.ty;exact⟨cLz a h.n0,cLz a h.n1,cLz a h.n2,(a.frozen (p:=⟨B,0,none⟩) c).trans h.o0,(a.frozen (p:=⟨B,1,none⟩) c).trans h.o1,(a.frozen (p:=⟨B,2,none⟩) c).trans h.o2,Ad h.ty a⟩
theorem Nt(h:OE w base v es l)(c:Ai w N 36)(k:Nat)(u:Value):OE (w.setCell ⟨N,k,none⟩ u) base v es l:=
 h.other (by simp[World.setCell]) (λg a=>heap_setCell_other _ _ _ _ (by
  rcases a with a|a
  ·exact tyAt_apart a c Ϟ
  ·exact tyAt_apart a c Ϟ))
theorem D3(h:OE w base (hdV hh) es l):OB w base ⟨none,0,(hh,es),[]⟩ ⟨lim,l,[]⟩:=
 ⟨h.low,h,World.ownsRow_nil _ _ _ _,rfl,λi a=>absurd a (Nat.not_lt_zero i),pairwise_singleton _ _⟩
theorem AdQ(d:nbAt w2 C)(h:OE w2 base' (hdV hh) es l)(f:base<=base')(e:base<=C):
 KSt (w2.alloc (.cells #[vI lim,hdV hh,vS none 0 0] 36)) C w2.heap.size base ⟨none,0,(hh,es),[]⟩ ⟨lim,l,[]⟩:=by
 have c:Ϝ w2 (w2.alloc (.cells #[vI lim,hdV hh,vS none 0 0] 36)):=Ϩ;have a:=Cl c d;have i:=A2 d.ty;refine⟨D3 ((h.mono f).below c),?_,?_,?_,?_,⟨_,_,World.alloc_heap_new _ _⟩,a.n0,a.n1,a.n2,a.o0,a.o1,a.o2,a.ty,i,e⟩
 ·unfold hdV;go_simp
 ·unfold hdV;go_simp
 ·unfold hdV;go_simp
 ·unfold hdV;go_simp
theorem AdR(q:nbAt w2 C)(r:nbAt w2 N)(h:OE w2 base' (hdV hh) es l)(o:base<=base')(m:base<=C)(n:C<N):
 KSt (((w2.setCell ⟨N,0,none⟩ (vI lim)).setCell ⟨N,1,none⟩ (hdV hh)).setCell ⟨N,2,none⟩ (vS none 0 0)) C N base ⟨none,0,(hh,es),[]⟩ ⟨lim,l,[]⟩:=by
 obtain⟨z,A,D,E,F,G,d⟩:=r;obtain⟨s,u,x,i,j,k,y⟩:=q;have c:(((w2.setCell ⟨N,0,none⟩ (vI lim)).setCell ⟨N,1,none⟩ (hdV hh)).setCell ⟨N,2,none⟩ (vS none 0 0)).heap[C]? =w2.heap[C]? :=by
  rw[heap_setCell_other _ _ _ _ ϣ,heap_setCell_other _ _ _ _ ϣ,heap_setCell_other _ _ _ _ ϣ]
 have e:=A6 d ⟨N,0,none⟩ (vI lim);have f:=A6 e ⟨N,1,none⟩ (hdV hh);refine⟨D3 (Nt (Nt (Nt (h.mono o) d _ _) e _ _) f _ _),?_,?_,?_,?_,A6 f _ _,?_,?_,?_,?_,?_,?_,A0 y c,n,m⟩
 ·go_simp
 ·go_simp
 ·go_simp
 ·go_simp
 ·exact(cOb (a:=⟨C,0,none⟩) c).trans s
 ·exact(cOb (a:=⟨C,1,none⟩) c).trans u
 ·exact(cOb (a:=⟨C,2,none⟩) c).trans x
 ·exact(AF (p:=⟨C,0,none⟩) c).trans i
 ·exact(AF (p:=⟨C,1,none⟩) c).trans j
 ·exact(AF (p:=⟨C,2,none⟩) c).trans k
theorem Acf{f d:World}{NB:Nat}{x:BX}{b:Buf}{o:Obj}(h:KSt W C NB base x b)(j:Ϝ W f)(k:(f.alloc o).grownBy d (Value.slice x.ra x.rs.length x.rc).ownBlock):
 d.cell? ⟨NB,2,none⟩=some (vS x.ra x.rs.length x.rc)/\d.frozen? ⟨NB,2,none⟩=false:=by
 have c:=h.below j;have m:=A2 c.ty;have i:d.heap[NB]? =f.heap[NB]? :=by
  rw[k.block NB Ϣ (λe=>tyAt_apart c.ty (Av c.ob.hds e.symm) Ϟ rfl)];exact Below.heap_alloc _ _ NB m
 exact⟨(cOb (a:=⟨NB,2,none⟩) i).trans c.c2,(AF (p:=⟨NB,2,none⟩) i).trans c.f2⟩
theorem Ll{x:BX}{b:Buf}(h:OB w base x b)(a:Ai w N 36)(k:Nat)(u:Value):OB (w.setCell ⟨N,k,none⟩ u) base x b:=
 ⟨by simp[World.setCell];exact h.low,Nt h.mem a k u,A4 h.hds (λg c=>heap_setCell_other _ _ _ _ (tyAt_apart (Av h.hds c) a Ϟ)),h.rlen,λi d=>Nt (h.runs i d) a k u,h.two⟩
theorem LQ{x:BX}{b:Buf}(h:OB w base x b)(a:Ai w N 36)(u0 u1 u2:Value):OB (((w.setCell ⟨N,0,none⟩ u0).setCell ⟨N,1,none⟩ u1).setCell ⟨N,2,none⟩ u2) base x b:=
 Ll (Ll (Ll h a _ _) (A6 a _ _) _ _) (A6 (A6 a _ _) _ _) _ _
theorem cell_one_new(w:World)(a:Value)(h:a.oneCell'=true)(t:TypeId):∀j u,[a][j]? =some u->(w.alloc (.cells #[a] t)).cell? ((⟨w,0,none⟩:Addr).add j)=some u:=by
 intro j u c;rw[C3]
 match j,c with
 |0,c=>simp at c;subst c;simp[go_sem]
 |(n+1),c=>simp at c
theorem Nu{e:TypeId}{s:Nat}{n:Nat}{d:List Value}(h:w.ownsRow base e s v (n+1) d):∃g c,v=vS (some ⟨g,0,none⟩) (n+1) c:=by
 rcases h.2 with⟨_,a⟩|⟨g,f,i,rfl,_⟩
 ·exact absurd a ϝ
 ·exact⟨_,_,rfl⟩
theorem X5(P:Ent->Bool)(l:List (List Ent)):(DK P l).length<=l.length:=by
 unfold DK;have:=length_filter_le (λr:List Ent=>decide (0<r.length)) (l.map (·.filter P));rwa[lMp]at this
theorem H8(F:FuncId)(eg:∀ar w,(callFunc F ar).run Tryz.prog w= .ok (.enter F ar) w)(J:Array Value)(P:Ent->Bool)(b:Buf)(x:BX)(w:World)(h:bufAt w b x)(hl:∀l∈partsB b,l.length<=100000)(hr:b.runs.length<=100000)(a6:∀y∈Ac b,y.row.length<=1000000)
 (H:∀e y a,ER a e y->y∈Ac b->Ϝ w a->Calls Tryz.prog F (#[e.val]++J) a λr w'=>r= .returned (.bool (P y))/\Ϝ a w'):
 Calls Tryz.prog 253 #[AZ b x,.func (.func F) #[] J] w λe w'=>(∃R,e= .returned (AZ (CY P b) R)/\OB w' w R (CY P b))/\Ϝ w w':=by
 obtain⟨i0,aw,a8,a9,ba⟩:=info_parts AcR;have HI:ϛ (Tryz.prog.info? 33=some i0/\i0.zero=some (vS none 0 0)/\i0.size=1/\i0.bytes=24):=⟨aw,a8,a9,ba⟩;clear aw a8 a9 ba;have ah:(partsB b).length=(x.m::x.rs).length:=by simp[partsB,h.rlen]
 have KM:ϛ (∀i a,i<(x.m::x.rs).length->Ϝ w a->CT 281 #[hdV ((x.m::x.rs).getD i ϰ).1,.func (.func F) #[] J] a λe w'=>(∃(hh:Hdr) (A:List EM),e= .returned (hdV hh)/\OE w' a (hdV hh) A (((partsB b).getD i ϰ).filter P))/\Ϝ a w'):=λi a hi M=>by
  have ay:(x.m::x.rs).getD i ϰ∈x.m::x.rs:=by rw[gDe,gEe hi];exact getElem_mem hi
  have a0:(partsB b).getD i ϰ∈partsB b:=by
   rw[gDe,gEe (by rw[ah];exact hi)];exact getElem_mem (by rw[ah];exact hi)
  have Z:ERs w ((x.m::x.rs).getD i ϰ).2 ((partsB b).getD i ϰ):=by
   cases i with
   |zero=>exact h.mem
   |succ i=>
    have bi:i<b.runs.length:=by rw[length_cons,h.rlen]at hi;omega
    simpa[partsB]using h.runs i bi
  have al:=h.len _ ay;have ax:∀y∈(partsB b).getD i ϰ,y∈Ac b:=λy hy=>mem_flatten.2 ⟨_,a0,hy⟩;obtain⟨⟨⟨z1,z2,z3⟩,zl⟩,hz⟩:∃z,(x.m::x.rs).getD i ϰ=z:=⟨_,rfl⟩;have aj:=h.ems _ ay;rw[hz]at Z al aj⊢;unfold hdV;dsimp only at Z al aj⊢;have e2:z2=((partsB b).getD i ϰ).length:=by rw[al.1,Z.1]
  subst e2;refine(TS F eg J P z1 z3 zl ((partsB b).getD i ϰ) a (hl _ a0) (Cr aj M) (Z.below M) (λy hy=>a6 y (ax y hy)) (λj w2 hj G=>H _ _ w2 (((Z.below M).below G).2 j hj) (ax _ (Bj hj)) (bT M G))).mono ?_;rintro e w' ⟨⟨v,A,rfl,I⟩,bh⟩;obtain⟨ad,cp,rfl⟩:=I.form;exact⟨⟨(ad,A.length,cp),A,rfl,I⟩,bh⟩
 have HB:=hqz h;have ao:=h.rlen;clear h H hl a6;obtain⟨m,q,⟨⟨c,d,f⟩,ml⟩,K⟩:=x;obtain⟨lim,ap,D⟩:=b;unfold AZ;dsimp only at KM HB ao hr⊢;obtain⟨n,hn⟩:∃n,K.length=n:=⟨_,rfl⟩;have HN:ϛ (K.length=n/\D.length=n):=⟨hn,by rw[<-ao,hn]⟩;have bn:n<=100000:=ϝ;rw[hn];clear hn ao hr ah;have K0:ϛ (∀a,Ϝ w a->CT 281 #[vS c d f,.func (.func F) #[] J] a λe w'=>(∃(hh:Hdr) (A:List EM),e= .returned (hdV hh)/\OE w' a (hdV hh) A (ap.filter P))/\Ϝ a w'):=λa M=>KM.o 0 a ϟ M;have e1:hdV (c,d,f)=vS c d f:=rfl;rw[e1];have V0:((w.alloc (.cells #[vI lim,vS c d f,vS m n q] 36)).alloc (.cells #[vI 0,vS none 0 0,vS none 0 0] 36)).cell? ⟨w,0,none⟩=some (vI lim):=ϡ;have V1:((w.alloc (.cells #[vI lim,vS c d f,vS m n q] 36)).alloc (.cells #[vI 0,vS none 0 0,vS none 0 0] 36)).cell? ⟨w,1,none⟩=some (vS c d f):=ϡ;have V2:((w.alloc (.cells #[vI lim,vS c d f,vS m n q] 36)).alloc (.cells #[vI 0,vS none 0 0,vS none 0 0] 36)).cell? ⟨w,2,none⟩=some (vS m n q):=ϡ;have R0:((w.alloc (.cells #[vI lim,vS c d f,vS m n q] 36)).alloc (.cells #[vI 0,vS none 0 0,vS none 0 0] 36)).cell? ⟨w+1,0,none⟩=some (vI 0):=ϡ;have R1:((w.alloc (.cells #[vI lim,vS c d f,vS m n q] 36)).alloc (.cells #[vI 0,vS none 0 0,vS none 0 0] 36)).cell? ⟨w+1,1,none⟩=some (vS none 0 0):=ϡ;have R2:((w.alloc (.cells #[vI lim,vS c d f,vS m n q] 36)).alloc (.cells #[vI 0,vS none 0 0,vS none 0 0] 36)).cell? ⟨w+1,2,none⟩=some (vS none 0 0):=ϡ;have G0:((w.alloc (.cells #[vI lim,vS c d f,vS m n q] 36)).alloc (.cells #[vI 0,vS none 0 0,vS none 0 0] 36)).frozen? ⟨w+1,0,none⟩=false:=ϡ;have G1:((w.alloc (.cells #[vI lim,vS c d f,vS m n q] 36)).alloc (.cells #[vI 0,vS none 0 0,vS none 0 0] 36)).frozen? ⟨w+1,1,none⟩=false:=ϡ;have G2:((w.alloc (.cells #[vI lim,vS c d f,vS m n q] 36)).alloc (.cells #[vI 0,vS none 0 0,vS none 0 0] 36)).frozen? ⟨w+1,2,none⟩=false:=ϡ
 have VT:Ai ((w.alloc (.cells #[vI lim,vS c d f,vS m n q] 36)).alloc (.cells #[vI 0,vS none 0 0,vS none 0 0] 36)) (w.heap.size+1) 36:=⟨_,_,by
  have h:=World.alloc_heap_new (w.alloc (.cells #[vI lim,vS c d f,vS m n q] 36)) (.cells #[vI 0,vS none 0 0,vS none 0 0] 36);rw[World.size_alloc]at h;exact h⟩
 have E:Ϝ w ((w.alloc (.cells #[vI lim,vS c d f,vS m n q] 36)).alloc (.cells #[vI 0,vS none 0 0,vS none 0 0] 36)):=by
  repeat (first|exact bR|(refine Below.alloc ?_ Ϥ _))
 have V9:((w.alloc (.cells #[vI lim,vS c d f,vS m n q] 36)).alloc (.cells #[vI 0,vS none 0 0,vS none 0 0] 36)).heap.size=w.heap.size+1+1:=ϟ;have ai:nbAt ((w.alloc (.cells #[vI lim,vS c d f,vS m n q] 36)).alloc (.cells #[vI 0,vS none 0 0,vS none 0 0] 36)) (w.heap.size+1):=⟨R0,R1,R2,G0,G1,G2,VT⟩;clear R0 R1 R2 G0 G1 G2 VT;go_enter func253,ntmps253;go_wp2;generalize ((w.alloc (.cells #[vI lim,vS c d f,vS m n q] 36)).alloc (.cells #[vI 0,vS none 0 0,vS none 0 0] 36))=V at *;refine wp_mono (Q:=Exit.then (λa' W'=> ∃(NB:Nat) (hh:Hdr) (A:List EM),a'={tmps:=#[.agg #[vI lim,vS c d f,vS m n q],.func (.func F) #[] J,.pointer (some ⟨w,0,none⟩),undef,.pointer (some ⟨w+1,0,none⟩),.pointer (some ⟨NB,0,none⟩),undef,undef,undef,.pointer (some ⟨w,0,none⟩),vI lim,.pointer (some ⟨w,1,none⟩),vS c d f,.func (.func F) #[] J,hdV hh,.agg #[vI lim,hdV hh,vS none 0 0],undef,undef,undef,undef,undef,undef,undef,undef,undef,undef,undef,undef,undef,undef,undef,undef,undef,undef,undef,undef,undef],defers:=[]}/\KSt W' (w.heap.size+1) NB w.heap.size ⟨none,0,(hh,A),[]⟩ ⟨lim,ap.filter P,[]⟩/\W'.cell? ⟨w,2,none⟩=some (vS m n q)/\Ϝ w W') (λ_ _ _=>False)) ?_ ?_
 ·go_region_law (go_simp;go_at_call 281;refine(K0.o _ (by first|exact E.drew|exact(E.alloc E.size _).drew|exact E|exact E.alloc E.size _|exact E.drew.alloc E.size _)).mono ?_;rintro e w2 ⟨⟨⟨Y,h2,h3⟩,A,rfl,I⟩,G⟩;unfold hdV;dsimp only;have k0:w2.cell? ⟨w,0,none⟩=some (vI lim):=cLz G ϡ;have k2:w2.cell? ⟨w,2,none⟩=some (vS m n q):=cLz G ϡ;have lw:w.heap.size<w2.heap.size:=bLt _ _ k0;first|(obtain⟨n0,n1,n2,o0,o1,o2,n3⟩:=Cl G (LP (Kg V));rw[V9]at n0 n1 n2 o0 o1 o2 n3)|(obtain⟨n0,n1,n2,o0,o1,o2,n3⟩:=Cl G (Kg V.drew);rw[show V.drew.heap.size=w.heap.size+1+1 from V9]at n0 n1 n2 o0 o1 o2 n3)|skip)
  all_goals first
   | (have aq:nbAt w2 (w.heap.size+1):=Cl G (LP ai)
      have aa:Ϝ w w2:=E.drew.trans (G.mono (by have:=E.size;exact this));exact⟨w2.heap.size,(Y,h2,h3),A,rfl,AdQ aq I (by have:=E.size;exact this) (Nat.le_succ _),ϡ,aa.alloc aa.size _⟩)
   | (have aq:nbAt w2 (w.heap.size+1):=Cl G (LP (Cl Ϩ ai))
      have au:Ϝ w (V.alloc (.cells #[vI 0,vS none 0 0,vS none 0 0] 36)).drew:=(E.alloc E.size _).drew;have aa:Ϝ w w2:=bT au G;exact⟨w.heap.size+1+1,(Y,h2,h3),A,rfl,AdR aq ⟨n0,n1,n2,o0,o1,o2,n3⟩ I au.size (Nat.le_succ _) (Nat.lt_succ_self _),ϡ,((aa.setCell ϣ _).setCell ϣ _).setCell ϣ _⟩)
 ·intro e a' W' hQ
  cases e with
  |normal=>
   obtain⟨NB,hh,A,rfl,s,bm,bg⟩:=hQ;have KR:ϛ (∀k a,k<n->Ϝ w a->CT 281 #[hdV ((K.map (·.1)).getD k (none,0,0)),.func (.func F) #[] J] a λe w'=>(∃(hh:Hdr) (A:List EM),e= .returned (hdV hh)/\OE w' a (hdV hh) A ((D.getD k ϰ).filter P))/\Ϝ a w'):=λk a hk M=>by
    have ak:k<K.length:=by rw[HN.o.1];exact hk
    have h:=KM.o (k+1) a (by simpa using ak) M;have e1:(K.map (·.1)).getD k (none,0,0)=(K.getD k ϰ).1:=by rw[gDe,getElem?_map,gEe ak,gDe,gEe ak];rfl
    rw[e1];exact h
   have HR:ϛ (FA w m (K.map (·.1))):=HB.o.hds;have HS:=hqz s;obtain⟨Y,h2,h3⟩:=hh;unfold hdV;dsimp only;clear KM K0 V0 V1 V2 E V9 ai s;go_wp2
   go_loopw [19] (λi wr=> ∃(k:Nat) (R:BX),k<=n/\i=vI k/\KSt wr (w.heap.size+1) NB w.heap.size R ⟨lim,ap.filter P,DK P (D.take k)⟩/\Ϝ w wr) (λi _=>n - (intOf i).toNat)
   case atStart=>exact⟨0,_,Nat.zero_le _,rfl,HS.o,bg⟩
   case round=>
    obtain⟨k,R,hk,rfl,s,T⟩:=hrel;have a4:=s.ob.rlen;dsimp only at a4;have a5:R.rs.length<=100000:=by
     have Y:=X5 P (D.take k);rw[length_take]at Y;omega
    have c0:=s.c0;have c1:=s.c1;have c2:=s.c2;have r0:=s.r0;have r1:=s.r1;have r2:=s.r2;have g0:=s.g0;have g1:=s.g1;have g2:=s.g2;have bo:=s.ne;obtain⟨ae,af,⟨⟨a1,a2,a3⟩,bk⟩,ag⟩:=R;have X:=hqz s;unfold hdV at c1;dsimp only at c0 c1 c2 a5;obtain⟨rn,ab⟩:=nM ag.length;have S:=hqz ab;rw[ab]at c2 a5;have bd:ϛ (wr.ownsRow w 33 1 (vS ae rn af) rn (ag.map λp=>hdV p.1)):=by
     have h:=s.ob.hds;dsimp only at h;rw[ab]at h;exact h
    clear s a4 ab;have a7:=T.size;have lC:w.heap.size+1<wr.heap.size:=bLt _ _ r0;have lN:NB<wr.heap.size:=bLt _ _ c0;by_cases am:k<n
    ·obtain⟨b,o,e,x1⟩:=HR.o k (by rw[lMp,HN.o.1];exact am);subst e;have q1:=cLz T x1;have KQ:ϛ (CT 281 #[hdV ((K.map (·.1)).getD k (none,0,0)),.func (.func F) #[] J] wr λe w'=>(∃(hh:Hdr) (A:List EM),e= .returned (hdV hh)/\OE w' wr (hdV hh) A ((D.getD k ϰ).filter P))/\Ϝ wr w'):=KR.o k wr am T;have HF:ϛ (DK P (D.take (k+1))=DK P (D.take k)++(if 0<((D.getD k ϰ).filter P).length then [(D.getD k ϰ).filter P]else [])):=TT (by rw[HN.o.2];exact am);obtain⟨⟨z1,z2,z3⟩,hz⟩:∃z,(K.map (·.1)).getD k (none,0,0)=z:=⟨_,rfl⟩;rw[hz]at q1 KQ;unfold hdV at q1;rw[show hdV (z1,z2,z3)=vS z1 z2 z3 from rfl]at KQ;dsimp only at q1;clear hz x1;have i1:(0:Int)<=(k:Int):=ϝ;have i2:(k:Int)<(n:Int):=ϝ;obtain⟨L,hL⟩:=nM ((D.getD k ϰ).filter P);rw[hL]at KQ HF;clear hL;go_wp2_with fail;refine KQ.o.mono ?_;rintro e a ⟨⟨⟨y1,y2,y3⟩,be,rfl,I⟩,O⟩;unfold hdV;dsimp only;have bc:=hqz I;have ac:y2=L.length:=by
      obtain⟨ad,cp,hf⟩:=I.form;unfold hdV at hf;injection hf with _ e2 _
      exact Eq.trans e2 I.len
     clear I;by_cases h0:0<y2
     ·have HE:ϛ (DK P (D.take (k+1))=DK P (D.take k)++[L]):=by show _=_;rw[HF.o,if_pos (by rw[<-ac];exact h0)]
      clear ac;have d2:=cLz O c2;have br:NB<a.heap.size:=Nat.lt_of_lt_of_le lN O.size;have bb:ϛ (a.ownsRow w 33 1 (vS ae rn af) rn (ag.map λp=>hdV p.1)):=own_below bd.o O;have bq:w.heap.size<=a.heap.size:=Nat.le_trans a7 O.size;go_wp2_with (at_builtin;refine wpList_append_own _ rfl (.tmp 30) (.tmp 32) 34 rfl w.heap.size 33 i0 (vS none 0 0) 1 24 underlying34 HI.o.1 HI.o.2.1 HI.o.2.2.1 HI.o.2.2.2 rfl Ϟ _ _ _ rfl (World.ownsRow.alloc bb.o _) ⟨a,0,none⟩ 1 1 [vS y1 y2 y3] rfl rfl (cell_one_new _ _ rfl _) (by intro u hu;simp at hu;rcases hu with rfl;rfl) ϧ ϝ Ϣ ?_;intro v3 w3 az av bp;have an:=Acf X.o O (by dsimp only;rw[S.o];exact av);dsimp only at an;rw[S.o]at an;obtain⟨p2,pf⟩:=an;obtain⟨g3,c3,bj⟩:=Nu az;subst bj);have U:=Aae (g:=g3) (cap2:=c3) (p:=((y1,y2,y3),be)) (l:=L) X.o O bc.o (by dsimp only;rw[S.o];exact az) (by dsimp only;rw[S.o];exact av);unfold BX.more Buf.more at U;dsimp only at U;rw[S.o]at U;go_roundw
      case rel=>exact⟨k+1,_,ϝ,by go_num,by rw[HE.o];exact U.1,T.trans U.2⟩
      case measure=>simp[intOf];omega
     ·have HE:ϛ (DK P (D.take (k+1))=DK P (D.take k)):=by show _=_;rw[HF.o,if_neg (by rw[<-ac];exact h0),append_nil]
      clear ac;go_wp2;go_roundw
      case rel=>exact⟨k+1,_,ϝ,by go_num,by rw[HE.o];exact X.o.below O,T.trans (O.mono a7)⟩
      case measure=>simp[intOf];omega
    ·have HT:ϛ (D.take k=D):=take_of_length_le (by rw[HN.o.2];omega);go_wp2;refine bodyPost_ret (v:=.agg #[vI lim,vS a1 a2 a3,vS ae rn af]) (by simp[results,results253,go_sem,r0,r1,r2,c0,c1,c2]) rfl ⟨⟨⟨ae,af,((a1,a2,a3),bk),ag⟩,?_,?_⟩,?_⟩
     ·unfold CY hdV;dsimp only;rw[S.o]
     ·have hh:=X.o.ob;rw[HT.o]at hh;exact LQ hh X.o.rt _ _ _
     ·exact((T.setCell ϣ _).setCell ϣ _).setCell ϣ _
  |_=>exact hQ.elim
theorem Ct{x:BX}{b:Buf}(h:OB w base x b)(a:base'<=base):OB w base' x b:=
 ⟨Nat.le_trans a h.low,h.mem.mono a,Di h.hds a,h.rlen,λi c=>(h.runs i c).mono a,h.two⟩
theorem Acg{b:Buf}(h:FV b=0):BG b.lim 1 64=true/\countB b=true/\FI b=true:=by
 unfold FV at h;by_cases a:BG b.lim 1 64=false
 ·rw[if_pos a]at h;cases h
 ·rw[if_neg a]at h;by_cases c:countB b=false
  ·rw[if_pos c]at h;cases h
  ·rw[if_neg c]at h;by_cases d:FI b=false
   ·rw[if_pos d]at h;cases h
   ·exact⟨by simpa using a,by simpa using c,by simpa using d⟩
theorem Ach{b:Buf}(h:l∈partsB b):l.length<=(Ac b).length:=by
 unfold Ac;rw[length_flatten];generalize partsB b=p at h
 induction p with
 |nil=>cases h
 |cons x p ih=>
  rw[map_cons,sum_cons];rcases mem_cons.1 h with rfl|h
  ·omega
  ·have:=ih h;omega
theorem Aci(l:List (List Ent))(h:∀r∈l,0<r.length):l.length<=l.flatten.length:=by
 induction l with
 |nil=>simp
 |cons x l ih=>
  rw[flatten_cons,lAp,length_cons];have:=h x (mem_cons_self ..);have:=ih (λr a=>h r (mem_cons_of_mem _ a));omega
structure okB(b:Buf):Prop where
 lim:1<=b.lim/\b.lim<=64
 mem:(b.mem.length:Int)<=b.lim
 all:(Ac b).length<=4096
 fine:∀l∈partsB b,∀y∈l,Eh y
 rise:∀l∈partsB b,∀i,i+1<l.length->ltP (l.getD i ϰ) (l.getD (i+1) ϰ)
 full:∀r∈b.runs,0<r.length
 once:((Ac b).map Bd).Nodup
theorem FU{b:Buf}(h:FV b=0):okB b:=by
 obtain⟨o,f,c⟩:=Acg h;unfold countB at f;unfold FI at c;simp only[Bool.and_eq_true,decide_eq_true_eq]at f c;have k:=A9.1 c.1;have n:∀l∈partsB b,∀i,i<l.length->Fp l i=true:=λl d i a=>by
  obtain⟨j,m,rfl⟩:=getElem_of_mem d;have:=k j m;have e:(partsB b).getD j ϰ=(partsB b)[j]:=by rw[gDe,gEe m];rfl
  rw[e]at this;exact A9.1 this i a
 refine⟨(BN _ _ _).1 o,f.1,f.2,λl d y hy=>?_,λl d i a=>?_,λr k=>?_,?_⟩
 ·obtain⟨i,a,rfl⟩:=getElem_of_mem hy;have:=n l d i a;unfold Fp at this;simp only[Bool.and_eq_true]at this;have h:=O6.1 this.1;rw[gDe,gEe a]at h;exact h
 ·have:=n l d (i+1) a;unfold Fp at this;simp only[Bool.and_eq_true,Bool.or_eq_true,decide_eq_true_eq]at this;rcases this.2 with h|h
  ·omega
  ·exact h
 ·obtain⟨i,a,rfl⟩:=getElem_of_mem k;have:=A9.1 c.2.1 i a;have e:b.runs.getD i ϰ=b.runs[i]:=by rw[gDe,gEe a];rfl
  rw[e]at this;simpa using this
 ·have:=c.2.2;unfold Ib at this;exact of_decide_eq_true this
theorem okB.small{b:Buf}(h:okB b):(∀l∈partsB b,l.length<=100000)/\b.runs.length<=100000/\∀y∈Ac b,y.row.length<=1000000:=by
 have f:=h.all;refine⟨λl c=>by have:=Ach c;omega,?_,λy hy=>?_⟩
 ·have:=Aci b.runs h.full;have e:(Ac b).length=b.mem.length+b.runs.flatten.length:=by unfold Ac partsB;simp
  omega
 ·obtain⟨l,c,hy⟩:=mem_flatten.1 hy;have a:=(h.fine l c y hy).2.1;unfold A5 at a;by_cases d:8<y.row.length
  ·rw[if_pos d]at a;cases a
  ·omega
theorem GR(e:EM)(w:World):Calls Tryz.prog 254 #[e.val] w λr w'=>r= .returned (.bool true)/\Ϝ w w':=by
 obtain⟨f,j,i,⟨a,c,d⟩,h⟩:=e;unfold EM.val hdV;dsimp only;go_enter func254,ntmps254;go_wp2;go_ret;refine⟨rfl,?_⟩
 repeat (first|exact bR|(refine Below.alloc ?_ Ϥ _))
theorem X6(e:EM)(a:Int)(d:Nat)(w:World)(i:w.cell? ⟨d,0,none⟩=some (vI a)):
 Calls Tryz.prog 347 #[e.val,.pointer (some ⟨d,0,none⟩)] w λr w'=>r= .returned (.bool (decide (a<e.time)))/\Ϝ w w':=by
 obtain⟨n,f,s,⟨j,k,m⟩,q⟩:=e;unfold EM.val hdV;dsimp only;have o:d<w.heap.size:=bLt _ _ i;by_cases h:a<f
 ·have c:ϛ (decide (a<f)=true):=decide_eq_true h;go_enter func347,ntmps347;go_wp2;go_ret;exact⟨Aa (by rw[c.o]),Ϩ⟩
 ·have c:ϛ (decide (a<f)=false):=decide_eq_false h;go_enter func347,ntmps347;go_wp2;go_ret;exact⟨Aa (by rw[c.o]),Ϩ⟩
def Ec(to:Int)(y:Ent):Bool:=decide (to<y.time)
theorem Acj(b:Buf)(x:BX)(a:Int)(w:World)(h:bufAt w b x)(S:∀y∈Ac b,wfE y/\wfP (Bd y))(R:(Ac b).length<=4611686018427387904)(J:FV b=0):
 Calls Tryz.prog 343 #[AZ b x,vI a] w λe w'=>(∃o,e= .returned (.tuple #[AZ (CY (Ec a) b) o,vI 0])/\OB w' w o (CY (Ec a) b))/\Ϝ w w':=by
 have F:ϛ (∀c,Ϝ w c->CT 100 #[AZ b x] c λe w'=>e= .returned (vI 0)/\Ϝ c w'):=λc H=>by
  have:=AH b x c (An h H) S R;rwa[J]at this
 have z:=(FU J).small;have q:ϛ (∀c,Ϝ w c->c.cell? ⟨w+1,0,none⟩=some (vI a)->CT 253 #[AZ b x,.func (.func 347) #[] #[.pointer (some ⟨w+1,0,none⟩)]] c λe w'=>(∃o,e= .returned (AZ (CY (Ec a) b) o)/\OB w' c o (CY (Ec a) b))/\Ϝ c w'):=λc H Z=>
  H8 347 (enters_of func347 Ϡ rfl) #[.pointer (some ⟨w+1,0,none⟩)] (Ec a) b x c (An h H) z.1 z.2.1 z.2.2 (λe y w2 aa _ d=>by
   have:=X6 e a (w.heap.size+1) w2 (cLz d Z);rw[aa.time]at this;exact this)
 clear h S R J z;obtain⟨K,P⟩:=nM (CY (Ec a) b);rw[P]at q⊢;clear P;obtain⟨k,m,⟨⟨f,i,j⟩,ml⟩,L⟩:=x;obtain⟨lim,ac,ae⟩:=b;rw[show AZ ⟨lim,ac,ae⟩ ⟨k,m,((f,i,j),ml),L⟩= .agg #[vI lim,vS f i j,vS k L.length m]from rfl]at F q⊢;obtain⟨n,Q⟩:∃n,L.length=n:=⟨_,rfl⟩;rw[Q]at F q⊢;clear Q;have M:Ϝ w (((w.alloc (.cells #[vI lim,vS f i j,vS k n m] 36)).alloc (.cells #[vI a] 3)).alloc (.cells #[vI 0,vS none 0 0,vS none 0 0] 36)):=by
  repeat (first|exact bR|(refine Below.alloc ?_ Ϥ _))
 have G:=Kg ((w.alloc (.cells #[vI lim,vS f i j,vS k n m] 36)).alloc (.cells #[vI a] 3));rw[World.size_alloc,World.size_alloc]at G;have V:ϛ (nbAt (((w.alloc (.cells #[vI lim,vS f i j,vS k n m] 36)).alloc (.cells #[vI a] 3)).alloc (.cells #[vI 0,vS none 0 0,vS none 0 0] 36)) (w.heap.size+1+1)):=G;clear G;go_enter func343,ntmps343;go_wp2_with (first
  |(go_at_call 100;refine(F.o _ M).mono ?_;rintro e w2 ⟨rfl,d⟩;have I:Ϝ w w2:=bT M d;have ad:=Cl d V.o;have k0:w2.cell? ⟨w.heap.size,0,none⟩=some (vI lim):=cLz d ϡ;have k1:w2.cell? ⟨w.heap.size,1,none⟩=some (vS f i j):=cLz d ϡ;have k2:w2.cell? ⟨w.heap.size,2,none⟩=some (vS k n m):=cLz d ϡ;have k3:w2.cell? ⟨w.heap.size+1,0,none⟩=some (vI a):=cLz d ϡ)
  |(go_at_call 253;refine(q.o _ I k3).mono ?_;rintro e U ⟨⟨⟨A,D,⟨⟨r,s,u⟩,T⟩,E⟩,rfl,ab⟩,O⟩;rw[show AZ K ⟨A,D,((r,s,u),T),E⟩= .agg #[vI K.lim,vS r s u,vS A E.length D]from rfl];have X:ϛ (nbAt U (w.heap.size+1+1)):=Cl O ad;obtain⟨n0,n1,n2,o0,o1,o2,n3⟩:=X.o))
 have Y:Ϝ w U:=bT I O;refine bodyPost_ret (v:=.tuple #[.agg #[vI K.lim,vS r s u,vS A E.length D],vI 0]) (by simp[results,results343,go_sem,n0,n1,n2]) rfl ⟨⟨⟨A,D,((r,s,u),T),E⟩,rfl,?_⟩,((Y.setCell ϣ _).setCell ϣ _).setCell ϣ _⟩;exact LQ (Ct ab I.size) n3 _ _ _
end bf
namespace ch
open vl
variable {w w' : World} {base : Nat} {v : Value} {out : List Cnt}
def VO(w:World)(base:Nat)(v:Value)(out:List Cnt):Prop:=∃l:List (Value×Int),l.length=out.length/\w.ownsRow base 83 2 v l.length (flat l)/\∀i,i<out.length->
 (l.getD i (.bool false,0)).2=(out.getD i ϰ).n/\∃ad cap,(l.getD i (.bool false,0)).1=vS ad (out.getD i ϰ).r.length cap/\AA w base (vS ad (out.getD i ϰ).r.length cap) (out.getD i ϰ).r
theorem AdS{C:Nat}(h:VS w C base v out):VO w base v out:=by
 obtain⟨l,f,j,k⟩:=h.rows;refine⟨l,f,j,λi e=>?_⟩;obtain⟨a,m,n,c,d,_⟩:=k i e;exact⟨a,m,n,c,d⟩
theorem VO.mono{a c:Nat}(h:VO w a v out)(d:c<=a):VO w c v out:=by
 obtain⟨l,m,n,o⟩:=h;refine⟨l,m,World.ownsRow.mono n d,λi k=>?_⟩;obtain⟨e,q,r,f,j⟩:=o i k;exact⟨e,q,r,f,World.ownsRow.mono j d⟩
theorem VO.below(h:VO w base v out)(a:Ϝ w w'):VO w' base v out:=by
 obtain⟨l,j,k,m⟩:=h;refine⟨l,j,own_below k a,λi f=>?_⟩;obtain⟨c,n,o,d,e⟩:=m i f;exact⟨c,n,o,d,own_below e a⟩
theorem VO.other(h:VO w base v out)(d:∀g,bf.Ai w g 83\/bf.Ai w g 119->w'.heap[g]? =w.heap[g]?):VO w' base v out:=by
 obtain⟨l,m,e,n⟩:=h;refine⟨l,m,A4 e (λg a=>d g (.inl (bf.Av e a))),λi k=>?_⟩;obtain⟨f,o,q,j,c⟩:=n i k;exact⟨f,o,q,j,A4 c (λg a=>d g (.inr (bf.Av c a)))⟩
theorem VO.at{ad:Option Addr}{cap n:Nat}(h:VO w base (vS ad n cap) out):viewAt w ad out:=by
 intro i q;obtain⟨l,s,e,u⟩:=h;obtain⟨j,x,y,k,m⟩:=u i q;rcases e.2 with⟨f,o⟩|⟨g,z,A,f,D,F,E⟩
 ·rw[s]at o;omega
 ·injection f with ha _ _
  subst ha;have d:=World.ownsRow.cells e (g:=g) rfl;have r:i<l.length:=ϝ;have a:=Abi l i r;have c:=addr_add g;refine⟨g,0,x,y,rfl,?_,Fg m,?_⟩
  ·have:=d _ _ a.1;rw[c,k]at this;exact this
  ·have:=d _ _ a.2;rw[c,j]at this;exact this
theorem VO.nil(h:base<=w.heap.size):VO w base (vS none 0 0) []:=⟨[],rfl,World.ownsRow_nil _ _ _ _,λi a=>absurd a (Nat.not_lt_zero i)⟩
theorem X7(B m:Nat)(out:List Cnt)(w:World)(j:Dr w B m (AJ out))(E:rising (AJ out))(D:∀c∈out,rowOk c.r)(A:out.length<=100000):
 Calls Tryz.prog 165 #[.map (some B)] w λe w'=>(∃d f,e= .returned (vS d out.length f)/\VO w' w.heap.size (vS d out.length f) out)/\Ϝ w w':=by
 obtain⟨S,h,H,I,J⟩:=info_parts Lv;obtain⟨a,R,r,z⟩:=run_make_own (P:=Tryz.prog) w w.heap.size 40 83 S (.agg #[vS none 0 0,vI 0]) 2 underlying40 h H I .i64 .i64 out.length (by rw[J];omega) ϧ nR;have o:Ϝ w a:=bR.grown z nR (λk Q=>by cases Q);have V:w.heap.size<a.heap.size:=(AE r (g:=w.heap.size) rfl).2;have T:=LJ j;have x:ϛ (VS (a.alloc (.cells #[vS (some ⟨w,0,none⟩) 0 out.length] 40)) a.heap.size w.heap.size (vS (some ⟨w,0,none⟩) 0 out.length) []):=by
  refine⟨ϡ,ϡ,λe=>by have:=ob e;omega,Ϣ,[],rfl,own_below r Ϩ,λi h=>absurd h (Nat.not_lt_zero i)⟩
 have u:ϛ (Dr (a.alloc (.cells #[vS (some ⟨w,0,none⟩) 0 out.length] 40)) B m (AJ out)):=D6 (Cd j o) _;have y:ϛ (CT 229 #[.map (some B),.func (.func 230) #[] #[.pointer (some ⟨a,0,none⟩)]] (a.alloc (.cells #[vS (some ⟨w,0,none⟩) 0 out.length] 40))
  λe w'=>e= .returned (.tuple #[])/\∃v,VS w' a.heap.size w.heap.size v out/\fr a.heap.size (Value.slice (some ⟨w,0,none⟩) 0 out.length).ownBlock (a.alloc (.cells #[vS (some ⟨w,0,none⟩) 0 out.length] 40)) w'):=
  Wj B m out a.heap.size w.heap.size _ _ u.o E D A x.o ϝ (λe=>by have:=ob e;omega)
 have K:=hqz j;have F:ϛ (Maps.size (toD (AJ out))=out.length):=by show Maps.size (toD (AJ out))=out.length;rw[Jw,J3]
 obtain⟨n,q⟩:∃n,out.length=n:=⟨_,rfl⟩;rw[q]at R y F A⊢;have L:=hqz q;clear h H I J r z j E D x u q;go_enter func165,ntmps165;go_wp2_with (first
  |(at_len;refine wpList_len_own _ rfl (.tmp 4) 223 rfl 9 3 underlying223 _ B m _ rfl K.o ?_;rw[F.o])
  |(go_at_call 229;refine y.o.mono ?_;rintro e w2 ⟨rfl,v,s,O⟩;have U:=s.cell))
 obtain⟨d,f,G⟩:=Ado s;rw[L.o]at G;subst G;go_ret;exact⟨⟨d,f,rfl,AdS s⟩,YC (o.alloc o.size _) O ϝ (λb M=>by have:=ob M;omega) Ϣ⟩
def Sg(base:Nat)(v:List Cnt)(l:List Chg)(e:Ending)(w':World):Prop:=
 (Ar v≠0/\e= .returned (.tuple #[vS none 0 0,vI 0,vI (Ar v)]))\/
 (Ar v=0/\AW l≠0/\e= .returned (.tuple #[vS none 0 0,vI 0,vI (AW l)]))\/
 (Ar v=0/\AW l=0/\∃k:Nat,k<l.length/\(∀i,i<k->Ko (AJ v) l i=0)/\Ko (AJ v) l k≠0/\e= .returned (.tuple #[vS none 0 0,vI k,vI (Ko (AJ v) l k)]))\/
 (Ar v=0/\AW l=0/\(∀i,i<l.length->Ko (AJ v) l i=0)/\∃out ad cap,AJ out=atK (AJ v) l l.length/\DV out/\BJ out/\e= .returned (.tuple #[vS ad out.length cap,vI 0,vI 0])/\VO w' base (vS ad out.length cap) out)
theorem X8(a c:Option Addr)(ca cc:Nat)(v:List Cnt)(l:List Chg)(w:World)(hv:viewAt w a v)(ay:BJ v)(ba:v.length<=9223372036854775807)(hc:Fh w c l)(Q:Fi l)(a8:l.length<=9223372036854775807):
 Calls Tryz.prog 98 #[vS a v.length ca,vS c l.length cc] w λe w'=>Sg w.heap.size v l e w'/\Ϝ w w':=by
 have Y:=Mq a ca v w hv ay ba;have KK:=hIz (λ(R:World) (hb:Ϝ w R)=>Uj c cc l R (J4 hc hb) Q a8);have HC:=hqz hc;clear hc hv;obtain⟨m,O⟩:∃m,v.length=m:=⟨_,rfl⟩;have HM:=hqz O;obtain⟨n,P⟩:∃n,l.length=n:=⟨_,rfl⟩;have s:=hqz P;rw[O]at Y;rw[P]at KK;rw[O,P];clear O P;go_enter func98,ntmps98;go_wp2_with fail;refine Y.mono ?_;rintro e R ⟨af,Z⟩;rcases af with⟨y,aw,B,rfl,hB,F⟩|⟨y,rfl⟩
 ·have E:ϛ (Ar v=0):=y;have am:ϛ (DV v):=aw;have f:=hqz F;clear y aw F;go_wp2_with fail;refine(KK.o R Z).mono ?_;rintro e w2 ⟨af,ap⟩;have ax:Ϝ w w2:=bT Z ap;rcases af with⟨u,au,ad,kc,rfl,H⟩|⟨u,rfl⟩
  ·have J:ϛ (AW l=0):=u;have K:ϛ (Cx l):=au;have a2:=hqz H;have a0:ϛ (Dr w2 B v.length (AJ v)):=Cd f.o ap;have HG:ϛ (good (AJ v)):=XY ay am.o;have bg:m<=4096:=by rw[<-HM.o];exact am.o.1
   have bh:n<=4096:=by rw[<-s.o];exact K.o.1
   rw[s.o];clear u au H f Y;go_wp2
   go_loopw [31] (λi wr=> ∃k:Nat,k<=n/\i=vI k/\Dr wr B (m+k) (atK (AJ v) l k)/\Ϝ w wr/\Gx wr ad l/\(∀i,i<k->Ko (AJ v) l i=0)) (λi _=>n - (intOf i).toNat)
   case atStart=>exact⟨0,ϝ,rfl,by rw[<-HM.o];exact a0.o,ax,a2.o,λi M=>absurd M (Nat.not_lt_zero i)⟩
   case round=>
    obtain⟨k,hk,rfl,F,j,H,ao⟩:=hrel;have f:=hqz F;have aj:=hqz H;have S:=hqz ao;clear F H ao;by_cases a9:k<n
    ·have G:k<l.length:=by rw[s.o];exact a9
     obtain⟨b,o,ra,rc,e,x1,_,_⟩:=HC.o k G;subst e;have q1:=cLz j x1;obtain⟨g,e,q2⟩:=aj.o k G;subst e;have U:ϛ (rowOk (l.getD k ϰ).r):=Vy Q K.o k G;have A:ϛ (good (atK (AJ v) l k)):=Vz HG.o Q K.o k ϝ;have D:ϛ (atK (AJ v) l (k+1)=SS (atK (AJ v) l k) (encR (l.getD k ϰ).r) (Ep (l.getD k ϰ).k)):=S0 (AJ v) l k G;have z:ϛ (Ko (AJ v) l k=Aba (atK (AJ v) l k) (encR (l.getD k ϰ).r) (Ep (l.getD k ϰ).k)):=rfl;obtain⟨⟨I,r⟩,ar⟩:∃c,l.getD k ϰ=c:=⟨_,rfl⟩;rw[ar]at q1 q2 U D z;dsimp only at q1 q2 U D z;clear x1 ar;obtain⟨q,ab⟩:∃x,(⟨(encR r).toArray⟩:ByteArray)=x:=⟨_,rfl⟩;have ai:ϛ (encR r=q.data.toList):=by show encR r=q.data.toList;rw[<-ab]
     have a1:ϛ (q.size<=maxLen):=by
      show q.size<=maxLen;rw[<-AL,<-ai.o];exact Ac4 U.o
     rw[ab]at q2;rw[ai.o]at D z;clear ab;have i1:(0:Int)<=(k:Int):=ϝ;have i2:(k:Int)<(n:Int):=ϝ;have a5:=Aa2 A.o q.data.toList;have bb:=Ac2 I;have a6:=A.o.len;have X:ϛ (∀w',Dr w' B (m+k) (atK (AJ v) l k)->CT 163 #[.map (some B),.string q,vI (Ep I)] w' λe az=>e= .returned (vI (Ko (AJ v) l k))/\Dr az B (m+k+1) (atK (AJ v) l (k+1))/\w'.grownBy az (some B)):=λw' h=>by
      rw[D.o,z.o];exact Abb B (m+k) _ q (Ep I) w' h a1.o ϧ ϝ ϝ ϝ ϝ ϝ
     clear D z a5 bb a6;obtain⟨er,aa⟩:∃x,Ko (AJ v) l k=x:=⟨_,rfl⟩;rw[aa]at X;have T:=hqz aa;clear aa;by_cases e0:er=0
     ·subst e0;go_wp2_with (first
       |(go_at_call 164;refine(QH I _).mono ?_;rintro e wa ⟨rfl,rfl⟩)
       |(go_at_call 163;refine(X.o _ f.o).mono ?_;rintro e wb ⟨rfl,aq,L⟩))
      go_roundw
      case rel=>exact⟨k+1,ϝ,by go_num,aq,j.grown L j.size (λx d=>by cases d;exact hB),Qp aj.o f.o L,λi M=>by
       rcases Nat.lt_or_ge i k with h|h
       ·exact S.o i h
       ·rw[show i=k by omega];exact T.o⟩
      case measure=>simp[intOf];omega
     ·have be:(er==0)=false:=by simpa using e0
      go_wp2_with (first
       |(go_at_call 164;refine(QH I _).mono ?_;rintro e wa ⟨rfl,rfl⟩)
       |(go_at_call 163;refine(X.o _ f.o).mono ?_;rintro e wb ⟨rfl,aq,L⟩))
      go_ret3
      exact⟨.inr (.inr (.inl ⟨E.o,J.o,k,G,S.o,by rw[T.o];exact e0,Aa6 rfl T.o.symm⟩)),j.grown L j.size (λx d=>by cases d;exact hB)⟩
    ·have a7:k=n:=ϝ;have A:ϛ (good (atK (AJ v) l k)):=Vz HG.o Q K.o k (by rw[s.o];exact hk);obtain⟨out,ac,ae⟩:=XW A.o.key;have ak:=hqz ac;have ah:ϛ (good (AJ out)):=by show good (AJ out);rw[ac];exact A.o
     have ag:=XX ah.o ae;have bi:=ag.1.1;have KV:=X7 B (m+k) out wr (by rw[ak.o];exact f.o) ah.o.up ae ϝ;have an:=hqz ag;clear ag ac ae;obtain⟨ol,av⟩:∃x,out.length=x:=⟨_,rfl⟩;rw[av]at KV;have al:=hqz av;go_wp2_with (go_at_call 165;refine KV.mono ?_;rintro e w9 ⟨⟨oa,oc,rfl,bc⟩,a3⟩)
     go_ret3
     exact⟨.inr (.inr (.inr ⟨E.o,J.o,λi M=>S.o i (by rw[s.o]at M;omega),out,oa,oc,by rw[ak.o,a7,s.o],an.o.1,an.o.2,Ac3 al.o.symm,(by rw[al.o];exact bc.mono j.size)⟩)),bT j a3⟩
  ·have a4:(AW l==0)=false:=by simpa using u
   have J:=hqz u;clear u;obtain⟨x,d⟩:∃x,AW l=x:=⟨_,rfl⟩;have V:=hqz d;rw[d]at a4⊢;clear d;go_wp2
   go_ret3
   exact⟨.inr (.inl ⟨E.o,J.o,Aa6 rfl V.o.symm⟩),ax⟩
 ·have bd:(Ar v==0)=false:=by simpa using y
  have E:=hqz y;clear y;obtain⟨x,d⟩:∃x,Ar v=x:=⟨_,rfl⟩;have V:=hqz d;rw[d]at bd⊢;clear d;go_wp2
  go_ret3
  exact⟨.inl ⟨E.o,Aa6 rfl V.o.symm⟩,Z⟩
end ch
end Go.Proofs.YtfkihidbnfkbaaaGreatDoor
