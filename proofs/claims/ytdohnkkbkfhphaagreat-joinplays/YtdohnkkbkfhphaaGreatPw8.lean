import Derived.Test.YtdohnkkbkfhphaaGreatPw7
set_option linter.all false
set_option maxHeartbeats 8000000
open Go.ChangeShapes Go.WideShapes Go.ChangeAt Go.RowKit List
open Inhabited renaming default->ϰ
namespace Go.Proofs.YtdohnkkbkfhphaaGreat
open Go.Proofs.Tryz
namespace bf
open vl
variable {W w w' : World} {l : List Ent} {C NB b base cap2 g : Nat} {t : TypeId} {v : Value} {p : Part}
theorem Fh(base:Nat)(t h e:TypeId)(i:TypeInfo)(size c:Nat)(ht:Tryz.prog.underlying t=some (.slice e))(a:Tryz.prog.info? e=some i)
 (v:Value) (n:Nat) (j:List Value) (f:w.ownsRow base e size v n j):(Builtin.append_ #[t,t] h #[v,vS none 0 c]).run Tryz.prog w= .ok v w:=by
 rcases f.2 with⟨rfl,rfl⟩|⟨g,k,m,rfl,_,_,d,_⟩
 ·simp[Builtin.append_,run_underlying ht,sizeOf,typeInfo,a,Builtin.lenOf,Builtin.firstCells]
 ·simp[Builtin.append_,run_underlying ht,sizeOf,typeInfo,a,Builtin.lenOf,Builtin.firstCells,d,storeCells]
theorem Du{d:Array Oper}{rest:List Oper}{o:Oper}{a:Act}{Q:Exit->Act->World->Prop}(k:o.guard=none)(s x:Operand)(t:TypeId)
 (q:o.op= .call {callee:=.builtin .append,args:=#[s,x],argTypes:=#[t,t]}) (base:Nat) (e:TypeId) (i:TypeInfo) (size c:Nat) (ht:Tryz.prog.underlying t=some (.slice e)) (m:Tryz.prog.info? e=some i)
 (v:Value) (n:Nat) (f:List Value) (y:a.eval s=v) (r:w.ownsRow base e size v n f) (z:a.eval x=vS none 0 c)
 (h:wpList Tryz.prog d Q rest (a.put o.dst v) w):wpList Tryz.prog d Q (o::rest) a w:=by
 refine wpList_plain k λK j=>?_;have u:=Fh (w:=w) base t o.type e i size c ht m v n f r;unfold Oper.wp;simp[execOp,q,resolve,invoke,builtin,y,z,u,Result.andThen];exact j _ _ h
theorem TW(h:w.grownBy w' none):Ϟ w w':=bR.grown h nR (λb a=>by cases a)
theorem GC(e:EM)(x:Ent)(w:World)(h:ER w e x)(K:x.row.length<=1000000):
 Calls Tryz.prog 114 #[e.val] w λr w'=>(∃y c,r= .returned (e.to (y,x.row.length,c)).val/\A4 w' w (vS y x.row.length c) x.row)/\Ϟ w w':=by
 obtain⟨A,hi,ab,ac,ae⟩:=info_parts Tryz.infoV;have D:ϝ (Tryz.prog.info? 103=some A/\A.zero=some (.agg #[vI 0,vI 0,.string ⟨#[]⟩])/\A.size=3/\A.bytes=32):=⟨hi,ab,ac,ae⟩;clear hi ab ac ae;obtain⟨d,k,i,⟨m,n1,a⟩,f⟩:=e;have z:=h.row;have H:=h.len;dsimp only at z H;subst H;unfold EM.val EM.to hdV;dsimp only;obtain⟨r,hr⟩:=nM x.row;rw[hr]at z K⊢;clear h hr;obtain⟨n,F⟩:∃n,r.length=n:=⟨_,rfl⟩;have E:=hV0 F;have O:((w.alloc (.cells #[.string d,vI k,vI i,vS m r.length a,.bool f] 63)).alloc (.cells #[.string ⟨#[]⟩,vI 0,vI 0,vS none 0 0,.bool false] 63)).cell? ⟨w,0,none⟩=some (.string d):=ϣ;have P:((w.alloc (.cells #[.string d,vI k,vI i,vS m r.length a,.bool f] 63)).alloc (.cells #[.string ⟨#[]⟩,vI 0,vI 0,vS none 0 0,.bool false] 63)).cell? ⟨w,1,none⟩=some (vI k):=ϣ;have Q:((w.alloc (.cells #[.string d,vI k,vI i,vS m r.length a,.bool f] 63)).alloc (.cells #[.string ⟨#[]⟩,vI 0,vI 0,vS none 0 0,.bool false] 63)).cell? ⟨w,2,none⟩=some (vI i):=ϣ;have J:((w.alloc (.cells #[.string d,vI k,vI i,vS m r.length a,.bool f] 63)).alloc (.cells #[.string ⟨#[]⟩,vI 0,vI 0,vS none 0 0,.bool false] 63)).cell? ⟨w,3,none⟩=some (vS m r.length a):=ϣ;have R:((w.alloc (.cells #[.string d,vI k,vI i,vS m r.length a,.bool f] 63)).alloc (.cells #[.string ⟨#[]⟩,vI 0,vI 0,vS none 0 0,.bool false] 63)).cell? ⟨w,4,none⟩=some (.bool f):=ϣ;have g0:((w.alloc (.cells #[.string d,vI k,vI i,vS m r.length a,.bool f] 63)).alloc (.cells #[.string ⟨#[]⟩,vI 0,vI 0,vS none 0 0,.bool false] 63)).cell? ⟨w+1,0,none⟩=some (.string ⟨#[]⟩):=ϣ;have g1:((w.alloc (.cells #[.string d,vI k,vI i,vS m r.length a,.bool f] 63)).alloc (.cells #[.string ⟨#[]⟩,vI 0,vI 0,vS none 0 0,.bool false] 63)).cell? ⟨w+1,1,none⟩=some (vI 0):=ϣ
 have g2:((w.alloc (.cells #[.string d,vI k,vI i,vS m r.length a,.bool f] 63)).alloc (.cells #[.string ⟨#[]⟩,vI 0,vI 0,vS none 0 0,.bool false] 63)).cell? ⟨w+1,2,none⟩=some (vI 0):=ϣ;have g3:((w.alloc (.cells #[.string d,vI k,vI i,vS m r.length a,.bool f] 63)).alloc (.cells #[.string ⟨#[]⟩,vI 0,vI 0,vS none 0 0,.bool false] 63)).cell? ⟨w+1,3,none⟩=some (vS none 0 0):=ϣ;have g4:((w.alloc (.cells #[.string d,vI k,vI i,vS m r.length a,.bool f] 63)).alloc (.cells #[.string ⟨#[]⟩,vI 0,vI 0,vS none 0 0,.bool false] 63)).cell? ⟨w+1,4,none⟩=some (.bool false):=ϣ;have T:((w.alloc (.cells #[.string d,vI k,vI i,vS m r.length a,.bool f] 63)).alloc (.cells #[.string ⟨#[]⟩,vI 0,vI 0,vS none 0 0,.bool false] 63)).frozen? ⟨w,3,none⟩=false:=ϣ;have U:((w.alloc (.cells #[.string d,vI k,vI i,vS m r.length a,.bool f] 63)).alloc (.cells #[.string ⟨#[]⟩,vI 0,vI 0,vS none 0 0,.bool false] 63)).frozen? ⟨w+1,0,none⟩=false:=ϣ;have V:((w.alloc (.cells #[.string d,vI k,vI i,vS m r.length a,.bool f] 63)).alloc (.cells #[.string ⟨#[]⟩,vI 0,vI 0,vS none 0 0,.bool false] 63)).frozen? ⟨w+1,1,none⟩=false:=ϣ;have X:((w.alloc (.cells #[.string d,vI k,vI i,vS m r.length a,.bool f] 63)).alloc (.cells #[.string ⟨#[]⟩,vI 0,vI 0,vS none 0 0,.bool false] 63)).frozen? ⟨w+1,2,none⟩=false:=ϣ;have Y:((w.alloc (.cells #[.string d,vI k,vI i,vS m r.length a,.bool f] 63)).alloc (.cells #[.string ⟨#[]⟩,vI 0,vI 0,vS none 0 0,.bool false] 63)).frozen? ⟨w+1,3,none⟩=false:=ϣ;have Z:((w.alloc (.cells #[.string d,vI k,vI i,vS m r.length a,.bool f] 63)).alloc (.cells #[.string ⟨#[]⟩,vI 0,vI 0,vS none 0 0,.bool false] 63)).frozen? ⟨w+1,4,none⟩=false:=ϣ;have G:Ϟ w ((w.alloc (.cells #[.string d,vI k,vI i,vS m r.length a,.bool f] 63)).alloc (.cells #[.string ⟨#[]⟩,vI 0,vI 0,vS none 0 0,.bool false] 63)):=by
  repeat (first|exact bR|(refine Below.alloc ?_ Ϧ _))
 have ai:((w.alloc (.cells #[.string d,vI k,vI i,vS m r.length a,.bool f] 63)).alloc (.cells #[.string ⟨#[]⟩,vI 0,vI 0,vS none 0 0,.bool false] 63)).heap.size=w.heap.size+1+1:=ϡ
 cases m with
 |none=>
  have h0:r=[]:=by
   cases r with
   |nil=>rfl
   |cons c r=>
    obtain⟨_,_,e,_⟩:=z 0 ϡ
    cases e
  subst h0;simp only[length_nil]at J⊢;clear z K F E;go_enter func114,ntmps114;go_wp2_with (at_builtin;refine Du rfl (.const (vS none 0 0)) (.tmp 4) 41 rfl w.heap.size 103 A 3 a underlying41 D.o.1 _ _ _ rfl (World.ownsRow_nil _ _ _ _) rfl ?_);exact bodyPost_ret (v:=.agg #[.string d,vI k,vI i,vS none 0 0,.bool f]) (by simp[results,results114,go_sem]) rfl ⟨⟨none,0,rfl,World.ownsRow_nil _ _ _ _⟩,by
   repeat (first|exact bR|(refine Below.alloc ?_ Ϧ _))⟩
 |some y=>
  have af:ϝ (∀j u,(celCells r)[j]? =some u->((w.alloc (.cells #[.string d,vI k,vI i,vS (some y) n a,.bool f] 63)).alloc (.cells #[.string ⟨#[]⟩,vI 0,vI 0,vS none 0 0,.bool false] 63)).cell? (y.add j)=some u):=by
   intro j u L;rw[F]at G;have H:0<r.length:=by
    rcases Nat.eq_zero_or_pos r.length with h|h
    ·rw[length_eq_zero_iff.1 h]at L;cases L
    ·exact h
   obtain⟨b,o,e,_⟩:=z 0 H
   cases e
   exact cLz G (DL z j u L)
  rw[F]at K O P Q J R g0 g1 g2 g3 g4 T U V X Y Z G ai⊢;clear z F;go_enter func114,ntmps114;go_wp2_with (at_builtin;refine wpList_append_own _ rfl (.const (vS none 0 0)) (.tmp 4) 41 rfl (w.heap.size+1+1) 103 A (.agg #[vI 0,vI 0,.string ⟨#[]⟩]) 3 32 underlying41 D.o.1 D.o.2.1 D.o.2.2.1 D.o.2.2.2 rfl Ϡ _ _ _ rfl (World.ownsRow_nil _ _ _ _) y n a (celCells r) rfl (by rw[Db,E.o]) af.o (Dw r) ϩ ϟ ϡ ?_;intro v2 s I ah ao;have q:Below ((w.alloc (.cells #[.string d,vI k,vI i,vS (some y) n a,.bool f] 63)).alloc (.cells #[.string ⟨#[]⟩,vI 0,vI 0,vS none 0 0,.bool false] 63)).heap.size ((w.alloc (.cells #[.string d,vI k,vI i,vS (some y) n a,.bool f] 63)).alloc (.cells #[.string ⟨#[]⟩,vI 0,vI 0,vS none 0 0,.bool false] 63)) s:=TW ah;have y0:=cLz q O;have y1:=cLz q P;have y2:=cLz q Q;have y3:=cLz q J;have y4:=cLz q R;have z0:=cLz q g0;have z1:=cLz q g1;have z2:=cLz q g2;have z3:=cLz q g3;have z4:=cLz q g4;rw[Nat.zero_add,nil_append]at I;obtain⟨M,S,aa⟩:=IV (show A4 s _ v2 r from(by unfold A4;rw[E.o];exact I));rw[E.o]at aa;subst aa;have h0:s.frozen? ⟨w,3,none⟩=false:=(by rw[q.frozen (p:=⟨w,3,none⟩) ϥ];exact T);have h1:s.frozen? ⟨w+1,0,none⟩=false:=(by rw[q.frozen (p:=⟨w+1,0,none⟩) ϥ];exact U);have aj:s.frozen? ⟨w+1,1,none⟩=false:=(by rw[q.frozen (p:=⟨w+1,1,none⟩) ϥ];exact V);have ak:s.frozen? ⟨w+1,2,none⟩=false:=(by rw[q.frozen (p:=⟨w+1,2,none⟩) ϥ];exact X);have al:s.frozen? ⟨w+1,3,none⟩=false:=(by rw[q.frozen (p:=⟨w+1,3,none⟩) ϥ];exact Y);have am:s.frozen? ⟨w+1,4,none⟩=false:=(by rw[q.frozen (p:=⟨w+1,4,none⟩) ϥ];exact Z));have ag:Ϟ w s:=bT G q;refine bodyPost_ret (v:=.agg #[.string d,vI k,vI i,vS M n S,.bool f]) (by simp[results,results114,go_sem,y0,y1,y2,y3,y4,z0,z1,z2,z3,z4]) rfl ⟨⟨M,S,rfl,?_⟩,by
   repeat (first|exact ag|(refine Below.setCell ?_ ϥ _))⟩
  unfold A4;rw[E.o];refine CK (A2 I (λg hg=>?_)) ϟ;have an:=(AM I hg).1
  repeat rw[heap_setCell_other _ _ _ _ ϥ]
theorem Dd(w:World)(a b c d e:Value)(t:TypeId):∀j u,[a,b,c,d,e][j]? =some u->(w.alloc (.cells #[a,b,c,d,e] t)).cell? ((⟨w,0,none⟩:Addr).add j)=some u:=by
 intro j u f;rw[Ch]
 match j,f with
 |0,f=>simp at f;subst f;simp[go_sem]
 |1,f=>simp at f;subst f;simp[go_sem]
 |2,f=>simp at f;subst f;simp[go_sem]
 |3,f=>simp at f;subst f;simp[go_sem]
 |4,f=>simp at f;subst f;simp[go_sem]
 |(n+5),f=>simp at f
theorem EY{P:Ent->Bool}{k:Nat}(h:k<l.length):(l.take (k+1)).filter P=(l.take k).filter P++(if P (l.getD k ϰ)=true then [l.getD k ϰ]else []):=by
 rw[take_succ_eq_append_getElem h,filter_append];have e:l.getD k ϰ=l[k]:=by rw[gDe,gEe h];rfl
 rw[e]
 congr 1
 simp only[filter_cons,filter_nil]
theorem TX(q:FuncId)(eg:∀ab w,(callFunc q ab).run Tryz.prog w= .ok (.enter q ab) w)(M:Array Value)(P:Ent->Bool)(a:Option Addr)(cap:Nat)(es:List EM)(l:List Ent)(w:World)(hl:l.length<=100000)(ha:BG w a es)(hr:ERs w es l)(ag:∀x∈l,x.row.length<=1000000)
 (H:∀i d,i<l.length->Ϟ w d->Calls Tryz.prog q (#[(es.getD i ϰ).val]++M) d λe w'=>e= .returned (.bool (P (l.getD i ϰ)))/\Ϟ d w'):
 Calls Tryz.prog 189 #[vS a l.length cap,.func (.func q) #[] M] w λe w'=>(∃v j,e= .returned v/\OE w' w v j (l.filter P))/\Ϟ w w':=by
 obtain⟨J,ac,aj,ak,al⟩:=info_parts Nk;have K:ϝ (Tryz.prog.info? 63=some J/\J.zero=some (.agg #[.string ⟨#[]⟩,vI 0,vI 0,vS none 0 0,.bool false])/\J.size=5/\J.bytes=64):=⟨ac,aj,ak,al⟩;clear ac aj ak al;have HH:ϝ (∀i d,i<l.length->Ϟ w d->CT q (#[(es.getD i ϰ).val]++M) d λe w'=>e= .returned (.bool (P (l.getD i ϰ)))/\Ϟ d w'):=H;have L:ϝ (BG w a es/\ERs w es l/\∀x∈l,x.row.length<=1000000):=⟨ha,hr,ag⟩;clear H ha hr ag;obtain⟨n,hn⟩:∃n,l.length=n:=⟨_,rfl⟩;have HN:=hV0 hn;rw[hn]at hl⊢;clear hn;go_enter func189,ntmps189;go_wp2
 go_loopw [5,10] (λx i wr=> ∃(k:Nat) (j:List EM),k<=n/\i=vI k/\OE wr w x j ((l.take k).filter P)/\Ϟ w wr) (λ_ i _=>n - (intOf i).toNat)
 case atStart=>exact⟨0,[],Nat.zero_le _,rfl,BD nR,bR⟩
 case round=>
  obtain⟨k,j,hk,rfl,ae,f⟩:=hrel;have I:=hV0 ae;clear ae;by_cases ar:k<n
  ·have E:k<l.length:=by rw[HN.o];exact ar
   obtain⟨b,o,e,x1,x2,x3,x4,x5⟩:=L.o.1 k (by rw[L.o.2.1.1];exact E);subst e;have q1:=cLz f x1;have q2:=cLz f x2;have q3:=cLz f x3;have q4:=cLz f x4;have q5:=cLz f x5;clear x1 x2 x3 x4 x5;have i1:(0:Int)<=(k:Int):=ϟ;have i2:(k:Int)<(n:Int):=ϟ;have m:ϝ (∀d,Ϟ wr d->CT q (#[(es.getD k ϰ).val]++M) d λe w'=>e= .returned (.bool (P (l.getD k ϰ)))/\Ϟ d w'):=λd V=>HH.o k d E (bT f V);have Z:ER w (es.getD k ϰ) (l.getD k ϰ):=L.o.2.1.2 k E;have F:(l.getD k ϰ).row.length<=1000000:=L.o.2.2 _ (by rw[gDe,gEe E];exact getElem_mem E);have A:ϝ (∀d,Ϟ wr d->CT 114 #[(es.getD k ϰ).val] d λr w'=>(∃ad c,r= .returned ((es.getD k ϰ).to (ad,(l.getD k ϰ).row.length,c)).val/\A4 w' d (vS ad (l.getD k ϰ).row.length c) (l.getD k ϰ).row)/\Ϟ d w'):=λd V=>GC _ _ d (Z.below (bT f V)) F;have G:ϝ ((l.take (k+1)).filter P=(l.take k).filter P++(if P (l.getD k ϰ)=true then [l.getD k ϰ]else [])):=EY E;have y:=hV0 Z;have ap:j.length<=100000:=by
    have h1:=I.o.len;have h2:=length_filter_le P (l.take k);rw[length_take]at h2;omega
   obtain⟨xx,ai⟩:=nM (l.getD k ϰ);rw[ai]at m A G y;obtain⟨⟨R,U,T,⟨r1,r2,r3⟩,S⟩,hz⟩:∃z,es.getD k ϰ=z:=⟨_,rfl⟩;rw[hz]at q1 q2 q3 q4 q5 m A y;unfold EM.val EM.to hdV at A;unfold EM.val hdV at m;unfold hdV at q4;dsimp only at q1 q2 q3 q4 q5 m A;clear hz ai Z F;have ah:=f.size;obtain⟨rl,F⟩:=nM xx.row.length;have an:=hV0 F;rw[F]at A;clear F
   cases hp:P xx with
   |false=>
    rw[hp]at m G;go_wp2_with (go_at_fn q;refine(m.o _ Ϫ).mono ?_;rintro e d ⟨rfl,s⟩;have D:Ϟ wr d:=Ϫ.trans (s.mono ϡ));go_roundw
    case rel=>exact⟨k+1,j,ϟ,by go_num,by rw[G.o];simpa using I.o.below D,f.trans (D.mono ah)⟩
    case measure=>simp[intOf];omega
   |true=>
    rw[hp]at m G;obtain⟨en,Y⟩:=nM j.length;have O:=hV0 Y;rw[Y]at ap;clear Y;go_wp2_with (first
     |(go_at_fn q;refine(m.o _ Ϫ).mono ?_;rintro e d ⟨rfl,s⟩;have D:Ϟ wr d:=Ϫ.trans (s.mono ϡ);have y1:d.cell? ⟨wr.heap.size,0,none⟩=some (.string R):=cLz s ϣ;have y2:d.cell? ⟨wr.heap.size,1,none⟩=some (vI U):=cLz s ϣ;have y3:d.cell? ⟨wr.heap.size,2,none⟩=some (vI T):=cLz s ϣ;have y4:d.cell? ⟨wr.heap.size,3,none⟩=some (vS r1 r2 r3):=cLz s ϣ;have y5:d.cell? ⟨wr.heap.size,4,none⟩=some (.bool S):=cLz s ϣ)
     |(go_at_call 114;refine(A.o _ D).mono ?_;rintro e w2 ⟨⟨aa,c2,rfl,au⟩,ao⟩;have X:Ϟ wr w2:=bT D ao;have am:ϝ (w2.ownsRow w.heap.size 63 5 u5 en (Aq j)):=(by have h:=own_below I.o.own X;rw[O.o]at h;exact h);have ay:w.heap.size<=w2.heap.size:=Nat.le_trans ah X.size)
     |(at_builtin;refine wpList_append_own _ rfl (.tmp 17) (.tmp 20) 26 rfl w.heap.size 63 J (.agg #[.string ⟨#[]⟩,vI 0,vI 0,vS none 0 0,.bool false]) 5 64 underlying26 K.o.1 K.o.2.1 K.o.2.2.1 K.o.2.2.2 rfl Ϡ _ _ _ rfl (World.ownsRow.alloc am.o _) ⟨w2.heap.size,0,none⟩ 1 1 [.string R,vI U,vI T,vS aa rl c2,.bool S] rfl rfl (Dd _ _ _ _ _ _ _) (by intro u hu;simp at hu;rcases hu with rfl|rfl|rfl|rfl|rfl<;>rfl) ϩ ϟ Ϥ ?_;intro v3 w3 af aq ax))
    obtain⟨g3,c3,av⟩:∃g c,v3=vS (some ⟨g,0,none⟩) (en+1) c:=by
     rcases af.2 with⟨_,h0⟩|⟨g,cap,aw,rfl,_⟩
     ·exact absurd h0 ϟ
     ·exact⟨_,_,rfl⟩
    subst av;have Q:=IG (e:=⟨R,U,T,(aa,rl,c2),S⟩) (x:=xx) (g:=g3) (cap2:=c3) I.o X ⟨y.o.key,y.o.time,y.o.seq,y.o.met,an.o.symm,by unfold hdV;dsimp only;exact CK au (by have:=D.size;omega)⟩ (by rw[O.o];exact af) aq;rw[O.o]at Q;go_roundw
    case rel=>exact⟨k+1,_,ϟ,by go_num,by rw[G.o];simpa using Q.1,f.trans Q.2⟩
    case measure=>simp[intOf];omega
  ·have HT:ϝ (l.take k=l):=take_of_length_le (by rw[HN.o];omega);go_wp2;go_ret;exact⟨⟨_,j,rfl,by have:=I.o;rw[HT.o]at this;exact this⟩,f⟩
def An(w:World)(b:Nat)(t:TypeId):Prop:=∃cur f,w.heap[b]? =some (.cells cur t f)
theorem AW(h:An w b t)(a:w'.heap[b]? =w.heap[b]?):An w' b t:=by
 obtain⟨c,f,h⟩:=h;exact⟨c,f,a.trans h⟩
theorem AX(h:An w b t):b<w.heap.size:=by
 obtain⟨c,f,h⟩:=h;exact(Array.getElem?_eq_some_iff.1 h).1
theorem Ae(h:An w b t)(a:Ϟ w w'):An w' b t:=AW h (a.block b (AX h))
theorem tyAt_apart{d:Nat}{i:TypeId}(h:An w b t)(a:An w d i)(ht:t≠i):b≠d:=by
 rintro rfl;obtain⟨c,f,h⟩:=h;obtain⟨k,m,a⟩:=a;rw[h]at a;injection a with e
 injection e with _ j _
 exact ht j
theorem Ao(h:An w b t)(p:Addr)(v:Value):An (w.setCell p v) b t:=by
 obtain⟨c,f,h⟩:=h;by_cases e:p.block=b
 ·subst e;exact⟨if p.spot.isSome=true then c else c.setIfInBounds p.off v,f,by simp[World.setCell,Array.getElem?_modify,h]⟩
 ·exact⟨c,f,(heap_setCell_other w p b v (λh=>e h.symm)).trans h⟩
theorem A6{e:TypeId}{s:Nat}{n:Nat}{d:List Value}(h:w.ownsRow base e s v n d)(a:v.ownBlock=some g):An w g e:=by
 rcases h.2 with⟨rfl,_⟩|⟨b,f,i,rfl,_,c,_⟩
 ·cases a
 ·cases a;exact⟨_,_,c⟩
theorem OE.other{es:List EM}(h:OE w base v es l)(d:w.heap.size<=w'.heap.size)(a:∀g,An w g 63\/An w g 103->w'.heap[g]? =w.heap[g]?):OE w' base v es l:=
 h.same d (λg f t c e=>by
  rcases e with⟨_,rfl⟩|rfl
  ·exact a g (.inl ⟨_,_,c⟩)
  ·exact a g (.inr ⟨_,_,c⟩))
def apB(a b:Value):Prop:=∀g,a.ownBlock=some g->b.ownBlock≠some g
structure OB(w:World)(base:Nat)(x:BX)(b:Buf):Prop where
 low:base<=w.heap.size
 mem:OE w base (hdV x.m.1) x.m.2 b.mem
 hds:w.ownsRow base 26 1 (vS x.ra x.rs.length x.rc) x.rs.length (x.rs.map λp=>hdV p.1)
 rlen:x.rs.length=b.runs.length
 runs:∀i,i<b.runs.length->OE w base (hdV (x.rs.getD i ϰ).1) (x.rs.getD i ϰ).2 (b.runs.getD i ϰ)
 two:((x.m::x.rs).map λp=>hdV p.1).Pairwise apB
theorem OB.below{x:BX}{b:Buf}(h:OB w base x b)(a:Ϟ w w'):OB w' base x b:=
 ⟨Nat.le_trans h.low a.size,h.mem.below a,own_below h.hds a,h.rlen,λi c=>(h.runs i c).below a,h.two⟩
def BX.more(x:BX)(g cap:Nat)(p:Part):BX:=⟨some ⟨g,0,none⟩,cap,x.m,x.rs++[p]⟩
def Buf.more(b:Buf)(l:List Ent):Buf:=⟨b.lim,b.mem,b.runs++[l]⟩
theorem Abd{d w2:World}{x:BX}{b:Buf}(h:OB w base x b)(y:Ϟ w d)(s:OE d w (hdV p.1) p.2 l)
 (E:w2.ownsRow base 26 1 (vS (some ⟨g,0,none⟩) (x.rs.length+1) cap2) (x.rs.length+1) ((x.rs.map λp=>hdV p.1)++[hdV p.1])) (j:d.heap.size<=w2.heap.size)
 (m:∀b,An d b 63\/An d b 103->w2.heap[b]? =d.heap[b]?):OB w2 base (x.more g cap2 p) (b.more l):=by
 have k:=h.below y;refine⟨Nat.le_trans k.low j,k.mem.other j m,?_,?_,λi f=>?_,?_⟩
 ·unfold BX.more;dsimp only;rw[lAp,map_append];exact E
 ·unfold BX.more Buf.more;dsimp only;rw[lAp,lAp,h.rlen];rfl
 ·unfold BX.more Buf.more at *;dsimp only at *;rw[lAp]at f;by_cases n:i<b.runs.length
  ·rw[AS (by rw[h.rlen];exact n),AS n];exact(k.runs i n).other j m
  ·have:i=b.runs.length:=by simp at f;omega
   subst this;rw[AH (by rw[h.rlen];exact Nat.le_refl _),AH nR,h.rlen,Nat.sub_self];exact(s.other j m).mono h.low
 ·unfold BX.more;dsimp only;rw[show(x.m::(x.rs++[p]))=(x.m::x.rs)++[p]from rfl,map_append];refine pairwise_append.2 ⟨h.two,ϡ,λa ha c z g r=>?_⟩;have A:c=hdV p.1:=by simpa using z
  subst A;intro D;have F:=(AM s.own D).1;obtain⟨q,o,rfl⟩:=mem_map.1 ha;rcases mem_cons.1 o with rfl|o
  ·have:=(AM h.mem.own r).2;omega
  ·obtain⟨i,f,rfl⟩:=getElem_of_mem o;have u:=h.runs i (by rw[<-h.rlen];exact f);have e:x.rs.getD i ϰ=x.rs[i]:=by rw[gDe,gEe f];rfl
   rw[e]at u;have:=(AM u.own r).2;omega
structure KSt(W:World)(C NB base:Nat)(x:BX)(b:Buf):Prop where
 ob:OB W base x b
 c0:W.cell? ⟨NB,0,none⟩=some (vI b.lim)
 c1:W.cell? ⟨NB,1,none⟩=some (hdV x.m.1)
 c2:W.cell? ⟨NB,2,none⟩=some (vS x.ra x.rs.length x.rc)
 f2:W.frozen? ⟨NB,2,none⟩=false
 ty:An W NB 29
 r0:W.cell? ⟨C,0,none⟩=some (vI 0)
 r1:W.cell? ⟨C,1,none⟩=some (vS none 0 0)
 r2:W.cell? ⟨C,2,none⟩=some (vS none 0 0)
 g0:W.frozen? ⟨C,0,none⟩=false
 g1:W.frozen? ⟨C,1,none⟩=false
 g2:W.frozen? ⟨C,2,none⟩=false
 rt:An W C 29
 ne:C<NB
 up:base<=C
theorem KSt.below{d:World}{x:BX}{b:Buf}(h:KSt W C NB base x b)(a:Ϟ W d):KSt d C NB base x b:=by
 have e:=AX h.ty;have c:=AX h.rt;exact⟨h.ob.below a,cLz a h.c0,cLz a h.c1,cLz a h.c2,(a.frozen (p:=⟨NB,2,none⟩) e).trans h.f2,Ae h.ty a,cLz a h.r0,cLz a h.r1,cLz a h.r2,(a.frozen (p:=⟨C,0,none⟩) c).trans h.g0,(a.frozen (p:=⟨C,1,none⟩) c).trans h.g1,(a.frozen (p:=⟨C,2,none⟩) c).trans h.g2,Ae h.rt a,h.ne,h.up⟩
theorem AG{p:Addr}(h:w'.heap[p.block]? =w.heap[p.block]?):w'.frozen? p=w.frozen? p:=by
 unfold World.frozen?;rw[h]
theorem RG{n j:World}{x:BX}{b:Buf}{o:Obj}(h:KSt W C NB base x b)(s:Ϟ W n)(G:OE n W (hdV p.1) p.2 l)
 (y:j.ownsRow base 26 1 (vS (some ⟨g,0,none⟩) (x.rs.length+1) cap2) (x.rs.length+1) ((x.rs.map λp=>hdV p.1)++[hdV p.1])) (u:(n.alloc o).grownBy j (Value.slice x.ra x.rs.length x.rc).ownBlock):
 KSt (j.setCell ⟨NB,2,none⟩ (vS (some ⟨g,0,none⟩) (x.rs.length+1) cap2)) C NB base (x.more g cap2 p) (b.more l)/\Below base W (j.setCell ⟨NB,2,none⟩ (vS (some ⟨g,0,none⟩) (x.rs.length+1) cap2)):=by
 have d:=h.below s;have P:n.heap.size<=j.heap.size:=by have:=u.size;simp at this;omega
 have r:∀c t,An n c t->t≠26->j.heap[c]? =n.heap[c]? :=λc t f H=>by
  have F:=AX f;rw[u.block c Ϥ (λe=>?_)]
  ·exact Below.heap_alloc _ _ c F
  ·exact tyAt_apart f (A6 d.ob.hds e.symm) H rfl
 have q:=r NB _ d.ty Ϡ;have m:=r C _ d.rt Ϡ;have L:=(cOb (a:=⟨NB,0,none⟩) q).trans d.c0;have M:=(cOb (a:=⟨NB,1,none⟩) q).trans d.c1;have z:=(cOb (a:=⟨NB,2,none⟩) q).trans d.c2;have I:=(cOb (a:=⟨C,0,none⟩) m).trans d.r0;have J:=(cOb (a:=⟨C,1,none⟩) m).trans d.r1;have K:=(cOb (a:=⟨C,2,none⟩) m).trans d.r2;have O:=h.ne;have i:∀c v,c≠NB->(j.setCell ⟨NB,2,none⟩ v).heap[c]? =j.heap[c]? :=λc v f=>heap_setCell_other _ _ _ _ f;refine⟨⟨Abd h.ob s G (A2 y (λk D=>i k _ ?_)) (by simp[World.setCell];omega) (λc f=>?_),?_,?_,?_,?_,?_,?_,?_,?_,?_,?_,?_,?_,h.ne,h.up⟩,?_⟩
 ·exact λe=>tyAt_apart (A6 y D) (AW d.ty q) Ϡ e
 ·rcases f with f|f
  ·exact(i c _ (λe=>tyAt_apart f d.ty Ϡ e)).trans (r c _ f Ϡ)
  ·exact(i c _ (λe=>tyAt_apart f d.ty Ϡ e)).trans (r c _ f Ϡ)
 ·show _=some (Value.int .i64 b.lim);go_simp
 ·show _=some (hdV x.m.1);go_simp
 ·unfold BX.more;dsimp only;rw[lAp];exact World.cell?_setCell_same _ _ _ z
 ·have:=(AG (p:=⟨NB,2,none⟩) q).trans d.f2;go_simp
 ·exact Ao (AW d.ty q) _ _
 ·rw[cOb (a:=⟨C,0,none⟩) (i C _ ϟ)];exact I
 ·rw[cOb (a:=⟨C,1,none⟩) (i C _ ϟ)];exact J
 ·rw[cOb (a:=⟨C,2,none⟩) (i C _ ϟ)];exact K
 ·rw[AG (p:=⟨C,0,none⟩) (i C _ ϟ),AG (p:=⟨C,0,none⟩) m];exact d.g0
 ·rw[AG (p:=⟨C,1,none⟩) (i C _ ϟ),AG (p:=⟨C,1,none⟩) m];exact d.g1
 ·rw[AG (p:=⟨C,2,none⟩) (i C _ ϟ),AG (p:=⟨C,2,none⟩) m];exact d.g2
 ·exact AW (AW d.rt m) (i C _ ϟ)
 ·have E:=h.ob.low;have Q:=h.up;have A:Below base W j:=((s.mono E).alloc d.ob.low o).grown u (by simp;have:=d.ob.low;omega) (λc f=>(AM d.ob.hds f).1);exact A.setCell ϥ _
end bf
namespace bf
open vl
attribute [local go_sem] Oper.semAt_some
variable {l : List Ent} {W w w2 : World} {B C N base base' : Nat} {v : Value} {es : List EM} {hh : Hdr} {lim : Int}
def Dg(P:Ent->Bool)(l:List (List Ent)):List (List Ent):=(l.map (·.filter P)).filter λr=>decide (0<r.length)
def Bt(P:Ent->Bool)(b:Buf):Buf:=⟨b.lim,b.mem.filter P,Dg P b.runs⟩
theorem MU{P:Ent->Bool}{l:List (List Ent)}{k:Nat}(h:k<l.length):Dg P (l.take (k+1))=Dg P (l.take k)++(if 0<((l.getD k ϰ).filter P).length then [(l.getD k ϰ).filter P]else []):=by
 unfold Dg;rw[take_succ_eq_append_getElem h,map_append,filter_append];have e:l.getD k ϰ=l[k]:=by rw[gDe,gEe h];rfl
 rw[e]
 congr 1
 simp only[map_cons,map_nil,filter_cons,filter_nil,decide_eq_true_eq]
theorem AD{α:Type}{l:List α}{d:α}{j:Nat}(h:j<l.length):l.getD j d∈l:=by
 rw[gDe,gEe h];exact getElem_mem h
theorem VH:(Tryz.prog.info? 26).map (λi=>(i.zero,i.size,i.bytes))=some (some (vS none 0 0),1,24):=Ϣ
structure nbAt(W:World)(B:Nat):Prop where
 n0:W.cell? ⟨B,0,none⟩=some (vI 0)
 n1:W.cell? ⟨B,1,none⟩=some (vS none 0 0)
 n2:W.cell? ⟨B,2,none⟩=some (vS none 0 0)
 o0:W.frozen? ⟨B,0,none⟩=false
 o1:W.frozen? ⟨B,1,none⟩=false
 o2:W.frozen? ⟨B,2,none⟩=false
 ty:An W B 29
theorem EZ(W:World):nbAt (W.alloc (.cells #[vI 0,vS none 0 0,vS none 0 0] 29)) W.heap.size:=⟨ϣ,ϣ,ϣ,ϣ,ϣ,ϣ,⟨_,_,World.alloc_heap_new W _⟩⟩
theorem Mr(h:nbAt W B):nbAt W.drew B:=⟨h.n0,h.n1,h.n2,h.o0,h.o1,h.o2,h.ty⟩
theorem BW{d:World}(a:Ϟ W d)(h:nbAt W B):nbAt d B:=by
 have c:=AX h.ty;exact⟨cLz a h.n0,cLz a h.n1,cLz a h.n2,(a.frozen (p:=⟨B,0,none⟩) c).trans h.o0,(a.frozen (p:=⟨B,1,none⟩) c).trans h.o1,(a.frozen (p:=⟨B,2,none⟩) c).trans h.o2,Ae h.ty a⟩
theorem Lq(h:OE w base v es l)(c:An w N 29)(k:Nat)(u:Value):OE (w.setCell ⟨N,k,none⟩ u) base v es l:=
 h.other (by simp[World.setCell]) (λg a=>heap_setCell_other _ _ _ _ (by
  rcases a with a|a
  ·exact tyAt_apart a c Ϡ
  ·exact tyAt_apart a c Ϡ))
theorem Bg(h:OE w base (hdV hh) es l):OB w base ⟨none,0,(hh,es),[]⟩ ⟨lim,l,[]⟩:=
 ⟨h.low,h,World.ownsRow_nil _ _ _ _,rfl,λi a=>absurd a (Nat.not_lt_zero i),pairwise_singleton _ _⟩
theorem Zq(nb:nbAt w2 C)(h:OE w2 base' (hdV hh) es l)(e:base<=base')(d:base<=C):
 KSt (w2.alloc (.cells #[vI lim,hdV hh,vS none 0 0] 29)) C w2.heap.size base ⟨none,0,(hh,es),[]⟩ ⟨lim,l,[]⟩:=by
 have c:Ϟ w2 (w2.alloc (.cells #[vI lim,hdV hh,vS none 0 0] 29)):=Ϫ;have a:=BW c nb;have f:=AX nb.ty;refine⟨Bg ((h.mono e).below c),?_,?_,?_,?_,⟨_,_,World.alloc_heap_new _ _⟩,a.n0,a.n1,a.n2,a.o0,a.o1,a.o2,a.ty,f,d⟩
 ·unfold hdV;go_simp
 ·unfold hdV;go_simp
 ·unfold hdV;go_simp
 ·unfold hdV;go_simp
theorem AcK(nb:nbAt w2 C)(q:nbAt w2 N)(h:OE w2 base' (hdV hh) es l)(o:base<=base')(m:base<=C)(n:C<N):
 KSt (((w2.setCell ⟨N,0,none⟩ (vI lim)).setCell ⟨N,1,none⟩ (hdV hh)).setCell ⟨N,2,none⟩ (vS none 0 0)) C N base ⟨none,0,(hh,es),[]⟩ ⟨lim,l,[]⟩:=by
 obtain⟨y,z,A,D,E,F,d⟩:=q;obtain⟨r,s,u,i,j,k,x⟩:=nb;have c:(((w2.setCell ⟨N,0,none⟩ (vI lim)).setCell ⟨N,1,none⟩ (hdV hh)).setCell ⟨N,2,none⟩ (vS none 0 0)).heap[C]? =w2.heap[C]? :=by
  rw[heap_setCell_other _ _ _ _ ϥ,heap_setCell_other _ _ _ _ ϥ,heap_setCell_other _ _ _ _ ϥ]
 have e:=Ao d ⟨N,0,none⟩ (vI lim);have f:=Ao e ⟨N,1,none⟩ (hdV hh);refine⟨Bg (Lq (Lq (Lq (h.mono o) d _ _) e _ _) f _ _),?_,?_,?_,?_,Ao f _ _,?_,?_,?_,?_,?_,?_,AW x c,n,m⟩
 ·go_simp
 ·go_simp
 ·go_simp
 ·go_simp
 ·exact(cOb (a:=⟨C,0,none⟩) c).trans r
 ·exact(cOb (a:=⟨C,1,none⟩) c).trans s
 ·exact(cOb (a:=⟨C,2,none⟩) c).trans u
 ·exact(AG (p:=⟨C,0,none⟩) c).trans i
 ·exact(AG (p:=⟨C,1,none⟩) c).trans j
 ·exact(AG (p:=⟨C,2,none⟩) c).trans k
theorem VI{f d:World}{NB:Nat}{x:BX}{b:Buf}{o:Obj}(h:KSt W C NB base x b)(j:Ϟ W f)(k:(f.alloc o).grownBy d (Value.slice x.ra x.rs.length x.rc).ownBlock):
 d.cell? ⟨NB,2,none⟩=some (vS x.ra x.rs.length x.rc)/\d.frozen? ⟨NB,2,none⟩=false:=by
 have c:=h.below j;have m:=AX c.ty;have i:d.heap[NB]? =f.heap[NB]? :=by
  rw[k.block NB Ϥ (λe=>tyAt_apart c.ty (A6 c.ob.hds e.symm) Ϡ rfl)];exact Below.heap_alloc _ _ NB m
 exact⟨(cOb (a:=⟨NB,2,none⟩) i).trans c.c2,(AG (p:=⟨NB,2,none⟩) i).trans c.f2⟩
theorem Ju{x:BX}{b:Buf}(h:OB w base x b)(a:An w N 29)(k:Nat)(u:Value):OB (w.setCell ⟨N,k,none⟩ u) base x b:=
 ⟨by simp[World.setCell];exact h.low,Lq h.mem a k u,A2 h.hds (λg c=>heap_setCell_other _ _ _ _ (tyAt_apart (A6 h.hds c) a Ϡ)),h.rlen,λi d=>Lq (h.runs i d) a k u,h.two⟩
theorem Gd{x:BX}{b:Buf}(h:OB w base x b)(a:An w N 29)(u0 u1 u2:Value):OB (((w.setCell ⟨N,0,none⟩ u0).setCell ⟨N,1,none⟩ u1).setCell ⟨N,2,none⟩ u2) base x b:=
 Ju (Ju (Ju h a _ _) (Ao a _ _) _ _) (Ao (Ao a _ _) _ _) _ _
theorem cell_one_new(w:World)(a:Value)(h:a.oneCell'=true)(t:TypeId):∀j u,[a][j]? =some u->(w.alloc (.cells #[a] t)).cell? ((⟨w,0,none⟩:Addr).add j)=some u:=by
 intro j u c;rw[Ch]
 match j,c with
 |0,c=>simp at c;subst c;simp[go_sem]
 |(n+1),c=>simp at c
theorem Fa{e:TypeId}{s:Nat}{n:Nat}{d:List Value}(h:w.ownsRow base e s v (n+1) d):∃g c,v=vS (some ⟨g,0,none⟩) (n+1) c:=by
 rcases h.2 with⟨_,a⟩|⟨g,f,i,rfl,_⟩
 ·exact absurd a ϟ
 ·exact⟨_,_,rfl⟩
theorem Pa(P:Ent->Bool)(l:List (List Ent)):(Dg P l).length<=l.length:=by
 unfold Dg;have:=length_filter_le (λr:List Ent=>decide (0<r.length)) (l.map (·.filter P));rwa[lMp]at this
theorem Ia(F:FuncId)(eg:∀ar w,(callFunc F ar).run Tryz.prog w= .ok (.enter F ar) w)(J:Array Value)(P:Ent->Bool)(b:Buf)(x:BX)(w:World)(h:bufAt w b x)(hl:∀l∈partsB b,l.length<=100000)(hr:b.runs.length<=100000)(a6:∀y∈Aa b,y.row.length<=1000000)
 (H:∀e y a,ER a e y->y∈Aa b->Ϟ w a->Calls Tryz.prog F (#[e.val]++J) a λr w'=>r= .returned (.bool (P y))/\Ϟ a w'):
 Calls Tryz.prog 145 #[AF b x,.func (.func F) #[] J] w λe w'=>(∃R,e= .returned (AF (Bt P b) R)/\OB w' w R (Bt P b))/\Ϟ w w':=by
 obtain⟨i0,aw,a8,a9,ba⟩:=info_parts VH;have HI:ϝ (Tryz.prog.info? 26=some i0/\i0.zero=some (vS none 0 0)/\i0.size=1/\i0.bytes=24):=⟨aw,a8,a9,ba⟩;clear aw a8 a9 ba;have ah:(partsB b).length=(x.m::x.rs).length:=by simp[partsB,h.rlen]
 have KM:ϝ (∀i a,i<(x.m::x.rs).length->Ϟ w a->CT 189 #[hdV ((x.m::x.rs).getD i ϰ).1,.func (.func F) #[] J] a λe w'=>(∃(hh:Hdr) (A:List EM),e= .returned (hdV hh)/\OE w' a (hdV hh) A (((partsB b).getD i ϰ).filter P))/\Ϟ a w'):=λi a hi M=>by
  have ay:(x.m::x.rs).getD i ϰ∈x.m::x.rs:=by rw[gDe,gEe hi];exact getElem_mem hi
  have a0:(partsB b).getD i ϰ∈partsB b:=by
   rw[gDe,gEe (by rw[ah];exact hi)];exact getElem_mem (by rw[ah];exact hi)
  have Z:ERs w ((x.m::x.rs).getD i ϰ).2 ((partsB b).getD i ϰ):=by
   cases i with
   |zero=>exact h.mem
   |succ i=>
    have bi:i<b.runs.length:=by rw[length_cons,h.rlen]at hi;omega
    simpa[partsB]using h.runs i bi
  have al:=h.len _ ay;have ax:∀y∈(partsB b).getD i ϰ,y∈Aa b:=λy hy=>mem_flatten.2 ⟨_,a0,hy⟩;obtain⟨⟨⟨z1,z2,z3⟩,zl⟩,hz⟩:∃z,(x.m::x.rs).getD i ϰ=z:=⟨_,rfl⟩;have aj:=h.ems _ ay;rw[hz]at Z al aj⊢;unfold hdV;dsimp only at Z al aj⊢;have e2:z2=((partsB b).getD i ϰ).length:=by rw[al.1,Z.1]
  subst e2;refine(TX F eg J P z1 z3 zl ((partsB b).getD i ϰ) a (hl _ a0) (BM aj M) (Z.below M) (λy hy=>a6 y (ax y hy)) (λj w2 hj G=>H _ _ w2 (((Z.below M).below G).2 j hj) (ax _ (AD hj)) (bT M G))).mono ?_;rintro e w' ⟨⟨v,A,rfl,I⟩,bh⟩;obtain⟨ad,cp,rfl⟩:=I.form;exact⟨⟨(ad,A.length,cp),A,rfl,I⟩,bh⟩
 have HB:=hV0 h;have ao:=h.rlen;clear h H hl a6;obtain⟨m,q,⟨⟨c,d,f⟩,ml⟩,K⟩:=x;obtain⟨lim,ap,D⟩:=b;unfold AF;dsimp only at KM HB ao hr⊢;obtain⟨n,hn⟩:∃n,K.length=n:=⟨_,rfl⟩;have HN:ϝ (K.length=n/\D.length=n):=⟨hn,by rw[<-ao,hn]⟩;have bn:n<=100000:=ϟ;rw[hn];clear hn ao hr ah;have K0:ϝ (∀a,Ϟ w a->CT 189 #[vS c d f,.func (.func F) #[] J] a λe w'=>(∃(hh:Hdr) (A:List EM),e= .returned (hdV hh)/\OE w' a (hdV hh) A (ap.filter P))/\Ϟ a w'):=λa M=>KM.o 0 a ϡ M;have e1:hdV (c,d,f)=vS c d f:=rfl;rw[e1];have V0:((w.alloc (.cells #[vI lim,vS c d f,vS m n q] 29)).alloc (.cells #[vI 0,vS none 0 0,vS none 0 0] 29)).cell? ⟨w,0,none⟩=some (vI lim):=ϣ;have V1:((w.alloc (.cells #[vI lim,vS c d f,vS m n q] 29)).alloc (.cells #[vI 0,vS none 0 0,vS none 0 0] 29)).cell? ⟨w,1,none⟩=some (vS c d f):=ϣ;have V2:((w.alloc (.cells #[vI lim,vS c d f,vS m n q] 29)).alloc (.cells #[vI 0,vS none 0 0,vS none 0 0] 29)).cell? ⟨w,2,none⟩=some (vS m n q):=ϣ;have R0:((w.alloc (.cells #[vI lim,vS c d f,vS m n q] 29)).alloc (.cells #[vI 0,vS none 0 0,vS none 0 0] 29)).cell? ⟨w+1,0,none⟩=some (vI 0):=ϣ;have R1:((w.alloc (.cells #[vI lim,vS c d f,vS m n q] 29)).alloc (.cells #[vI 0,vS none 0 0,vS none 0 0] 29)).cell? ⟨w+1,1,none⟩=some (vS none 0 0):=ϣ;have R2:((w.alloc (.cells #[vI lim,vS c d f,vS m n q] 29)).alloc (.cells #[vI 0,vS none 0 0,vS none 0 0] 29)).cell? ⟨w+1,2,none⟩=some (vS none 0 0):=ϣ;have G0:((w.alloc (.cells #[vI lim,vS c d f,vS m n q] 29)).alloc (.cells #[vI 0,vS none 0 0,vS none 0 0] 29)).frozen? ⟨w+1,0,none⟩=false:=ϣ;have G1:((w.alloc (.cells #[vI lim,vS c d f,vS m n q] 29)).alloc (.cells #[vI 0,vS none 0 0,vS none 0 0] 29)).frozen? ⟨w+1,1,none⟩=false:=ϣ;have G2:((w.alloc (.cells #[vI lim,vS c d f,vS m n q] 29)).alloc (.cells #[vI 0,vS none 0 0,vS none 0 0] 29)).frozen? ⟨w+1,2,none⟩=false:=ϣ
 have VT:An ((w.alloc (.cells #[vI lim,vS c d f,vS m n q] 29)).alloc (.cells #[vI 0,vS none 0 0,vS none 0 0] 29)) (w.heap.size+1) 29:=⟨_,_,by
  have h:=World.alloc_heap_new (w.alloc (.cells #[vI lim,vS c d f,vS m n q] 29)) (.cells #[vI 0,vS none 0 0,vS none 0 0] 29);rw[World.size_alloc]at h;exact h⟩
 have E:Ϟ w ((w.alloc (.cells #[vI lim,vS c d f,vS m n q] 29)).alloc (.cells #[vI 0,vS none 0 0,vS none 0 0] 29)):=by
  repeat (first|exact bR|(refine Below.alloc ?_ Ϧ _))
 have V9:((w.alloc (.cells #[vI lim,vS c d f,vS m n q] 29)).alloc (.cells #[vI 0,vS none 0 0,vS none 0 0] 29)).heap.size=w.heap.size+1+1:=ϡ;have ai:nbAt ((w.alloc (.cells #[vI lim,vS c d f,vS m n q] 29)).alloc (.cells #[vI 0,vS none 0 0,vS none 0 0] 29)) (w.heap.size+1):=⟨R0,R1,R2,G0,G1,G2,VT⟩;clear R0 R1 R2 G0 G1 G2 VT;go_enter func145,ntmps145;go_wp2;generalize ((w.alloc (.cells #[vI lim,vS c d f,vS m n q] 29)).alloc (.cells #[vI 0,vS none 0 0,vS none 0 0] 29))=V at *;refine wp_mono (Q:=Exit.then (λa' W'=> ∃(NB:Nat) (hh:Hdr) (A:List EM),a'={tmps:=#[.agg #[vI lim,vS c d f,vS m n q],.func (.func F) #[] J,.pointer (some ⟨w,0,none⟩),undef,.pointer (some ⟨w+1,0,none⟩),.pointer (some ⟨NB,0,none⟩),undef,undef,undef,.pointer (some ⟨w,0,none⟩),vI lim,.pointer (some ⟨w,1,none⟩),vS c d f,.func (.func F) #[] J,hdV hh,.agg #[vI lim,hdV hh,vS none 0 0],undef,undef,undef,undef,undef,undef,undef,undef,undef,undef,undef,undef,undef,undef,undef,undef,undef,undef,undef,undef,undef],defers:=[]}/\KSt W' (w.heap.size+1) NB w.heap.size ⟨none,0,(hh,A),[]⟩ ⟨lim,ap.filter P,[]⟩/\W'.cell? ⟨w,2,none⟩=some (vS m n q)/\Ϟ w W') (λ_ _ _=>False)) ?_ ?_
 ·go_region_law (go_simp;go_at_call 189;refine(K0.o _ (by first|exact E.drew|exact(E.alloc E.size _).drew|exact E|exact E.alloc E.size _|exact E.drew.alloc E.size _)).mono ?_;rintro e w2 ⟨⟨⟨Y,h2,h3⟩,A,rfl,I⟩,G⟩;unfold hdV;dsimp only;have k0:w2.cell? ⟨w,0,none⟩=some (vI lim):=cLz G ϣ;have k2:w2.cell? ⟨w,2,none⟩=some (vS m n q):=cLz G ϣ;have lw:w.heap.size<w2.heap.size:=bLt _ _ k0;first|(obtain⟨n0,n1,n2,o0,o1,o2,n3⟩:=BW G (Mr (EZ V));rw[V9]at n0 n1 n2 o0 o1 o2 n3)|(obtain⟨n0,n1,n2,o0,o1,o2,n3⟩:=BW G (EZ V.drew);rw[show V.drew.heap.size=w.heap.size+1+1 from V9]at n0 n1 n2 o0 o1 o2 n3)|skip)
  all_goals first
   | (have aq:nbAt w2 (w.heap.size+1):=BW G (Mr ai)
      have aa:Ϟ w w2:=E.drew.trans (G.mono (by have:=E.size;exact this));exact⟨w2.heap.size,(Y,h2,h3),A,rfl,Zq aq I (by have:=E.size;exact this) (Nat.le_succ _),ϣ,aa.alloc aa.size _⟩)
   | (have aq:nbAt w2 (w.heap.size+1):=BW G (Mr (BW Ϫ ai))
      have au:Ϟ w (V.alloc (.cells #[vI 0,vS none 0 0,vS none 0 0] 29)).drew:=(E.alloc E.size _).drew;have aa:Ϟ w w2:=bT au G;exact⟨w.heap.size+1+1,(Y,h2,h3),A,rfl,AcK aq ⟨n0,n1,n2,o0,o1,o2,n3⟩ I au.size (Nat.le_succ _) (Nat.lt_succ_self _),ϣ,((aa.setCell ϥ _).setCell ϥ _).setCell ϥ _⟩)
 ·intro e a' W' hQ
  cases e with
  |normal=>
   obtain⟨NB,hh,A,rfl,s,bm,bg⟩:=hQ;have KR:ϝ (∀k a,k<n->Ϟ w a->CT 189 #[hdV ((K.map (·.1)).getD k (none,0,0)),.func (.func F) #[] J] a λe w'=>(∃(hh:Hdr) (A:List EM),e= .returned (hdV hh)/\OE w' a (hdV hh) A ((D.getD k ϰ).filter P))/\Ϟ a w'):=λk a hk M=>by
    have ak:k<K.length:=by rw[HN.o.1];exact hk
    have h:=KM.o (k+1) a (by simpa using ak) M;have e1:(K.map (·.1)).getD k (none,0,0)=(K.getD k ϰ).1:=by rw[gDe,getElem?_map,gEe ak,gDe,gEe ak];rfl
    rw[e1];exact h
   have HR:ϝ (F8 w m (K.map (·.1))):=HB.o.hds;have HS:=hV0 s;obtain⟨Y,h2,h3⟩:=hh;unfold hdV;dsimp only;clear KM K0 V0 V1 V2 E V9 ai s;go_wp2
   go_loopw [19] (λi wr=> ∃(k:Nat) (R:BX),k<=n/\i=vI k/\KSt wr (w.heap.size+1) NB w.heap.size R ⟨lim,ap.filter P,Dg P (D.take k)⟩/\Ϟ w wr) (λi _=>n - (intOf i).toNat)
   case atStart=>exact⟨0,_,Nat.zero_le _,rfl,HS.o,bg⟩
   case round=>
    obtain⟨k,R,hk,rfl,s,T⟩:=hrel;have a4:=s.ob.rlen;dsimp only at a4;have a5:R.rs.length<=100000:=by
     have Y:=Pa P (D.take k);rw[length_take]at Y;omega
    have c0:=s.c0;have c1:=s.c1;have c2:=s.c2;have r0:=s.r0;have r1:=s.r1;have r2:=s.r2;have g0:=s.g0;have g1:=s.g1;have g2:=s.g2;have bo:=s.ne;obtain⟨ae,af,⟨⟨a1,a2,a3⟩,bk⟩,ag⟩:=R;have X:=hV0 s;unfold hdV at c1;dsimp only at c0 c1 c2 a5;obtain⟨rn,ab⟩:=nM ag.length;have S:=hV0 ab;rw[ab]at c2 a5;have bd:ϝ (wr.ownsRow w 26 1 (vS ae rn af) rn (ag.map λp=>hdV p.1)):=by
     have h:=s.ob.hds;dsimp only at h;rw[ab]at h;exact h
    clear s a4 ab;have a7:=T.size;have lC:w.heap.size+1<wr.heap.size:=bLt _ _ r0;have lN:NB<wr.heap.size:=bLt _ _ c0;by_cases am:k<n
    ·obtain⟨b,o,e,x1⟩:=HR.o k (by rw[lMp,HN.o.1];exact am);subst e;have q1:=cLz T x1;have KQ:ϝ (CT 189 #[hdV ((K.map (·.1)).getD k (none,0,0)),.func (.func F) #[] J] wr λe w'=>(∃(hh:Hdr) (A:List EM),e= .returned (hdV hh)/\OE w' wr (hdV hh) A ((D.getD k ϰ).filter P))/\Ϟ wr w'):=KR.o k wr am T;have HF:ϝ (Dg P (D.take (k+1))=Dg P (D.take k)++(if 0<((D.getD k ϰ).filter P).length then [(D.getD k ϰ).filter P]else [])):=MU (by rw[HN.o.2];exact am);obtain⟨⟨z1,z2,z3⟩,hz⟩:∃z,(K.map (·.1)).getD k (none,0,0)=z:=⟨_,rfl⟩;rw[hz]at q1 KQ;unfold hdV at q1;rw[show hdV (z1,z2,z3)=vS z1 z2 z3 from rfl]at KQ;dsimp only at q1;clear hz x1;have i1:(0:Int)<=(k:Int):=ϟ;have i2:(k:Int)<(n:Int):=ϟ;obtain⟨L,hL⟩:=nM ((D.getD k ϰ).filter P);rw[hL]at KQ HF;clear hL;go_wp2_with fail;refine KQ.o.mono ?_;rintro e a ⟨⟨⟨y1,y2,y3⟩,be,rfl,I⟩,O⟩;unfold hdV;dsimp only;have bc:=hV0 I;have ac:y2=L.length:=by
      obtain⟨ad,cp,hf⟩:=I.form;unfold hdV at hf;injection hf with _ e2 _
      exact Eq.trans e2 I.len
     clear I;by_cases h0:0<y2
     ·have HE:ϝ (Dg P (D.take (k+1))=Dg P (D.take k)++[L]):=by show _=_;rw[HF.o,if_pos (by rw[<-ac];exact h0)]
      clear ac;have d2:=cLz O c2;have br:NB<a.heap.size:=Nat.lt_of_lt_of_le lN O.size;have bb:ϝ (a.ownsRow w 26 1 (vS ae rn af) rn (ag.map λp=>hdV p.1)):=own_below bd.o O;have bq:w.heap.size<=a.heap.size:=Nat.le_trans a7 O.size;go_wp2_with (at_builtin;refine wpList_append_own _ rfl (.tmp 30) (.tmp 32) 27 rfl w.heap.size 26 i0 (vS none 0 0) 1 24 underlying27 HI.o.1 HI.o.2.1 HI.o.2.2.1 HI.o.2.2.2 rfl Ϡ _ _ _ rfl (World.ownsRow.alloc bb.o _) ⟨a,0,none⟩ 1 1 [vS y1 y2 y3] rfl rfl (cell_one_new _ _ rfl _) (by intro u hu;simp at hu;rcases hu with rfl;rfl) ϩ ϟ Ϥ ?_;intro v3 w3 az av bp;have an:=VI X.o O (by dsimp only;rw[S.o];exact av);dsimp only at an;rw[S.o]at an;obtain⟨p2,pf⟩:=an;obtain⟨g3,c3,bj⟩:=Fa az;subst bj);have U:=RG (g:=g3) (cap2:=c3) (p:=((y1,y2,y3),be)) (l:=L) X.o O bc.o (by dsimp only;rw[S.o];exact az) (by dsimp only;rw[S.o];exact av);unfold BX.more Buf.more at U;dsimp only at U;rw[S.o]at U;go_roundw
      case rel=>exact⟨k+1,_,ϟ,by go_num,by rw[HE.o];exact U.1,T.trans U.2⟩
      case measure=>simp[intOf];omega
     ·have HE:ϝ (Dg P (D.take (k+1))=Dg P (D.take k)):=by show _=_;rw[HF.o,if_neg (by rw[<-ac];exact h0),append_nil]
      clear ac;go_wp2;go_roundw
      case rel=>exact⟨k+1,_,ϟ,by go_num,by rw[HE.o];exact X.o.below O,T.trans (O.mono a7)⟩
      case measure=>simp[intOf];omega
    ·have HT:ϝ (D.take k=D):=take_of_length_le (by rw[HN.o.2];omega);go_wp2;refine bodyPost_ret (v:=.agg #[vI lim,vS a1 a2 a3,vS ae rn af]) (by simp[results,results145,go_sem,r0,r1,r2,c0,c1,c2]) rfl ⟨⟨⟨ae,af,((a1,a2,a3),bk),ag⟩,?_,?_⟩,?_⟩
     ·unfold Bt hdV;dsimp only;rw[S.o]
     ·have hh:=X.o.ob;rw[HT.o]at hh;exact Gd hh X.o.rt _ _ _
     ·exact((T.setCell ϥ _).setCell ϥ _).setCell ϥ _
  |_=>exact hQ.elim
theorem A5{x:BX}{b:Buf}(h:OB w base x b)(a:base'<=base):OB w base' x b:=
 ⟨Nat.le_trans a h.low,h.mem.mono a,CK h.hds a,h.rlen,λi c=>(h.runs i c).mono a,h.two⟩
theorem Abe{b:Buf}(h:Dy b=0):A8 b.lim 1 64=true/\countB b=true/\Fo b=true:=by
 unfold Dy at h;by_cases a:A8 b.lim 1 64=false
 ·rw[if_pos a]at h;cases h
 ·rw[if_neg a]at h;by_cases c:countB b=false
  ·rw[if_pos c]at h;cases h
  ·rw[if_neg c]at h;by_cases d:Fo b=false
   ·rw[if_pos d]at h;cases h
   ·exact⟨by simpa using a,by simpa using c,by simpa using d⟩
theorem Qo{b:Buf}(h:l∈partsB b):l.length<=(Aa b).length:=by
 unfold Aa;rw[length_flatten];generalize partsB b=p at h
 induction p with
 |nil=>cases h
 |cons x p ih=>
  rw[map_cons,sum_cons];rcases mem_cons.1 h with rfl|h
  ·omega
  ·have:=ih h;omega
theorem Abf(l:List (List Ent))(h:∀r∈l,0<r.length):l.length<=l.flatten.length:=by
 induction l with
 |nil=>simp
 |cons x l ih=>
  rw[flatten_cons,lAp,length_cons];have:=h x (mem_cons_self ..);have:=ih (λr a=>h r (mem_cons_of_mem _ a));omega
structure okB(b:Buf):Prop where
 lim:1<=b.lim/\b.lim<=64
 mem:(b.mem.length:Int)<=b.lim
 all:(Aa b).length<=4096
 fine:∀l∈partsB b,∀y∈l,E9 y
 rise:∀l∈partsB b,∀i,i+1<l.length->ltP (l.getD i ϰ) (l.getD (i+1) ϰ)
 full:∀r∈b.runs,0<r.length
 once:((Aa b).map Az).Nodup
theorem Ei{b:Buf}(h:Dy b=0):okB b:=by
 obtain⟨o,f,c⟩:=Abe h;unfold countB at f;unfold Fo at c;simp only[Bool.and_eq_true,decide_eq_true_eq]at f c;have k:=Bb.1 c.1;have n:∀l∈partsB b,∀i,i<l.length->FM l i=true:=λl d i a=>by
  obtain⟨j,m,rfl⟩:=getElem_of_mem d;have:=k j m;have e:(partsB b).getD j ϰ=(partsB b)[j]:=by rw[gDe,gEe m];rfl
  rw[e]at this;exact Bb.1 this i a
 refine⟨(Bh _ _ _).1 o,f.1,f.2,λl d y q=>?_,λl d i a=>?_,λr k=>?_,?_⟩
 ·obtain⟨i,a,rfl⟩:=getElem_of_mem q;have:=n l d i a;unfold FM at this;simp only[Bool.and_eq_true]at this;have h:=Lv.1 this.1;rw[gDe,gEe a]at h;exact h
 ·have:=n l d (i+1) a;unfold FM at this;simp only[Bool.and_eq_true,Bool.or_eq_true,decide_eq_true_eq]at this;rcases this.2 with h|h
  ·omega
  ·exact h
 ·obtain⟨i,a,rfl⟩:=getElem_of_mem k;have:=Bb.1 c.2.1 i a;have e:b.runs.getD i ϰ=b.runs[i]:=by rw[gDe,gEe a];rfl
  rw[e]at this;simpa using this
 ·have:=c.2.2;unfold C5 at this;exact of_decide_eq_true this
theorem okB.small{b:Buf}(h:okB b):(∀l∈partsB b,l.length<=100000)/\b.runs.length<=100000/\∀y∈Aa b,y.row.length<=1000000:=by
 have i:=h.all;refine⟨λl c=>by have:=Qo c;omega,?_,λy d=>?_⟩
 ·have:=Abf b.runs h.full;have e:(Aa b).length=b.mem.length+b.runs.flatten.length:=by unfold Aa partsB;simp
  omega
 ·obtain⟨l,c,d⟩:=mem_flatten.1 d;have a:=(h.fine l c y d).2.1;unfold A3 at a;by_cases f:8<y.row.length
  ·rw[if_pos f]at a;cases a
  ·omega
theorem GZ(e:EM)(w:World):Calls Tryz.prog 59 #[e.val] w λr w'=>r= .returned (.bool true)/\Ϟ w w':=by
 obtain⟨f,j,i,⟨a,c,d⟩,h⟩:=e;unfold EM.val hdV;dsimp only;go_enter func59,ntmps59;go_wp2;go_ret;refine⟨rfl,?_⟩
 repeat (first|exact bR|(refine Below.alloc ?_ Ϧ _))
theorem Xl(e:EM)(a:Int)(d:Nat)(w:World)(i:w.cell? ⟨d,0,none⟩=some (vI a)):
 Calls Tryz.prog 263 #[e.val,.pointer (some ⟨d,0,none⟩)] w λr w'=>r= .returned (.bool (decide (a<e.time)))/\Ϟ w w':=by
 obtain⟨n,f,s,⟨j,k,m⟩,q⟩:=e;unfold EM.val hdV;dsimp only;have o:d<w.heap.size:=bLt _ _ i;by_cases h:a<f
 ·have c:ϝ (decide (a<f)=true):=decide_eq_true h;go_enter func263,ntmps263;go_wp2;go_ret;exact⟨Ab (by rw[c.o]),Ϫ⟩
 ·have c:ϝ (decide (a<f)=false):=decide_eq_false h;go_enter func263,ntmps263;go_wp2;go_ret;exact⟨Ab (by rw[c.o]),Ϫ⟩
def Cm(to:Int)(y:Ent):Bool:=decide (to<y.time)
theorem Abg(b:Buf)(x:BX)(a:Int)(w:World)(h:bufAt w b x)(S:∀y∈Aa b,wfE y/\wfP (Az y))(R:(Aa b).length<=4611686018427387904)(J:Dy b=0):
 Calls Tryz.prog 259 #[AF b x,vI a] w λe w'=>(∃o,e= .returned (.tuple #[AF (Bt (Cm a) b) o,vI 0])/\OB w' w o (Bt (Cm a) b))/\Ϟ w w':=by
 have F:ϝ (∀c,Ϟ w c->CT 39 #[AF b x] c λe w'=>e= .returned (vI 0)/\Ϟ c w'):=λc H=>by
  have:=Ce b x c (Ag h H) S R;rwa[J]at this
 have z:=(Ei J).small;have q:ϝ (∀c,Ϟ w c->c.cell? ⟨w+1,0,none⟩=some (vI a)->CT 145 #[AF b x,.func (.func 263) #[] #[.pointer (some ⟨w+1,0,none⟩)]] c λe w'=>(∃o,e= .returned (AF (Bt (Cm a) b) o)/\OB w' c o (Bt (Cm a) b))/\Ϟ c w'):=λc H Z=>
  Ia 263 (enters_of func263 Ϣ rfl) #[.pointer (some ⟨w+1,0,none⟩)] (Cm a) b x c (Ag h H) z.1 z.2.1 z.2.2 (λe y w2 aa _ d=>by
   have:=Xl e a (w.heap.size+1) w2 (cLz d Z);rw[aa.time]at this;exact this)
 clear h S R J z;obtain⟨K,P⟩:=nM (Bt (Cm a) b);rw[P]at q⊢;clear P;obtain⟨k,m,⟨⟨f,i,j⟩,ml⟩,L⟩:=x;obtain⟨lim,ac,ae⟩:=b;rw[show AF ⟨lim,ac,ae⟩ ⟨k,m,((f,i,j),ml),L⟩= .agg #[vI lim,vS f i j,vS k L.length m]from rfl]at F q⊢;obtain⟨n,Q⟩:∃n,L.length=n:=⟨_,rfl⟩;rw[Q]at F q⊢;clear Q;have M:Ϟ w (((w.alloc (.cells #[vI lim,vS f i j,vS k n m] 29)).alloc (.cells #[vI a] 3)).alloc (.cells #[vI 0,vS none 0 0,vS none 0 0] 29)):=by
  repeat (first|exact bR|(refine Below.alloc ?_ Ϧ _))
 have G:=EZ ((w.alloc (.cells #[vI lim,vS f i j,vS k n m] 29)).alloc (.cells #[vI a] 3));rw[World.size_alloc,World.size_alloc]at G;have V:ϝ (nbAt (((w.alloc (.cells #[vI lim,vS f i j,vS k n m] 29)).alloc (.cells #[vI a] 3)).alloc (.cells #[vI 0,vS none 0 0,vS none 0 0] 29)) (w.heap.size+1+1)):=G;clear G;go_enter func259,ntmps259;go_wp2_with (first
  |(go_at_call 39;refine(F.o _ M).mono ?_;rintro e w2 ⟨rfl,d⟩;have I:Ϟ w w2:=bT M d;have ad:=BW d V.o;have k0:w2.cell? ⟨w.heap.size,0,none⟩=some (vI lim):=cLz d ϣ;have k1:w2.cell? ⟨w.heap.size,1,none⟩=some (vS f i j):=cLz d ϣ;have k2:w2.cell? ⟨w.heap.size,2,none⟩=some (vS k n m):=cLz d ϣ;have k3:w2.cell? ⟨w.heap.size+1,0,none⟩=some (vI a):=cLz d ϣ)
  |(go_at_call 145;refine(q.o _ I k3).mono ?_;rintro e U ⟨⟨⟨A,D,⟨⟨r,s,u⟩,T⟩,E⟩,rfl,ab⟩,O⟩;rw[show AF K ⟨A,D,((r,s,u),T),E⟩= .agg #[vI K.lim,vS r s u,vS A E.length D]from rfl];have X:ϝ (nbAt U (w.heap.size+1+1)):=BW O ad;obtain⟨n0,n1,n2,o0,o1,o2,n3⟩:=X.o))
 have Y:Ϟ w U:=bT I O;refine bodyPost_ret (v:=.tuple #[.agg #[vI K.lim,vS r s u,vS A E.length D],vI 0]) (by simp[results,results259,go_sem,n0,n1,n2]) rfl ⟨⟨⟨A,D,((r,s,u),T),E⟩,rfl,?_⟩,((Y.setCell ϥ _).setCell ϥ _).setCell ϥ _⟩;exact Gd (A5 ab I.size) n3 _ _ _
end bf
end Go.Proofs.YtdohnkkbkfhphaaGreat
