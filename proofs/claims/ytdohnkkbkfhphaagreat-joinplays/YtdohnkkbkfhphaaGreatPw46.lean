import Derived.Test.YtdohnkkbkfhphaaGreatPw45
import Derived.Test.YtdohnkkbkfhphaaGreatPw44
import Derived.Test.YtdohnkkbkfhphaaGreatPw43
import Derived.Deep.CutBlock
set_option linter.all false
set_option maxHeartbeats 16000000
set_option maxRecDepth 100000
open Go.ChangeShapes Go.WideShapes Go.ChangeAt Go.RowKit List
namespace Go.Proofs.YtdohnkkbkfhphaaGreat
namespace jn
open vl bf
variable {p : pl.Pln} {s : Jn} {v : Ev}
def metL(p:pl.Pln)(s:Jn)(v:Ev):List Ent:=if p.kind=3 then(if v.side=1 then []else Cq p s v)else partners p s v
def upJ(s:Jn):Jn:=⟨s.L,s.R,s.lm,s.rm,s.seq+1⟩
theorem Ws{b:Buf}{a:ByteArray}{fr c:Int}{e:Ent}(h:e∈Cx b a fr c):e∈Aa b:=by
 unfold Cx at h;exact(mem_filter.1 ((A9 _).mem_iff.1 h)).1
theorem Tn(b:Buf)(a:ByteArray)(fr c:Int):(Cx b a fr c).length<=(Aa b).length:=by
 unfold Cx;rw[(A9 _).length_eq];exact length_filter_le _ _
theorem Wt(f:v.side=1\/v.side=2):∀e∈metL p s v,e∈Aa (bufOf s (3 - v.side)):=by
 intro e a;unfold metL at a;split at a
 ·split at a
  ·cases a
  ·rename_i c;have d:v.side=2:=f.resolve_left c;rw[d];show e∈Aa s.L;unfold Cq at a;have b:=(mem_filter.1 a).1;split at b
   ·exact Ws b
   ·cases b
 ·unfold partners at a;split at a
  ·exact Ws a
  ·cases a
theorem Hy(a:goodJ p s):(metL p s v).length<=4096:=by
 unfold metL;split
 ·split
  ·exact Nat.zero_le _
  ·unfold Cq;refine Nat.le_trans (length_filter_le _ _) ?_;split
   ·exact Nat.le_trans (Tn ..) a.ok.L.all
   ·exact Nat.zero_le _
 ·unfold partners;split
  ·refine Nat.le_trans (Tn ..) ?_;exact(a.of (3 - v.side)).1.all
  ·exact Nat.zero_le _
theorem PM(a:goodJ p s)(side:Int):((Aa (bufOf s side)).map (·.seq)).Nodup:=by
 have:=a.ok.once;rw[map_append]at this;have h:=nodup_append.1 this;unfold bufOf;split
 ·exact h.2.1
 ·exact h.1
theorem Adq(c:goodJ p s)(b:v.side=1\/v.side=2):Hi p s v=Av s (3 - v.side) (meetAll (bufOf s (3 - v.side)) (metL p s v)):=by
 rw[RQ (PM c _) (Wt b)];unfold Hi metL CQ;by_cases a:p.kind=3
 ·rw[if_pos a,if_pos a];rcases b with h|h
  ·rw[if_pos h,if_pos h,map_nil,MZ,h];rfl
  ·have:¬v.side=1:=ϟ;rw[if_neg this,if_neg this,h];rfl
 ·rw[if_neg a,if_neg a]
theorem Adr(b:goodJ p s)(a:v.side=1\/v.side=2):(CB p s v).1=if pl.hasB p v.side v.row=true/\BI p s v.side<v.time then Av (Av (upJ s) (3 - v.side) (meetAll (bufOf s (3 - v.side)) (metL p s v))) v.side (DN (bufOf s v.side) ⟨pl.Ap p v.side v.row,v.time,s.seq,v.row,metB p s v⟩)else Av (upJ s) (3 - v.side) (meetAll (bufOf s (3 - v.side)) (metL p s v)):=by
 rw[Ku,Adq b a];generalize meetAll (bufOf s (3 - v.side)) (metL p s v)=B;generalize metB p s v=m;unfold Er;dsimp only;obtain⟨c,f,g,d⟩:=v;dsimp only at a⊢;rcases a with rfl|rfl
 ·show(_:Jn)=_;have e:BI p (Av s (3 - 1) B) 1=BI p s 1:=rfl;rw[e];split<;>rfl
 ·show(_:Jn)=_;have e:BI p (Av s (3 - 2) B) 2=BI p s 2:=rfl;rw[e];split<;>rfl
theorem AaE(p:pl.Pln)(s:Jn)(v:Ev):(CB p s v).2=FH p s v:=by rw[Ku]
theorem Acj(ok:okB s.R):Cc p s v=if pl.hasB p v.side v.row=true then CZ s (pl.Ap p v.side v.row) v.time else []:=by
 unfold Cc;split
 ·unfold Cx CZ
  congr 1
  refine filter_congr λy a=>?_;have b:=(tm.Dv _).1 (GD ok a);rw[Hf,decide_eq_true (show(-1099511627776:Int)<=y.time by omega),decide_eq_true (show(-1099511627777:Int)<=y.time by omega),Bool.and_true,Bool.true_and]
 ·rfl
def YC(p:pl.Pln)(s:Jn)(v:Ev):Option Ent:=if pl.hasB p v.side v.row=true then(CZ s (pl.Ap p v.side v.row) v.time).getLast? else none
def AaF(kf:Bool)(nr:Nat)(row:List Cel)(od:Option Ent):List ch.Chg:=match od with
 |some e=>[⟨1,row++e.row⟩]
 |none=>if kf=true then [⟨1,row++bt.AE nr⟩]else []
theorem Ads(ok:okB s.R)(b:p.kind=3)(h1:v.side=1):metL p s v=[]/\metB p s v=(YC p s v).isSome/\FH p s v=AaF (keepsJ p.mode 1) p.right.length v.row (YC p s v):=by
 have c:(Cc p s v).getLast? =YC p s v:=by
  rw[Acj ok];unfold YC;split<;>rfl
 refine⟨by unfold metL;rw[if_pos b,if_pos h1],?_,?_⟩
 ·unfold metB;rw[if_pos b,if_pos h1,<-c]
  cases h:Cc p s v with
  |nil=>rfl
  |cons a l=>rw[getLast?_cons];rfl
 ·unfold FH Gk;rw[if_pos b,if_pos h1,c,h1]
  cases YC p s v<;>rfl
end jn
namespace jn
open vl bf
attribute [local go_sem] Oper.semAt_some
variable {w : ϛ}
theorem PN{W:ϛ}{p:pl.Pln}{x:pl.PA}{s0 s:Jn}{y0 y:JX}{v:Ev}{c:Ϝ}{d b:Nat}{side:Int}{B a:Buf}(h:DSt w W p x s0 y0 v c d b (Av (Av s side B) side a) y):DSt w W p x s0 y0 v c d b (Av s side a) y:=by
 have e:Av (Av s side B) side a=Av s side a:=by
  unfold Av;split<;>rfl
 rw[e]at h;exact h
theorem Lc{a:ϛ}{o:Obj}(h:(w.alloc o).grownBy a (Value.slice none 0 0).ownBlock):Ϟ w a:=by
 have k:Below (w.alloc o).heap.size (w.alloc o) a:=⟨h.os,h.tape,h.output,h.size,λb c=>h.block b c (λe=>by cases e)⟩;exact((Below.refl w.heap.size w).alloc nR o).trans (k.mono ϡ)
structure RowK(p:pl.Pln)(x:pl.PA)(s:Jn)(y:JX)(v:Ev)(ra:Option Addr)(rc:Nat)(w:World)(T:List ch.Chg)(MET:List Ent)(OWN:Bool)(kb:ByteArray)(hs:Bool)(od vo:Option Ent)(G mk:Int)(BF:Buf)(sq:Int)(B9:Buf)(n4:Nat)(kf:Bool):Prop where
 KF:ϝ (∀w1,Ϟ w w1->CT 45 #[pl.Ak p x,vI v.side,vS ra v.row.length rc] w1 (θ w1 (.tuple #[.string (kb),.bool (hs)])))
 KR:ϝ (p.kind≠3->∀w1,Ϟ w w1->CT 98 #[pl.Ak p x,jn.joinV s y,.agg (Θ v ra rc),.string (kb),.bool (hs)] w1 λe w'=>(∃ov L ma mc,e= .returned (.tuple #[ov,vS ma n4 mc])/\CG w' w1.heap.size ov L/\L.map CO.chg=T/\Cz w' ma (MET))/\Ϟ w1 w')
 KV:ϝ (p.kind=3->v.side=2->∀w1,Ϟ w w1->CT 102 #[pl.Ak p x,jn.joinV s y,.agg (Θ v ra rc),.string (kb),.bool (hs)] w1 λe w'=>(∃ov L ma mc,e= .returned (.tuple #[ov,vS ma n4 mc])/\CG w' w1.heap.size ov L/\L.map CO.chg=T/\Cz w' ma (MET))/\Ϟ w1 w')
 KL:ϝ (∀w1,Ϟ w w1->CT 99 #[jn.joinV s y,.string (kb),vI v.time] w1 λe w'=>(∃em:EM,e= .returned (.tuple #[em.val,.bool od.isSome])/\∀z,od=some z->ER w' em z/\∀g,(hdV em.row).ownBlock=some g->An w' g 103)/\Ϟ w1 w')
 KB:ϝ (∀(a1 a2:Ϝ) (c1 c2:Nat) (l1 l2:List Cel) (w1:ϛ),0<l2.length->l1.length<=400->l2.length<=400->vl.rowAt w1 a1 l1->vl.rowAt w1 a2 l2->CT 100 #[vS a1 l1.length c1,vS a2 l2.length c2] w1 λe w'=>(∃ad cap,e= .returned (vS ad (l1++l2).length cap)/\A4 w' w1.heap.size (vS ad (l1++l2).length cap) (l1++l2))/\Ϟ w1 w')
 KN:ϝ (∀w1,CT 23 #[vI (p.right.length:Int)] w1 λe w'=>(e= .returned (vS (τ w1) p.right.length p.right.length)/\vl.rowAt w' (τ w1) (bt.AE p.right.length))/\Ϟ w1 w')
 KK:ϝ (p.kind=3->∀w1,CT 101 #[pl.Ak p x] w1 (θ w1 (.bool (kf))))
 KOL:ϝ (∀w1,Ϟ w w1->CT 93 #[.agg (Ω s.L y.l),.func (.func 94) #[] #[]] w1 λe w'=>(∃x',e= .returned (AF s.L x')/\OB w' w1.heap.size x' s.L)/\Ϟ w1 w')
 KOR:ϝ (∀w1,Ϟ w w1->CT 93 #[.agg (Ω s.R y.r),.func (.func 94) #[] #[]] w1 λe w'=>(∃x',e= .returned (AF s.R x')/\OB w' w1.heap.size x' s.R)/\Ϟ w1 w')
 KM:ϝ (∀(B:Buf) (X:BX) (e:Ent) (w1:ϛ),bufAt w1 B X->okB B->CT 103 #[.agg (Ω B X),.string e.key,vI e.time,vI e.seq] w1 λr w'=>(∃X',r= .returned (.agg (Ω (D9 (Az e) B) X'))/\OB w' w1.heap.size X' (D9 (Az e) B))/\Ϟ w1 w')
 KSO:ϝ (∀w1,CT 92 #[jn.joinV s y,vI (3 - v.side)] w1 λe w'=>(∃(bl:Int) (a1 a2:Ϝ) (n1 c1 n2 c2:Nat),e= .returned (.tuple #[.agg (ν bl a1 n1 c1 a2 n2 c2),vI (mk)]))/\Ϟ w1 w')
 KG:ϝ (mk≠noMark->∀w1,CT 96 #[pl.Ak p x,vI v.side,vI (mk)] w1 (θ w1 (vI (G))))
 HGN:ϝ (mk=noMark->G<v.time)
 KP:ϝ (∀(X:BX) (w1:ϛ),bufAt w1 (bufOf s v.side) X->Ϟ w w1->CT 104 #[.agg (Ω (bufOf s v.side) X),.agg #[.string (kb),vI v.time,vI sq,vS ra v.row.length rc,.bool (OWN)]] w1 λr w'=>(∃X',r= .returned (.agg (Ω B9 X'))/\OB w' w1.heap.size X' B9)/\Ϟ w1 w')
 HFR:ϝ ((CB p s v).1=if hs=true/\G<v.time then Av (Av (upJ s) (3 - v.side) (meetAll (BF) (MET))) v.side B9 else Av (upJ s) (3 - v.side) (meetAll (BF) (MET)))
 HTL:ϝ ((CB p s v).2=T)
 HO1:ϝ (p.kind≠3->OWN= !(MET).isEmpty)
 HO2:ϝ (p.kind=3->v.side=2->OWN=false)
 HO3:ϝ (p.kind=3->v.side=1->MET=[]/\OWN=(vo).isSome/\T=AaF (kf) p.right.length v.row (vo))
 HVO:ϝ (vo=if hs=true then od else none)
 HRO:ϝ (∀z,od=some z->0<z.row.length/\z.row.length<=400)
 HEV:ϝ (vl.rowAt w ra v.row/\0<v.row.length/\v.row.length<=400)
 HNC:ϝ ((bt.AE p.right.length).length=p.right.length/\0<p.right.length/\p.right.length<=400)
 HOKM:ϝ (∀k,okB (meetAll (BF) ((MET).take k)))
 hn4:n4<=4096
 hwq:IntKind.i64.wrap (s.seq+1)=s.seq+1
 hwf:IntKind.i64.wrap (3 - v.side)=3 - v.side
 HSD:ϝ (v.side=1\/v.side=2)
 HSQ:ϝ (s.seq=sq)
 HNL:ϝ (MET.length=n4)
 hBF:bufOf s (3 - v.side)=BF
theorem Wu(p:pl.Pln)(x:pl.PA)(s:Jn)(y:JX)(v:Ev)(m:Ϝ)(n:Nat)(w:ϛ)(V:pl.wfPlan p)(T:pl.planAt w p x)(h:joinAt w s y)(h0:pl.Al p=0)(c:goodJ p s)(g:comeJ p s v)(i:evAt w v m):RowK p x s y v m n w (FH p s v) (metL p s v) (metB p s v) (pl.Ap p v.side v.row) (pl.hasB p v.side v.row) (CZ s (pl.Ap p v.side v.row) v.time).getLast? (YC p s v) (BI p s v.side) (Bs s (3 - v.side)) (bufOf s (3 - v.side)) s.seq (DN (bufOf s v.side) ⟨pl.Ap p v.side v.row,v.time,s.seq,v.row,metB p s v⟩) (metL p s v).length (keepsJ p.mode 1):=by
 have q:v.side=1\/v.side=2:=side_is g.side;have t:1<=p.right.length/\p.right.length<=4:=(pl.Bj h0).2.2.1.1.2.1;have aa:=c.ok.sq;exact {
  KF:=λa b=>pl.N6 p x v.side m n v.row a V (pl.Aj T b) g.err (vl.Ac i.row b) i.wf i.len,
  KR:=λd a b=>by
   have:=T4 p x s y v m n a (h.below b) h0 c g d (i.below b);rw[show metL p s v=partners p s v from if_neg d,show FH p s v=Ck p s v from if_neg d];exact this,
  KV:=λd o a b=>by
   have:=ZW p x s y v m n a (h.below b) h0 c g d o (i.below b);have f:¬v.side=1:=ϟ;rw[show metL p s v=Cq p s v by unfold metL;rw[if_pos d,if_neg f],show FH p s v=DU p s v by unfold FH;rw[if_pos d,if_neg f]];exact this,
  KL:=λa b=>LQ s y _ _ a (h.below b) c.ok.R,
  KB:=λD E F G W Y a H I J K L=>bt.Kz D E F G W Y a H I J K L,
  KN:=λa=>bt.Hj _ a t.1 t.2,
  KK:=λd a=>by
   have j:=(pl.Bj h0).1.2.1;rw[if_pos d]at j;rw[<-Q7 ϟ];exact bt.Iy p x a,
  KOL:=λa b=>IL s.L y.l a (Ag h.l b) c.ok.L,
  KOR:=λa b=>IL s.R y.r a (Ag h.r b) c.ok.R,
  KM:=λB X e a b ok=>XV B X (Az e) a b ok,
  KSO:=λa=>(J3 s y (3 - v.side) a ϟ).mono (λe Z u=>⟨⟨_,_,_,_,_,_,_,u.1⟩,u.2⟩),
  KG:=λj a=>by
   have S:CW (Bs s (3 - v.side))=true:=by
    unfold Bs;split
    ·exact c.ok.rm
    ·exact c.ok.lm
   obtain⟨M,N⟩:=Qr (p:=p) (side:=v.side) h0 q S j;have e:BI p s v.side=pl.goneAt p v.side (Bs s (3 - v.side)):=by
    unfold BI;rw[if_neg j];exact M
   rw[e];exact pl.Lh p x v.side _ a h0 N,
  HGN:=λj=>by
   have e:BI p s v.side=noMark:=by
    unfold BI;rw[if_pos j]
   rw[e];exact Ie g.time,
  KP:=λX a P b=>by
   have ok:=(c.of v.side).1;have A:bf.hasB (Aa (bufOf s v.side)) (pl.Ap p v.side v.row,v.time,s.seq)=false:=L3 (λz l=>c.ok.below z (by
    unfold bufOf at l;split at l
    ·exact mem_append_right _ l
    ·exact mem_append_left _ l))
   refine(Aab (bufOf s v.side) X ⟨pl.Ap p v.side v.row,v.time,s.seq,(m,v.row.length,n),metB p s v⟩ ⟨pl.Ap p v.side v.row,v.time,s.seq,v.row,metB p s v⟩ a P ok ⟨rfl,rfl,rfl,rfl,rfl,vl.Ac i.row b⟩ (by have:=(Bp g.err).2;dsimp only;omega) A).mono ?_;rintro r Z ⟨⟨x',l',rfl,U,Q,C⟩,O⟩;have e:=RF (y:=⟨pl.Ap p v.side v.row,v.time,s.seq,v.row,metB p s v⟩) ok A U (FZ Q);rw[e]at C⊢;exact⟨⟨x',rfl,C⟩,O⟩,
  HFR:=Adr c q,
  HTL:=AaE p s v,
  HO1:=λd=>by
   unfold metB metL;rw[if_neg d,if_neg d],
  HO2:=λd o=>by
   have f:¬v.side=1:=ϟ;unfold metB;rw[if_pos d,if_neg f],
  HO3:=λd f=>Ads c.ok.R d f,
  HVO:=rfl,
  HRO:=λz l=>by
   have f:=mem_of_getLast? l;unfold CZ at f;have o:=(mem_filter.1 ((A9 _).mem_iff.1 f)).1;exact Bp (C8 c (side:=2) rfl o),
  HEV:=⟨i.row,(Bp g.err).1,(Bp g.err).2⟩,
  HNC:=⟨length_replicate,t.1,ϟ⟩,
  HOKM:=λk=>by
   rw[RQ (PM c _) (λe R=>Wt q e (mem_of_mem_take R))];exact L1 _ (c.of (3 - v.side)).1,
  hn4:=Hy c,
  hwq:=by rw[ch.BA];omega,
  hwf:=by rw[ch.BA];omega,
  HSD:=q,
  HSQ:=rfl,
  HNL:=rfl,
  hBF:=rfl}
end jn
end Go.Proofs.YtdohnkkbkfhphaaGreat
