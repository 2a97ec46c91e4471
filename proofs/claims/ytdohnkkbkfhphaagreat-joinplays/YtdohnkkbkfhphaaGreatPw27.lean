import Derived.Test.YtdohnkkbkfhphaaGreatPw26
import Derived.Test.YtdohnkkbkfhphaaGreatPw25
set_option linter.all false
set_option maxHeartbeats 8000000
set_option maxRecDepth 100000
open Go.ChangeShapes Go.WideShapes Go.ChangeAt Go.RowKit Go.Shelf Go.Maps List
open Inhabited renaming default->ϰ
namespace Go.Proofs.YtdohnkkbkfhphaaGreat
open Go.Proofs.Tryz
namespace jn
open vl bf
attribute [local go_sem] Oper.semAt_some
variable {p : pl.Pln} {s : Jn} {v : Ev} {tO : Int}
def Cg(p:pl.Pln)(v:Ev)(ra:Option Addr)(rc:Nat):Value:=.agg #[vI v.side,vI v.time,vS ra v.row.length rc,.string (pl.Ap p v.side v.row),.bool (pl.hasB p v.side v.row)]
theorem Sa(p:pl.Pln)(x:pl.PA)(v:Ev)(ra:Ϝ)(rc:Nat)(w:ϛ)(E:pl.wfPlan p)(D:pl.planAt w p x)(i:evAt w v ra):
 η 49 #[pl.Ak p x,evV v ra rc] w (θ w (Cg p v ra rc)):=by
 have f:=hIz (λ(w1:ϛ) (h:Ϟ w w1)=>pl.Py p x v.side ra rc v.row w1 E (pl.Aj D h) (vl.Ac i.row h) i.wf i.len);unfold Cg;obtain⟨Q,k⟩:=nM (pl.Ap p v.side v.row);obtain⟨h,m⟩:=nM (pl.hasB p v.side v.row);obtain⟨S,B⟩:=nM (pl.Be p v.side v.row);rw[k,m,B]at f;rw[k,m];clear k m B E D i;unfold pl.Ak at f⊢;unfold evV;obtain⟨R,O,tm,row⟩:=v;dsimp only at *;obtain⟨n,C⟩:=nM row.length;rw[C]at f⊢;clear C;go_enter func49,ntmps49;go_wp2_with fail;generalize a:(World.alloc (World.alloc (World.alloc w _) _) _)=V;have q:Ϟ w V:=by rw[<-a];exact(Ϫ.alloc ϡ _).alloc Ϥ _
 have K:Δ V (w+1) 1 (vI O):=by subst a;go_simp
 have M:Δ V (w+1) 2 (vI tm):=by subst a;go_simp
 have N:Δ V (w+1) 3 (vS ra n rc):=by subst a;go_simp
 have j:Δ V (w+1+1) 0 (vI 0):=by subst a;go_simp
 have r:Δ V (w+1+1) 1 (vI 0):=by subst a;go_simp
 have u:Δ V (w+1+1) 2 (vS none 0 0):=by subst a;go_simp
 have z:Δ V (w+1+1) 3 (.string ⟨#[]⟩):=by subst a;go_simp
 have A:Δ V (w+1+1) 4 (.bool false):=by subst a;go_simp
 have F:Ξ V (w+1+1) 0:=by subst a;go_simp
 have G:Ξ V (w+1+1) 1:=by subst a;go_simp
 have H:Ξ V (w+1+1) 2:=by subst a;go_simp
 have I:Ξ V (w+1+1) 3:=by subst a;go_simp
 have J:Ξ V (w+1+1) 4:=by subst a;go_simp
 clear a;refine(f.o _ q).mono ?_;rintro e w1 ⟨rfl,c⟩;have P:Ϟ w w1:=bT q c;have d:=bLt _ _ j;replace K:=cLz c K;replace M:=cLz c M;replace N:=cLz c N;replace j:=cLz c j;replace r:=cLz c r;replace u:=cLz c u;replace z:=cLz c z;replace A:=cLz c A;replace F:=(c.frozen (p:=⟨w+1+1,0,none⟩) d).trans F;replace G:=(c.frozen (p:=⟨w+1+1,1,none⟩) d).trans G;replace H:=(c.frozen (p:=⟨w+1+1,2,none⟩) d).trans H;replace I:=(c.frozen (p:=⟨w+1+1,3,none⟩) d).trans I;replace J:=(c.frozen (p:=⟨w+1+1,4,none⟩) d).trans J;clear c q f d;go_wp2;exact bodyPost_ret (v:=.agg #[vI O,vI tm,vS ra n rc,.string Q,.bool h]) (by simp[results,results49,go_sem,j,r,u,z,A]) rfl ⟨rfl,((((P.setCell ϥ _).setCell ϥ _).setCell ϥ _).setCell ϥ _).setCell ϥ _⟩
theorem Z5(h:pl.Al p=0)(side:Int):1<=(pl.As p side).length/\(pl.As p side).length<=4:=by
 have:=pl.DI (pl.Bj h).2.2.1;unfold pl.As;split<;>omega
theorem Ng(n:Nat):(bt.AE n).length=n:=by unfold bt.AE;rw[length_replicate]
theorem IE(b:Nat)(p:pl.Pln)(x:pl.PA)(side:Int)(ra:Ϝ)(rc:Nat)(row:List Cel)(w:ϛ)(C:pl.Al p=0)(E:pl.Bz side=true)(J:boxP w b p x)(D:vl.rowAt w ra row)(H:0<row.length)(G:row.length<=400):
 η 270 #[μ b,vI side,vS ra row.length rc] w λe w'=>(∃c d,e= .returned (vS c (AN p side row).length d)/\A4 w' w (vS c (AN p side row).length d) (AN p side row))/\Ϟ w w':=by
 have k:=Z5 C (3 - side);have A:=hIz (λ(w1:ϛ)=>IK side w1 E);have j:=hIz (λ(w1:ϛ)=>bt.Yq p x (3 - side) w1 k.1 k.2);have z:ϝ (∀f w1,Ϟ w w1->vl.rowAt w1 (τ f) (bt.AE (pl.As p (3 - side)).length)->CT 267 #[vI side,vS ra row.length rc,vS (τ f) (pl.As p (3 - side)).length (pl.As p (3 - side)).length] w1 λe w'=>(∃c d,e= .returned (vS c (AN p side row).length d)/\A4 w' w1 (vS c (AN p side row).length d) (AN p side row))/\Ϟ w1 w'):=λf w1 K h=>by
  have:=DK side ra (τ f) rc (pl.As p (3 - side)).length row (bt.AE (pl.As p (3 - side)).length) w1 H (by rw[Ng];omega) G (by rw[Ng];omega) (vl.Ac D K) h;rw[Ng]at this;exact this
 obtain⟨R,S,X,Y,Z,v5,v6,v7,v8,v9,U,V,W⟩:=J;have B:ϝ (∀w',Ϟ w w'->ώ w' b (vI p.kind) (vI p.mode) (vI p.low) (vI p.high) (vI p.size) (vI p.limit) (vS x.l p.left.length x.lc) (vS x.r p.right.length x.rc) (vS x.lk p.lkeys.length x.lkc) (vS x.rk p.rkeys.length x.rkc) (.bool p.grouped) (vS x.g p.group.length x.gc) (vS x.a p.aggs.length x.ac)):=λw' a=>⟨cLz a R,cLz a S,cLz a X,cLz a Y,cLz a Z,cLz a v5,cLz a v6,cLz a v7,cLz a v8,cLz a v9,cLz a U,cLz a V,cLz a W⟩;obtain⟨q,r⟩:=nM ((AN p side row).length);obtain⟨n,h⟩:=nM ((pl.As p (3 - side)).length);obtain⟨od,m⟩:=nM (3 - side);obtain⟨rl,u⟩:=nM row.length;rw[h,r,u]at z;rw[h,m]at j;rw[m]at A;rw[r,u];clear h r m u k C E D H G;unfold pl.Ak at j;go_enter func270,ntmps270;go_wp2
 go_region_held3 (λw'=>ώ w' b (vI p.kind) (vI p.mode) (vI p.low) (vI p.high) (vI p.size) (vI p.limit) (vS x.l p.left.length x.lc) (vS x.r p.right.length x.rc) (vS x.lk p.lkeys.length x.lkc) (vS x.rk p.rkeys.length x.rkc) (.bool p.grouped) (vS x.g p.group.length x.gc) (vS x.a p.aggs.length x.ac)) (first|exact B.o _ i|exact B.o _ (bR.drew)|go_keep)
  (first
   |(go_at_call 267;refine(z.o _ _ i O).mono ?_;rintro e wj ⟨⟨c,d,rfl,P⟩,M⟩;have F:Ϟ w wj:=bT i M;have Q:w.heap.size<=I.heap.size:=i.size;have i:=F)
   |(go_at_call 275;refine(j.o _).mono ?_;rintro e I ⟨⟨f,rfl,aa,O⟩,N⟩;have i:Ϟ w I:=bR.drew.trans N)
   |(go_at_call 264;refine(A.o _).mono ?_;rintro e w2 ⟨rfl,rfl⟩))
 all_goals
  go_wp2;go_ret;exact⟨⟨c,d,rfl,World.ownsRow.mono P Q⟩,F⟩
def Cv(p:pl.Pln)(s:Jn)(v:Ev)(fr tO:Int):List Ent:=if pl.hasB p v.side v.row=true then Cx (bufOf s (3 - v.side)) (pl.Ap p v.side v.row) fr tO else []
theorem Xw(b:Buf)(k:ByteArray)(a z:Int):((Aa b).filter λy=>decide (y.key=k)&&decide (a<=y.time)&&decide (y.time<=z))=(Aa b).filter (CH k a z):=by
 congr 1
 funext y
 unfold CH;rw[Bool.and_assoc]
theorem VQ{b:Buf}(h:okB b){k:ByteArray}{a z:Int}{l:List Ent}(d:l.Perm ((Aa b).filter (CH k a z)))(c:Md l):l=Cx b k a z:=by
 unfold Cx;rw[Xw];exact Ec d c (h.once.sublist (filter_sublist.map _))
theorem Kc{fr:Int}(h:okB (bufOf s (3 - v.side))):(Cv p s v fr tO).length<=4096:=by
 unfold Cv;split
 ·unfold Cx;rw[(A9 _).length_eq];exact Nat.le_trans (length_filter_le ..) h.all
 ·exact Nat.zero_le _
theorem Kd{fr:Int}{y:Ent}(h:y∈Cv p s v fr tO):y∈Aa (bufOf s (3 - v.side)):=by
 unfold Cv at h;split at h
 ·unfold Cx at h;exact(mem_filter.1 ((A9 _).mem_iff.1 h)).1
 ·exact absurd h not_mem_nil
theorem Ih(b:Nat)(p:pl.Pln)(x:pl.PA)(s:Jn)(y:JX)(t:Value)(v:Ev)(ra:Ϝ)(rc:Nat)(fr tO:Int)(w:ϛ)(Q:pl.Bz v.side=true)(h:boxC w b p x s y t)(D:bufAt w (bufOf s (3 - v.side)) (Bl y (3 - v.side)))(ok:okB (bufOf s (3 - v.side)))(G:∀z∈Aa (bufOf s (3 - v.side)),wfE z/\wfP (Az z)):
 η 266 #[μ b,Cg p v ra rc,vI fr,vI tO] w λe w'=>(∃a es,e= .returned (hdV a)/\OE w' w (hdV a) es (Cv p s v fr tO))/\Ϟ w w':=by
 unfold Cv Cg
 cases hk:pl.hasB p v.side v.row with
 |false=>
  rw[if_neg Ϡ];obtain⟨C,c⟩:=nM (pl.Ap p v.side v.row);obtain⟨rl,u⟩:=nM v.row.length;rw[c,u];clear c u;go_enter func266,ntmps266;go_wp2;go_ret;exact⟨⟨(none,0,0),[],rfl,BD ϡ⟩,Ϫ⟩
 |true=>
  rw[if_pos rfl];have H:=hIz (λ(w1:ϛ)=>IK v.side w1 Q);have F:ϝ (∀w1,CT 144 #[.pointer (some ⟨b,13,none⟩),vI (3 - v.side)] w1 λe w'=>e= .returned (.pointer (some ⟨b,13+A1 (3 - v.side),none⟩))/\w'=w1):=λw1=>Gj b 13 (3 - v.side) w1;obtain⟨f,i,d⟩:=F2 h.join (3 - v.side);have ae:=h.lt;obtain⟨B,J⟩:=nM (bufOf s (3 - v.side));obtain⟨X,M⟩:=nM (Bl y (3 - v.side));rw[J]at f D ok G⊢;rw[M]at i d D;have j:ϝ (∀w1,Ϟ w w1->CT 273 #[AF B X,.string (pl.Ap p v.side v.row),vI fr,vI tO] w1 λe w'=>(∃(a:Hdr) (q:List EM),e= .returned (.tuple #[hdV a,ω])/\OE w' w1 (hdV a) q (Cx B (pl.Ap p v.side v.row) fr tO))/\Ϟ w1 w'):=λw1 hb=>(Vz B X _ fr tO w1 (Ag D hb) G (by have:=ok.all;omega) (En ok)).mono (by
   rintro e w' ⟨⟨a,q,l',rfl,hp,ad,r⟩,ab⟩;rw[VQ ok hp ad]at r;exact⟨⟨a,q,rfl,r⟩,ab⟩)
  obtain⟨C,c⟩:=nM (pl.Ap p v.side v.row);obtain⟨rl,u⟩:=nM v.row.length;obtain⟨k,N⟩:=nM (13+A1 (3 - v.side));rw[c]at j;rw[N]at F f i d;rw[c,u];obtain⟨LS,K⟩:=nM (Cx B C fr tO);rw[K]at j⊢;obtain⟨od,P⟩:=nM (3 - v.side);rw[P]at H F;obtain⟨Z,aa,⟨⟨U,W,Y⟩,ml⟩,rs⟩:=X;obtain⟨S,ag,ah⟩:=B;unfold AF hdV at j;dsimp only at j f i d;obtain⟨n,O⟩:=nM rs.length;rw[O]at j d;clear c u N K P O h D ok G J M hk Q;have af:b≠w.heap.size:=ϟ;go_enter func266,ntmps266;go_wp2;generalize E:(World.alloc w _)=V;have m:Ϟ w V:=by rw[<-E];exact Ϫ
  have c0:Δ V w 0 (vI v.side):=by subst E;go_simp
  have c3:Δ V w 3 (.string C):=by subst E;go_simp
  replace f:=cLz m f;replace i:=cLz m i;replace d:=cLz m d;clear E;have I:ϝ (∀w',Ϟ V w'->Δ w' w 0 (vI v.side)/\Δ w' w 3 (.string C)/\ϑ w' b k (vI S) (vS U W Y) (vS Z n aa)):=λw' A=>⟨cLz A c0,cLz A c3,cLz A f,cLz A i,cLz A d⟩
  go_region_held3 (λw'=>Δ w' w 0 (vI v.side)/\Δ w' w 3 (.string C)/\ϑ w' b k (vI S) (vS U W Y) (vS Z n aa)) (first|exact I.o _ R|exact I.o _ (bR.drew)|go_keep)
   (first
    |(go_at_call 273;refine(j.o _ m.drew).mono ?_;rintro e wn ⟨⟨a,q,rfl,r⟩,ac⟩;have R:Ϟ V wn:=bR.drew.trans ac;obtain⟨c,h2,h3⟩:=a;dsimp only at r⊢)
    |(go_at_call 144;refine(F.o _).mono ?_;rintro e w3 ⟨rfl,rfl⟩)
    |(go_at_call 264;refine(H.o _).mono ?_;rintro e w2 ⟨rfl,rfl⟩))
  all_goals
   go_wp2;go_ret;exact⟨⟨(c,h2,h3),q,rfl,r.mono (by have:=m.size;simpa using this)⟩,bT m R⟩
end jn
namespace jn
open vl bf
attribute [local go_sem] Oper.semAt_some
theorem Xx{l:List Ent}{k:Nat}(h:k<l.length):(l.take (k+1)).map (·.seq)=(l.take k).map (·.seq)++[(l.getD k ϰ).seq]:=JN h
theorem Xy(l:List Int)(s:Int):decide ((0:Int)<((l.count s:Nat):Int))=decide (s∈l):=by
 by_cases h:s∈l
 ·have:=count_pos_iff.2 h;rw[decide_eq_true h,decide_eq_true ϟ]
 ·have:l.count s=0:=count_eq_zero.2 h;rw[decide_eq_false h,this];rfl
theorem Nh(b:Nat)(T:TypeId)(p:pl.Pln)(x:pl.PA)(s:Jn)(y:JX)(t:Value)(L:List CO)(side:Int)(hh:Hdr)(es:List EM)(l:List Ent)(w0 w:ϛ)(h:JSt w0 w b T p x s y t L)(hT:calmC T)(ok:okB (bufOf s side))(O:∀z∈Aa (bufOf s side),pl.i64 z.seq)(aa:hh.2.1=l.length)(bg:BG w hh.1 es)(b8:es.length=l.length)(cf:∀k,k<l.length->(es.getD k ϰ).seq=(l.getD k ϰ).seq)(hl:l.length<=1000000)(hq:∀z∈l,pl.i64 z.seq):
 η 272 #[μ b,vI side,hdV hh] w λe w'=>e= .returned (.tuple #[])/\∃y',JSt w0 w' b T p x (Av s side (Cb (l.map (·.seq)) (bufOf s side))) y' t L/\JO w w':=by
 have KB:ϝ (∀w1,CT 144 #[.pointer (some ⟨b,13,none⟩),vI side] w1 λe w'=>e= .returned (.pointer (some ⟨b,13+A1 side,none⟩))/\w'=w1):=λw1=>Gj b 13 side w1;have HJ:=hV0 h;have b1:ϝ (okB (bufOf s side)/\∀z∈Aa (bufOf s side),pl.i64 z.seq):=⟨ok,O⟩;have HQ:ϝ (∀k,k<l.length->pl.i64 (l.getD k ϰ).seq):=λk hk=>hq _ (AD hk);obtain⟨N,H,h3⟩:=hh;dsimp only at aa bg;have HE:ϝ (BG w N es/\es.length=l.length/\∀k,k<l.length->(es.getD k ϰ).seq=(l.getD k ϰ).seq):=⟨bg,b8,cf⟩;obtain⟨ln,bp⟩:=nM l.length;have b0:=hV0 bp;rw[bp]at hl aa;subst aa;clear h ok O bg b8 cf hq bp;unfold hdV;dsimp only;have dj:=@run_makeMap Tryz.prog;refine(callsIn_wide (n:=0)).1 ?_;refine callsIn_of_wp_marks func272 rfl trivial ?_ rfl;simp only[ntmps272,size_toArray,length_cons,length_nil,Nat.reduceAdd,Nat.reduceSub,Array.replicate_succ,Array.replicate_zero,push_toArray,append_toArray,nil_append,cons_append]
 gi_wp2
 gi_loopw [14] (λi wr=> ∃k:Nat,k<=H/\i=vI k/\Eu wr w.heap.size k ((l.take k).map (·.seq))/\Δ wr (w+1) 0 (.map (some w.heap.size))/\ϝ (An wr (w+1) 187)/\Ϟ w wr) (λi _=>H - (intOf i).toNat)
 case atStart=>exact⟨0,Nat.zero_le _,rfl,CF (Rx w) Ϫ,ϣ,(by have:=World.alloc_heap_new (w.alloc (.map #[] 0)) (.cells #[.map (some w.heap.size)] 187);rw[World.size_alloc]at this;exact⟨_,_,this⟩),Ϫ.alloc ϡ _⟩
 case round=>
  obtain⟨k,hk,rfl,ah,ap,a9,G⟩:=hrel;by_cases c9:k<H
  ·have az:k<l.length:=by rw[b0.o];exact c9
   obtain⟨gb,dp,ea,x1,x2,x3,x4,x5⟩:=HE.o.1 k (by rw[HE.o.2.1];exact az);subst ea;have q1:=cLz G x1;have q2:=cLz G x2;have q3:=cLz G x3;have q4:=cLz G x4;have q5:=cLz G x5;clear x1 x2 x3 x4 x5;have bu:(es.getD k ϰ).seq=(l.getD k ϰ).seq:=HE.o.2.2 k az;have aq:=HQ.o k az;rw[<-bu]at aq;have bc:ϝ ((l.take (k+1)).map (·.seq)=(l.take k).map (·.seq)++[(es.getD k ϰ).seq]):=by
    show _=_;rw[bu];exact Xx az
   obtain⟨⟨ek,et,C,⟨r1,r2,r3⟩,em⟩,hz⟩:∃z,es.getD k ϰ=z:=⟨_,rfl⟩;rw[hz]at q1 q2 q3 q4 q5 aq bc;unfold hdV at q4;dsimp only at q1 q2 q3 q4 q5 aq bc;have i1:(0:Int)<=(k:Int):=ϟ;have i2:(k:Int)<(H:Int):=ϟ;have bh:=CF ah ((Below.refl wr.heap.size wr).alloc nR (.cells (ζ ek et C r1 r2 r3 em) 63));have c8:=ED bh aq;have b7:=count_le_length (a:=C) (l:=(l.take k).map (·.seq));rw[lMp,length_take]at b7;obtain⟨X1,dc,q0,I⟩:=MQ bh aq ϩ (by rw[lMp,length_take];omega);have de:ϝ (∃o:Obj,wr.heap[w.heap.size]? =some o/\o.isCells=false):=JP ah;have cw:ϝ (Eu X1 w.heap.size (k+1) ((l.take (k+1)).map (·.seq))):=by
    show Eu _ _ _ _;rw[bc.o];exact q0
   obtain⟨c,hc⟩:=nM (((l.take k).map (·.seq)).count C);rw[hc]at c8 dc b7;have dm:IntKind.i64.wrap ((c:Int)+1)=(c:Int)+1:=by rw[ch.BA];omega
   have lw:w.heap.size+1<wr.heap.size:=bLt _ _ ap;have a0:Δ X1 (w+1) 0 (.map (some w.heap.size)):=(cOb (w:=wr) (a:=⟨w+1,0,none⟩) ((I.block (w.heap.size+1) (by rw[World.size_alloc];omega) (λe=>by injection e with e;omega)).trans (Below.heap_alloc _ _ _ lw))).trans ap;have ct:ϝ (An X1 (w+1) 187):=AW a9.o ((I.block (w.heap.size+1) (by rw[World.size_alloc];omega) (λe=>by injection e with e;omega)).trans (Below.heap_alloc _ _ _ lw));have ck:ϝ (Ϟ w X1):=⟨I.os.trans G.os,I.tape.trans G.tape,I.output.trans G.output,Nat.le_trans G.size (Nat.le_trans (Nat.le_of_lt (by rw[World.size_alloc];exact Nat.lt_succ_self _)) I.size),λg c3=>((I.block g (by rw[World.size_alloc];have:=G.size;omega) (λe=>by injection e with e;omega)).trans (Below.heap_alloc _ _ _ (by have:=G.size;omega))).trans (G.block g c3)⟩;clear hz ah bh q0 hc bu I
   gi_wp2
   exact⟨⟨k+1,ϟ,by go_num,cw.o,a0,ct,ck.o⟩,by simp[intOf];omega⟩
  ·have cb:k=H:=ϟ;have b9:(l.take k).map (·.seq)=l.map (·.seq):=by rw[cb,<-b0.o,take_length]
   rw[b9]at ah;have bv:=hV0 ah;have ay:¬((k:Int)<(H:Int)):=ϟ;have af:ϝ (JSt w0 wr b T p x s y t L):=HJ.o.below G;obtain⟨aj,ar,ak⟩:=F2 af.o.box.join side;have cd:OB wr w0 (Bl y side) (bufOf s side):=by
    unfold Bl bufOf;split
    ·exact af.o.r
    ·exact af.o.l
   have au:=hV0 cd;have di:w.heap.size+1<wr.heap.size:=bLt _ _ ap;obtain⟨kk,ca⟩:=nM (13+A1 side);rw[ca]at KB aj ar ak;obtain⟨ai,cc⟩:=nM ((bufOf s side).lim);rw[cc]at aj;obtain⟨ci,be⟩:=nM (Bl y side);rw[be]at ar ak au;obtain⟨ac,ad,⟨⟨Q,R,U⟩,ml⟩,rs⟩:=ci;dsimp only at ar ak;obtain⟨n',br⟩:=nM rs.length;have HN:=hV0 br;rw[br]at ak;have cl:=hV0 be;clear ah cd br ca cc be cb b9 hk;have lb:b<wr.heap.size:=af.o.box.lt
   gi_wp2_with (refine⟨trivial,rfl,?_⟩;first
    |(gi_at_call 144;refine(callsIn_wide.2 (KB.o _)).mono ?_;rintro e w' ⟨rfl,rfl⟩)
    |(gi_at_call 136;refine(callsIn_wide.2 (IH _ _ _ rfl rfl rfl _)).mono ?_;rintro e w' ⟨rfl,rfl⟩))
   have V1:Δ (ξ w' (ν ai Q R U ac n' ad) 29) w' 1 (vS Q R U):=ϣ;have V2:Δ (ξ w' (ν ai Q R U ac n' ad) 29) w' 2 (vS ac n' ad):=ϣ;have V8:Ϟ w' (ξ w' (ν ai Q R U ac n' ad) 29):=Ϫ;have T2:An (ξ w' (ν ai Q R U ac n' ad) 29) w'.heap.size 29:=⟨_,_,World.alloc_heap_new w' _⟩;have VM:=cLz V8 ap;have TM:=Ae a9.o V8;generalize (w'.alloc (.cells (ν ai Q R U ac n' ad) 29))=V at *;have a8:ϝ (JSt w0 V b T p x s y t L):=af.o.below V8;have cj:ϝ (Ϟ w V):=bT G V8;have a4:ϝ (Eu V w.heap.size k (l.map (·.seq))):=CF bv.o V8;have ba:ϝ (w.heap.size<V.heap.size/\w0.heap.size<=V.heap.size):=⟨Vx a4.o,a8.o.bl.size⟩;have bb:ϝ (OB V w0 ⟨ac,ad,((Q,R,U),ml),rs⟩ (bufOf s side)):=au.o.below V8;obtain⟨P,hP⟩:∃z:List Part,(((Q,R,U),ml)::rs)=z:=⟨_,rfl⟩;have cu:=hV0 hP;obtain⟨E,aw⟩:∃z:List Hdr,P.map (·.1)=z:=⟨_,rfl⟩;have bw:=hV0 aw;have bm:=J0 au.o.at V8 w'.heap.size (Rv E) V1 (by rw[HN.o];exact V2) (GX T2 Ϡ) (λa h0 ha=>GX (A6 bb.o.hds (by dsimp only at ha⊢;rw[ha];rfl)) Ϡ);obtain⟨r,ag⟩:=nM (partsB (bufOf s side));have cv:=hV0 ag;have al:ϝ (r.length=P.length):=by show _=_;rw[<-ag,<-hP];have:=bb.o.rlen;dsimp only at this;simp[partsB,this]
   have cy:ϝ (∀i,i<r.length->(r.getD i []).length<=χ):=λi F=>by
    have:=(b1.o.1.small).1 (r.getD i []) (by rw[ag];exact AD F);omega
   have cz:ϝ (∀i j,i<r.length->j<(r.getD i []).length->pl.i64 ((r.getD i []).getD j ϰ).seq):=λi j F hj=>b1.o.2 _ (by unfold Aa;rw[ag];exact mem_flatten.2 ⟨r.getD i [],AD F,AD hj⟩);obtain⟨A,bs⟩:=nM (l.map (·.seq));have cx:=hV0 bs;rw[bs]at a4;have c0:ϝ (NSt w0 V V w0.heap.size E (Dc (metE A) r 0)):=by
    show NSt _ _ _ _ _ _;rw[<-ag,<-aw,<-hP];exact WZ bb.o a8.o.bl
   dsimp only at bm;rw[hP]at bm;have av:E.length=P.length:=by rw[<-aw,lMp]
   clear ag hP aw bs V1 V2 T2 bv af au ap a9 KB aj ar ak;refine D6 (gf:=180) (lb:=#[.pointer (some ⟨w',0,none⟩)]) rfl (enters_of func180 Ϣ rfl) bm bR (λx hx=>by obtain⟨p,_,rfl⟩:=mem_map.1 hx;rfl) (λh k=>KeepO.trans h k) (λW l o o' _ h ho=>KeepO.put W l o o' h ho)
    (λi X=>NSt w0 V X w0.heap.size E (Dc (metE A) r i)/\Eu X w.heap.size k A) (λc X=>False)
    (λi X X' row O hg hr=>⟨O.1.row (by have:=ba.o.2;omega) hg hr,Ln O.2 hg (λe=>by have:=(hr _ e.symm).1;have:=ba.o.1;omega)⟩)
    (λc X X' row O hg hr=>O)
    ⟨c0.o,a4.o⟩
    (λi a' X=>a'={tmps:=#[.pointer (some ⟨b,0,none⟩),vI side,vS N H h3,undef,undef,undef,.pointer (some ⟨w+1,0,none⟩),undef,u8,hdV (P.getD i ϰ).1,undef,.map (some w.heap.size),vS N H h3,vI H,vI k,.bool false,u16,u17,u18,u19,u20,u21,u22,u23,.pointer (some ⟨b,0,none⟩),.pointer (some ⟨b,0,none⟩),.pointer (some ⟨b,13,none⟩),vI side,.pointer (some ⟨b,kk,none⟩),.pointer (some ⟨b,kk,none⟩),.agg #[vI ai,vS Q R U,vS ac n' ad],.func (.func 180) #[] #[.pointer (some ⟨w',0,none⟩)],hdV (P.getD i ϰ).1,undef,undef,undef,undef,undef,undef,undef,undef,undef,undef,undef,undef,undef,undef,undef,undef,undef,undef,undef,undef,undef,undef,undef,undef,undef],defers:=[]})
    (λi a' u X X' row O hg hr=>O) ?assign ?body ?done ?stop
   case assign=>
    intro l' k1 x1 X K hx F m;obtain⟨hk,a2⟩:=List.getElem?_eq_some_iff.1 hx;rw[lMp]at hk;rw[getElem_map]at a2;subst a2;have hd:P.getD k1 ϰ=P[k1]:=by rw[gDe,gEe hk];rfl
    have ao:=λW' N H h3=>m _ W' N H h3 rfl;rw[hd]at ao;clear m hd hx;obtain⟨⟨⟨z1,z2,z3⟩,zl⟩,hz⟩:∃z,P[k1]=z:=⟨_,rfl⟩;rw[hz]at ao⊢;unfold hdV at ao⊢;dsimp only at ao⊢
    gi_wp2
    exact ao X (KeepsFrom.refl _ _) (KeepO.refl _ _) F
   case body=>
    intro l' i x1 a' X hx dh dl an b5;obtain⟨an,b6⟩:=an;obtain⟨F,a2⟩:=List.getElem?_eq_some_iff.1 hx;rw[lMp]at F;have hd:P.getD i ϰ=P[i]:=by rw[gDe,gEe F];rfl
    have am:E.getD i hd0=(P[i]).1:=by rw[<-bw.o,gDe,getElem?_map,gEe F];rfl
    rw[hd]at b5;subst b5;have aa:=an.hlen (by rw[av];exact F) (by rw[al.o,av]);have db:=cy.o i (by rw[al.o];exact F);clear hx a2 hd;obtain⟨⟨⟨z1,z2,z3⟩,zl⟩,hz⟩:∃z,P[i]=z:=⟨_,rfl⟩;rw[hz]at am⊢;rw[am]at aa;dsimp only at am aa⊢;obtain⟨q,hq⟩:∃q,(r.getD i []).length=q:=⟨_,rfl⟩;have b2:=hV0 hq;rw[hq]at aa db;subst aa;have a5:=hV0 am;have a6:ϝ (i<E.length):=by show _<_;rw[av];exact F
    have a7:ϝ (i<r.length):=by show _<_;rw[al.o];exact F
    have bx:ϝ (r.length=E.length):=by show _=_;rw[al.o,av]
    have cp:=hV0 an;have aj:=hV0 b6;unfold hdV;dsimp only;clear hz hq am an F b6
    gi_wp2
    gi_loopw [35] (λt wr=> ∃j:Nat,j<=z2/\t=vI j/\NSt w0 V wr w0.heap.size E (doneD (metE A) r i j)/\Eu wr w.heap.size k A/\KeepO (Rv E) X wr/\KeepsFrom V.heap.size X wr) (λt _=>z2 - (intOf t).toNat)
    case atStart=>exact⟨0,Nat.zero_le _,rfl,by rw[TH a7.o];exact cp.o,aj.o,KeepO.refl _ _,KeepsFrom.refl _ _⟩
    case round=>
     obtain⟨j,hj,rfl,ab,ae,bn,ay⟩:=hrel;have cr:=hV0 ab;have c6:=ab.ko.cell (GX TM Ϡ) VM;by_cases c7:j<z2
     ·have ax:j<(r.getD i []).length:=by rw[b2.o];exact c7
      obtain⟨g,e,hg,x3,x5,x6,bk,bj⟩:=ab.read a6.o bx.o ax;rw[a5.o]at hg;injection hg with I c2
      clear c2;have HG:ϝ ((E.getD i hd0).1=some ⟨g,0,none⟩):=by show _=_;rw[a5.o];exact I
      have a1:=cz.o i j a7.o ax;rw[bk]at a1;have bo:=ED ae a1;have Z:ϝ (∀Y,Ϟ wr Y->NSt w0 V (φ Y g (j * 5+4) (.bool (e.met||decide (e.seq∈A)))) w0.heap.size E (doneD (metE A) r i (j+1))/\KeepO (Rv E) Y (φ Y g (j * 5+4) (.bool (e.met||decide (e.seq∈A))))):=λY J=>(cr.o.below J).put nR a6.o bx.o ax HG.o (by rw[bj];exact cLz J x5) (by rw[bj,bk]);have bd:ϝ (An wr g 63):=by
       obtain⟨df,ho⟩:=ab.op;have da:=ho.oe i a6.o;refine A6 da.own ?_;rw[a5.o,I];rfl
      have a3:ϝ (∀Y v,Ϟ wr Y->Eu (φ Y g (j * 5+4) v) w.heap.size k A):=λY v J=>OS (CF ae J) (heap_setCell_other _ _ _ _ (λM=>by
       dsimp only at M;obtain⟨o,N,H⟩:=JP ae;obtain⟨c,f,h3⟩:=bd.o;rw[M,h3]at N
       cases N
       cases H))
      have c1:=I.symm;subst c1;obtain⟨ek,et,C,⟨r1,r2,r3⟩,em⟩:=e;dsimp only at bo Z x3 x5 x6 a1;have lg:g<wr.heap.size:=bLt _ _ x3;have i1:(0:Int)<=(j:Int):=ϟ;have i2:(j:Int)<(z2:Int):=ϟ;have a0:Tryz.prog.follows .mixedOrders=true:=Ϣ;obtain⟨B,hB⟩:=nM (decide (C∈A));have c4:∀t,binOp .gtr t (vI ((A.count C:Nat):Int)) (vI 0)=pure (.bool B):=pl.Fl B (by rw[<-hB,<-Xy]);rw[hB]at Z;obtain⟨cn,bi⟩:=nM (A.count C);rw[bi]at bo c4;have bz:ϝ (∀Y,Eu Y w.heap.size k A->(Instr.lookup 187 (.map (some w.heap.size)) (vI C) false).run Tryz.prog Y= .ok (vI cn) Y):=λY hc=>by
       have:=ED hc a1;rw[bi]at this;exact this
      have cm:=hV0 ae;have co:ϝ (g≠w.heap.size+1):=tyAt_apart bd.o (AW TM (ab.ko.block (GX TM Ϡ) VM)) Ϡ;clear ab I ax HG bk bj ae hB bi bd;have b3:ϝ (∀Y,Ϟ wr Y->Δ Y g (j * 5+2) (vI C)/\Δ Y (w+1) 0 (.map (some w.heap.size))/\(Instr.lookup 187 (.map (some w.heap.size)) (vI C) false).run Tryz.prog Y= .ok (vI cn) Y):=λY J=>⟨cLz J x3,cLz J c6,bz.o _ (CF cm.o J)⟩;have b4:ϝ (∀Y v,Ϟ wr Y->Δ (φ Y g (j * 5+4) v) g (j * 5+2) (vI C)/\Δ (φ Y g (j * 5+4) v) (w+1) 0 (.map (some w.heap.size))/\(Instr.lookup 187 (.map (some w.heap.size)) (vI C) false).run Tryz.prog (φ Y g (j * 5+4) v)= .ok (vI cn) (φ Y g (j * 5+4) v)):=λY v J=>⟨(World.cell?_setCell_other _ _ _ _ (λM=>by injection M with _ M;omega)).trans (cLz J x3),(World.cell?_setCell_other _ _ _ _ (λM=>by injection M with M _;exact co.o M)).trans (cLz J c6),bz.o _ (a3.o Y v J)⟩;clear bo
      cases em with
      |true=>
       rw[Bool.true_or]at Z
       gi_wp2
       refine ZA 20 rfl a0 Ϣ (λ⟨_,_,h⟩=>h) (S:=λw'=>Δ w' g (j * 5+2) (vI C)/\Δ w' (w+1) 0 (.map (some w.heap.size))/\(Instr.lookup 187 (.map (some w.heap.size)) (vI C) false).run Tryz.prog w'= .ok (vI cn) w') (b3.o _ bR.drew) (λd=>?_);refine tkz 0 38 d ?_;refine tkz 1 39 d ?_;refine tkz 2 40 d ?_;refine tkz 3 41 d ?_;refine tkz 4 42 d ?_;refine tkz 5 43 d ?_;refine rD 6 λK m=>?_;go_simp;refine m.out _ _ d (λd=>?_);clear m K
       try simp only[Act.put,sI,sZ,sSz]
       refine tkz 7 45 d ?_;refine sk 8 46 d ?_;refine sk 9 47 d ?_;refine sk 10 48 d ?_;refine sk 11 49 d ?_;refine sk 12 50 d ?_;refine sk 13 51 d ?_;refine sk 14 52 d ?_;refine sk 15 53 d ?_;refine tkz 16 54 d ?_;refine tkz 17 55 d ?_;refine tkz 18 56 d ?_;refine rD 19 λK m=>?_;go_simp;refine m.out _ _ (b4.o _ _ bR.drew) (λd=>?_);clear m K;refine wpAnyH_done Ϣ ?_ _
       gi_wp2
       exact⟨⟨j+1,ϟ,by go_num,(Z.o _ bR).1.below bR.drew,CF (a3.o _ _ bR) bR.drew,bn.trans ((Z.o _ bR).2.trans (JF bR.drew)),ay.trans (((KeepsOthers.setCell _ _ _).from _).trans (Cl bR.drew))⟩,by simp[intOf];omega⟩
      |false=>
       rw[Bool.false_or]at Z
       gi_wp2
       refine ZA 20 rfl a0 Ϣ (λ⟨_,_,h⟩=>h) (S:=λw'=>Δ w' g (j * 5+2) (vI C)/\Δ w' (w+1) 0 (.map (some w.heap.size))/\(Instr.lookup 187 (.map (some w.heap.size)) (vI C) false).run Tryz.prog w'= .ok (vI cn) w') (b3.o _ bR.drew) (λd=>?_);refine tkz 0 38 d ?_;refine tkz 1 39 d ?_;refine tkz 2 40 d ?_;refine tkz 3 41 d ?_;refine tkz 4 42 d ?_;refine tkz 5 43 d ?_;refine rD 6 λK m=>?_;go_simp;refine m.out _ _ d (λd=>?_);clear m K
       try simp only[Act.put,sI,sZ,sSz]
       refine tkz 7 45 d ?_;refine tkz 8 46 d ?_;refine tkz 9 47 d ?_;refine tkz 10 48 d ?_;refine tkz 11 49 d ?_;refine tkz 12 50 d ?_;refine tkz 13 51 d ?_;refine tkz 14 52 d ?_;refine tkz 15 53 d ?_;refine tkz 16 54 d ?_;refine tkz 17 55 d ?_;refine tkz 18 56 d ?_;refine rD 19 λK m=>?_;go_simp;refine m.out _ _ (b4.o _ _ bR.drew) (λd=>?_);clear m K;refine wpAnyH_done Ϣ ?_ _
       gi_wp2
       exact⟨⟨j+1,ϟ,by go_num,(Z.o _ bR).1.below bR.drew,CF (a3.o _ _ bR) bR.drew,bn.trans ((Z.o _ bR).2.trans (JF bR.drew)),ay.trans (((KeepsOthers.setCell _ _ _).from _).trans (Cl bR.drew))⟩,by simp[intOf];omega⟩
     ·have c5:j=z2:=ϟ;have cs:ϝ (NSt w0 V wr w0.heap.size E (Dc (metE A) r (i+1))/\Eu wr w.heap.size k A):=by
       refine⟨?_,ae⟩;rw[<-WY a7.o,b2.o,<-c5];exact ab
      have dg:¬((j:Int)<(z2:Int)):=ϟ;clear ab ae
      gi_wp2
      exact⟨ay,bn,cs.o⟩
   case done=>
    rintro D X hD bq m;have cq:ϝ (NSt w0 V X w0.heap.size E (Dc (metE A) r P.length)):=by
     show NSt _ _ _ _ _ _;rw[lMp]at bq;exact bq.1
    clear bq
    gi_wp2
    refine⟨ϡ,.inl ⟨_,_,rfl,run_takeDeferred m,?_⟩⟩;have hn:=cq.o.rec_put m rfl (by have:=ba.o.2;omega) (.deferred none);rw[<-al.o,<-bw.o,<-cu.o,<-cv.o,TF]at hn;refine⟨.tuple #[],(by simp[results,results272,go_sem]),rfl,?_⟩;rw[cx.o];have cg:V.heap.size<=(X.putObj D (.deferred none)).heap.size:=by have N:=(Array.getElem?_eq_some_iff.1 m).1;simp;omega
    obtain⟨y',dd⟩:=JSt.met a8.o hT side A (by rw[cl.o];exact hn) cg;exact⟨y',dd,Zc HJ.o cj.o hn cg⟩
   case stop=>
    rintro D c X hD h m;exact h.elim
theorem Uj(b:Nat)(T:TypeId)(p:pl.Pln)(x:pl.PA)(s:Jn)(y:JX)(t:Value)(L:List CO)(side:Int)(hh:Hdr)(es:List EM)(l:List Ent)(base:Nat)(w0 w:ϛ)(h:JSt w0 w b T p x s y t L)(d:calmC T)(ok:okB (bufOf s side))(m:∀z∈Aa (bufOf s side),pl.i64 z.seq)(a:OE w base (hdV hh) es l)(i:l.length<=1000000)(j:∀z∈l,pl.i64 z.seq):
 η 272 #[μ b,vI side,hdV hh] w λe w'=>e= .returned (.tuple #[])/\∃n,JSt w0 w' b T p x (Av s side (Cb (l.map (·.seq)) (bufOf s side))) n t L/\JO w w':=
 have c:=Dq (p:=(hh,es)) a
 Nh b T p x s y t L side hh es l w0 w h d ok m (by rw[<-a.len];exact c.1.1) c.2 a.len (λk f=>(a.rows k f).seq) i j
end jn
namespace jn
open vl bf
attribute [local go_sem] Oper.semAt_some
variable {T e : TypeId} {w w' w0 w1 w2 : ϛ} {b base g o rc rn : Nat} {t v : Value} {L : List CO} {l : List Ent} {p : pl.Pln} {x : pl.PA} {s : Jn} {y : JX} {ra : Ϝ} {row : List Cel}
def Cs(T:TypeId)(w w':World):Prop:=Below 0 w w'/\∀g e,An w g e->e≠T->e≠55->w'.heap[g]? =w.heap[g]?
theorem Cs.refl(T:TypeId)(w:ϛ):Cs T w w:=⟨bR,λ_ _ _ _ _=>rfl⟩
theorem Cs.trans(h:Cs T w w1)(k:Cs T w1 w2):Cs T w w2:=⟨h.1.trans k.1,λg e d a c=>(k.2 g e (AW d (h.2 g e d a c)) a c).trans (h.2 g e d a c)⟩
theorem Cf(h:Ϟ w w'):Cs T w w':=⟨h.mono (Nat.zero_le _),λg e a _ _=>h.block g (AX a)⟩
theorem Ni(a:SD w w' b t)(f:An w b T)(h:CG w base t L):Cs T w w':=⟨a.1,λg e i c d=>Vs a f h c.symm d i⟩
theorem Cs.cell(h:Cs T w w')(f:An w g e)(h1:e≠T)(c:e≠55)(d:Δ w g o v):Δ w' g o v:=(cOb (w:=w) (a:=⟨g,o,none⟩) (h.2 g e f h1 c)).trans d
theorem Cs.ty(h:Cs T w w')(a:An w g e)(h1:e≠T)(c:e≠55):An w' g e:=AW a (h.2 g e a h1 c)
theorem Cs.oe{es:List EM}(h:Cs T w w')(a:calmC T)(d:OE w base v es l):OE w' base v es l:=d.other h.1.size (λg c=>c.elim (λk=>h.2 g _ k a.t.e.symm Ϡ) (λk=>h.2 g _ k a.t.v.symm Ϡ))
def BQ(T:TypeId)(w w':World):Prop:=Below 0 w w'/\∀g e,An w g e->e≠T->e≠55->e≠63->w'.heap[g]? =w.heap[g]?
theorem BQ.trans(h:BQ T w w1)(k:BQ T w1 w2):BQ T w w2:=⟨h.1.trans k.1,λg e f a c d=>(k.2 g e (AW f (h.2 g e f a c d)) a c d).trans (h.2 g e f a c d)⟩
theorem A7(h:Ϟ w w'):BQ T w w':=⟨h.mono (Nat.zero_le _),λg e a _ _ _=>h.block g (AX a)⟩
theorem Cs.m(h:Cs T w w'):BQ T w w':=⟨h.1,λg e d a c _=>h.2 g e d a c⟩
theorem JO.m(h:JO w w'):BQ T w w':=⟨h.1,λg e c _ _ a=>h.2 g e c a⟩
theorem BQ.cell(h:BQ T w w')(i:An w g e)(h1:e≠T)(c:e≠55)(d:e≠63)(f:Δ w g o v):Δ w' g o v:=(cOb (w:=w) (a:=⟨g,o,none⟩) (h.2 g e i h1 c d)).trans f
theorem Fz(h:JSt w0 w b T p x s y t L)(c:calmC T)(m:L.length<=1000000)(f:Ϟ w w1)(n:A4 w1 w (vS ra rn rc) row):
 η 271 #[μ b,vS ra rn rc] w1 λe w'=>e= .returned (.tuple #[])/\∃d,JSt w0 w' b T p x s y d (L++[⟨1,vS ra rn rc,row⟩])/\Cs T w1 w':=
 have a:=h.below f
 (UH b p x s y t T ra rn rc row L w0.heap.size w w1 a.box a.ty c.c c.t.v h.cg f n m).mono (by
  rintro e w' ⟨rfl,d,j,k,i⟩;exact⟨rfl,d,a.told c j k i,Ni i a.ty a.cg⟩)
theorem Qu{c:Ϝ}{f d:Nat}{j:List Cel}(h:JSt w0 w b T p x s y t L)(i:calmC T)(A:L.length<=1000000)(m:Ϟ w w1)(B:A4 w1 w (vS c f d) j)(n:Ϟ w1 w2)(C:A4 w2 w1 (vS ra rn rc) row):
 η 269 #[μ b,vS ra rn rc,vS c f d] w2 λe w'=>e= .returned (.tuple #[])/\∃k,JSt w0 w' b T p x s y k (L++[⟨3,vS ra rn rc,row⟩,⟨4,vS c f d,j⟩])/\Cs T w2 w':=
 have r:=bT m n;have a:=h.below r
 (Zb b p x s y t T ra c rn rc f d row j L w0.heap.size w2 a.box a.ty i.c i.t.v (h.cg.two2 m B n C) A).mono (by
  rintro e w' ⟨rfl,k,u,z,q⟩;exact⟨rfl,k,a.told i u z q,Ni q a.ty a.cg⟩)
theorem Uk(f:FuncId)(O:∀E w,(callFunc f E).run Tryz.prog w= .ok (.enter f E) w)(r:Array Value)(P:Nat->Bool)(n:Nat)(w:ϛ)(S:n<4611686018427387904)
 (H:∀i w1,i<n->Ϟ w w1->Calls Tryz.prog f (#[vI (i:Nat)]++r) w1 (θ w1 (.bool (P i)))) (F:∀a b,a<=b->b<n->P a=true->P b=true):
 η 285 #[vI n,.func (.func f) #[] r] w λe w'=>(∃k:Nat,k<=n/\e= .returned (vI k)/\(∀t,t<k->P t=false)/\(∀t,k<=t->t<n->P t=true))/\Ϟ w w':=by
 have G:ϝ (∀i w1,i<n->Ϟ w w1->CT f (#[vI (i:Nat)]++r) w1 (θ w1 (.bool (P i)))):=H;have M:=hV0 F;clear H F;go_enter func285,ntmps285;go_wp2
 go_loopw [5,6] (λC A wr=> ∃d c:Nat,C=vI d/\A=vI c/\d<=c/\c<=n/\Ϟ w wr/\ϝ ((∀t,t<d->P t=false)/\(∀t,c<=t->t<n->P t=true))) (λC A _=>(intOf A).toNat - (intOf C).toNat)
 case atStart=>exact⟨0,n,rfl,rfl,Nat.zero_le _,Nat.le_refl _,bR,(⟨λt j=>absurd j (Nat.not_lt_zero _),λt Q R=>by omega⟩:(∀t,t<0->P t=false)/\(∀t,n<=t->t<n->P t=true))⟩
 case round=>
  obtain⟨d,c,rfl,rfl,U,K,h,I⟩:=hrel;by_cases V:d<c
  ·have q:ϝ (∀w1,Ϟ wr w1->_):=λw1 J=>G.o ((d+c)/2) w1 ϟ (bT h J);obtain⟨B,u⟩:=nM (P ((d+c)/2));rw[u]at q;have D:=hV0 u;clear u
   cases B with
   |false=>
    go_wp2_with (go_at_fn f;refine(q.o _ bR).mono ?_;rintro e w' ⟨rfl,z⟩);go_roundw
    case rel=>
     have m:ϝ ((∀t,t<(d+c)/2+1->P t=false)/\(∀t,c<=t->t<n->P t=true)):=⟨λt j=>by
      cases e:P t with
      |false=>rfl
      |true=>
       have:=M.o t ((d+c)/2) ϟ ϟ e;rw[D.o]at this;exact absurd this Ϡ,I.o.2⟩
     exact⟨(d+c)/2+1,c,by rw[show((d:Int)+(c:Int))/2+1=(((d+c)/2+1:Nat):Int) by omega],rfl,ϟ,K,bT h z,m⟩
    case measure=>simp[intOf];omega
   |true=>
    go_wp2_with (go_at_fn f;refine(q.o _ bR).mono ?_;rintro e w' ⟨rfl,z⟩);go_roundw
    case rel=>
     have m:ϝ ((∀t,t<d->P t=false)/\(∀t,(d+c)/2<=t->t<n->P t=true)):=⟨I.o.1,λt j N=>M.o ((d+c)/2) t j N D.o⟩;exact⟨d,(d+c)/2,rfl,by rw[show((d:Int)+(c:Int))/2=(((d+c)/2:Nat):Int) by omega],ϟ,ϟ,bT h z,m⟩
    case measure=>simp[intOf];omega
  ·obtain rfl:c=d:=ϟ;go_wp2;go_ret;exact⟨⟨c,ϟ,rfl,I.o.1,I.o.2⟩,h⟩
def Qv(l:List Ent):Prop:=∀i j,i<=j->j<l.length->(l.getD i ϰ).time<=(l.getD j ϰ).time
theorem Sb{t:Int}{k:Nat}(j:k<=l.length)(h1:∀i,i<k->decide ((l.getD i ϰ).time>t)=false)(h:∀i,k<=i->i<l.length->decide ((l.getD i ϰ).time>t)=true):l.take k=l.filter λy=>decide (y.time<=t):=by
 have e:l=l.take k++l.drop k:=(take_append_drop k l).symm
 conv=>rhs;rw[e]
 rw[filter_append];have d:(l.take k).filter (λy=>decide (y.time<=t))=l.take k:=filter_eq_self.2 (λy c=>by
  obtain⟨i,a,rfl⟩:=getElem_of_mem c;rw[length_take]at a;have:=of_decide_eq_false (h1 i ϟ);rw[getD_at ϟ]at this;rw[getElem_take];exact decide_eq_true ϟ)
 have f:(l.drop k).filter (λy=>decide (y.time<=t))=[]:=filter_eq_nil_iff.2 (λy c=>by
  obtain⟨i,a,rfl⟩:=getElem_of_mem c;rw[length_drop]at a;have:=of_decide_eq_true (h (k+i) ϟ ϟ);rw[getD_at ϟ]at this;rw[getElem_drop];simp;omega)
 rw[d,f,append_nil]
theorem Qk{s n c:Nat}{a:Ϝ}{j:List Value}(h:w.ownsRow base e s (vS a n c) n j):n<=c:=by
 rcases h.2 with⟨d,q⟩|⟨g,k,m,d,i⟩
 ·omega
 ·injection d with _ _ f
  subst f;exact i.2.2.1
theorem Xz(i:Nat)(a:Ϝ)(n c:Nat)(es:List EM)(l:List Ent)(t:Int)(A C:Nat)(w:ϛ)(h:i<l.length)(z:n=l.length)(m:BG w a es)(f:ERs w es l)(I:Δ w A 0 (vS a n c))(J:Δ w C 0 (vI t)):
 η 286 #[vI (i:Nat),μ A,μ C] w (θ w (.bool (decide ((l.getD i ϰ).time>t)))):=by
 obtain⟨j,q,u,E,r,F,G,H⟩:=m i (by rw[f.1];exact h);subst u;rw[(f.2 i h).time]at r;obtain⟨T,k⟩:=nM ((l.getD i ϰ).time);rw[k]at r⊢;obtain⟨B,d⟩:=nM (decide (T>t));have K:∀D,binOp .gtr D (vI T) (vI t)=pure (.bool B):=pl.Fl B d;rw[d];have M:(0:Int)<=(i:Int):=ϟ;have N:(i:Int)<(n:Int):=ϟ;clear E F G H m f k d z h;go_enter func286,ntmps286;go_wp2
 go_region_held3 (λw'=>Δ w' A 0 (vS (some ⟨j,q,none⟩) n c)/\Δ w' C 0 (vI t)/\Δ w' j (q+i * 5+1) (vI T)) (first|go_keep) (fail)
 all_goals
  go_wp2;go_ret;exact⟨rfl,bR.drew⟩
theorem Z6(a:Ϝ)(n c:Nat)(es:List EM)(l:List Ent)(t:Int)(base:Nat)(w:ϛ)(m:OE w base (vS a n c) es l)(E:n=l.length)(hs:n<=4096)(F:Qv l):
 η 284 #[vS a n c,vI t] w λe w'=>(∃k:Nat,k<=n/\e= .returned (vS a k c)/\l.take k=l.filter λy=>decide (y.time<=t))/\Ϟ w w':=by
 have r:=Dq (p:=((a,n,c),es)) m;have Y:n<=c:=by
  have:=m.own;have S:es.length=n:=r.1.1.symm;rw[S]at this;exact Qk this
 have I:ϝ (∀(A C:Nat) w1,Ϟ w w1->Δ w1 A 0 (vS a n c)->Δ w1 C 0 (vI t)->CT 285 #[vI n,.func (.func 286) #[] #[μ A,μ C]] w1 λe w'=>(∃k:Nat,k<=n/\e= .returned (vI k)/\l.take k=l.filter λy=>decide (y.time<=t))/\Ϟ w1 w'):=λA C w1 z O P=>by
  refine(Uk 286 (enters_of func286 Ϣ rfl) #[μ A,μ C] (λi=>decide ((l.getD i ϰ).time>t)) n w1 ϟ (λi w2 Z f=>Xz i a n c es l t A C w2 ϟ E (BM (BM r.2 z) f) ((m.ers.below z).below f) (cLz f O) (cLz f P)) (λi j U hj h=>?_)).mono ?_
  ·have h:=of_decide_eq_true h;have:=F i j U ϟ;exact decide_eq_true ϟ
  ·rintro e w' ⟨⟨k,q,rfl,K,M⟩,Q⟩;exact⟨⟨k,q,rfl,Sb ϟ K (λi N X=>M i N ϟ)⟩,Q⟩
 clear m F r E;go_enter func284,ntmps284;go_wp2;generalize d:(World.alloc (World.alloc w _) _)=V;have B:Ϟ w V:=by rw[<-d];exact Ϫ.alloc ϡ _
 have u:Δ V w 0 (vS a n c):=by subst d;go_simp
 have J:Δ V (w+1) 0 (vI t):=by subst d;go_simp
 clear d
 go_region_held3 (λw'=>Δ w' w 0 (vS a n c)) (first|exact cLz G u|go_keep)
  (first
   |(go_at_call 285;refine(I.o _ _ _ B.drew u J).mono ?_;rintro e W ⟨⟨k,q,rfl,D⟩,R⟩;have G:Ϟ V W:=bR.drew.trans R;have i1:(0:Int)<=(k:Int):=ϟ;have i2:(k:Int)<=(c:Int):=ϟ;have H:ϝ (l.take k=l.filter λy=>decide (y.time<=t)):=D;clear D))
 all_goals
  go_wp2;go_ret;exact⟨⟨k,q,rfl,H.o⟩,bT B G⟩
end jn
end Go.Proofs.YtdohnkkbkfhphaaGreat
