import Derived.Test.YtfkihidbnfkbaaaGreatDoorPv34
import Derived.Test.YtfkihidbnfkbaaaGreatDoorPv35
import Derived.Test.YtfkihidbnfkbaaaGreatDoorTie
import Derived.LaidMore
import Derived.Deep.DeepWitnessRowRef
set_option linter.all false
set_option maxHeartbeats 4000000
set_option maxRecDepth 100000
open Inhabited renaming default->ϰ
open List renaming length->ϲ
namespace Go.Proofs.YtfkihidbnfkbaaaGreatDoor
open ChangeShapes WideShapes ChangeAt RowKit List Proofs.Tryz
namespace cd
open vl bf
def Cf(c:ch.Cnt):List UInt8:=Ck c.r++AM c.n
def IY(v:List ch.Cnt):List UInt8:=AM (ϲ v)++v.flatMap Cf
structure okC(c:ch.Cnt):Prop where
 row:B8 c.r
 len:ϲ c.r<=8
 err:Aq c.r=0
def Mn{c:ch.Cnt}(h:okC c):ϲ (Cf c)<=2000:=by
 have:=Hw h.len h.err;unfold Cf;rw[lAp,As];omega
theorem Ab5{l:List ch.Cnt}(h:∀x∈l,okC x):ϲ (l.flatMap Cf)<=2000 * ϲ l:=by
 induction l with
 |nil=>simp
 |cons x l ih=>
  have a:=Mn (h x (E0 ..));have b:=ih (λy hy=>h y (EQ _ hy));rw[aH,lAp,DP];omega
theorem Aeg(base C B:Nat)(f:List UInt8)(a:Ϡ)(cap:Nat)(c:ch.Cnt)(w:ϟ)(m:base<=w.heap.size)(h:WR w base B f)(l:WP w C B)(ha:vl.rowAt w a c.r)(g:okC c)(H:ϲ f<=9000000000000):
 χ 58 #[.agg #[vS a (ϲ c.r) cap,vI c.n],ω C] w (WO base B w (f++Cf c)):=by
 have q:=hIz (λ(b:ϟ) (d:Ϣ w b)=>Iv base B f a cap c.r b (B0 m d.size) (h.below d) ϣ (vl.Ac ha d) g.row g.len g.err);have s:ϡ (∀b,WR b base B (f++Ck c.r)->base<=b.heap.size->CT 60 #[ω B,vI c.n] b (WO base B b (f++Cf c))):=λb z d=>by
  have:=Cd base B _ c.n b d z (by have:=Hw g.len g.err;rw[lAp];omega);unfold Cf;rw[<-Bx];exact this
 have G:=A7 l.1;have v:=l.2;obtain⟨n,r⟩:=nM (ϲ c.r);rw[r]at q⊢;clear ha g h r;go_enter func58,ntmps58;go_wp2_with fail;generalize k:(World.alloc w _)=V;have i:Ϣ w V:=by rw[<-k];exact Ϯ
 have p:Am V w 83:=by subst k;exact⟨_,_,DE _ _⟩
 have j:ϡ (CW V w.heap.size 83 0 (vS a n cap)/\CW V w.heap.size 83 1 (vI c.n)/\WP V C B):=by
  refine⟨⟨p,?_⟩,⟨p,?_⟩,l.below i⟩<;>(subst k;go_simp)
 clear k p l v;have t:=j.o.1.2;have E:=j.o.2.2.2;refine(q.o V i).mono ?_;rintro e b ⟨rfl,A,d,o⟩;replace E:=(j.o.2.2.keep o).2;have F:=(j.o.2.1.keep o Ϥ Ϥ).2;clear t;have y:base<=b.heap.size:=B0 (B0 m i.size) d.size;go_wp2_with fail;refine(s.o b A y).mono ?_;rintro e I ⟨rfl,D,u,x⟩;go_wp2
 go_end0
 exact⟨rfl,D,(i.mono m).trans (d.trans u),(keepW.of i).trans (o.trans x)⟩
theorem Ab6(d:ϟ)(C B:Nat)(g:List UInt8)(a:Ϡ)(cap:Nat)(l:List ch.Cnt)(w:ϟ)(I:Ϣ d w)(h:WR w d.heap.size B g)(V:WP w C B)(ha:ch.viewAt d a l)(M:∀x∈l,okC x)(hn:ϲ l<=10000)(hl:ϲ g<=6000000000000):
 χ 57 #[ω B,vS a (ϲ l) cap,.func (.func 58) #[] #[ω C]] w (WO d.heap.size B w (g++IY l)):=by
 have S:=hIz (λn=>Cd d.heap.size B g n w I.size h ϣ);have N:=hV0 ha;have F:ϡ (∀i,i<ϲ l->okC (l.getD i ϰ)):=λi Y=>M _ (by rw[gDe,gEe Y];exact GE Y);have HT:ϡ (∀k,ϲ ((l.take k).flatMap Cf)<=20000000):=λk=>by
  have:=Ab5 (l:=l.take k) (λx hx=>M x (cJ hx));have h2:ϲ (l.take k)<=ϲ l:=fB ..;omega
 have D:ϡ (∀k,k<ϲ l->(l.take (k+1)).flatMap Cf=(l.take k).flatMap Cf++Cf (l.getD k ϰ)):=λk v=>Ec Cf l k v;have O:ϡ (g++AM (ϲ l)++(l.take (ϲ l)).flatMap Cf=g++IY l):=by
  show _=_;unfold IY;rw[Ok,Bx]
 have G:ϡ (∀k,k<ϲ l->∀c j f o,d.heap.size<=c.heap.size->WR c d.heap.size B j->WP c C B->vl.rowAt c f (l.getD k ϰ).r->ϲ j<=9000000000000->CT 58 #[.agg #[vS f (ϲ (l.getD k ϰ).r) o,vI (l.getD k ϰ).n],ω C] c (WO d.heap.size B c (j++Cf (l.getD k ϰ)))):=λk v c j f o u h1 ad hr ag=>Aeg d.heap.size C B j f o _ c u h1 ad hr (F.o k v) ag;obtain⟨n,y⟩:=nM (ϲ l);have HN:=hV0 y;rw[y]at F D G hn⊢;rw[y]at O;have HC:=hV0 V;have A:=hV0 I;clear ha M y h V I F;go_enter func57,ntmps57;go_wp2_with fail;refine(S.o _).mono ?_;rintro e c ⟨rfl,ab,u,Z⟩;have R:ϡ (WR c d.heap.size B (g++AM n)/\Below d.heap.size w c/\keepW w c):=⟨ab,u,Z⟩;clear ab u Z S;go_wp2_with fail
 go_loopw [14] (λi wr=> ∃k:Nat,k<=n/\i=vI k/\WR wr d.heap.size B (g++AM n++(l.take k).flatMap Cf)/\Below d.heap.size w wr/\keepW w wr) (λi _=>n - (intOf i).toNat)
 case atStart=>exact⟨0,At _,rfl,by simpa using R.o.1,R.o.2⟩
 case round=>
  obtain⟨k,v,rfl,z,q,J⟩:=hrel;by_cases L:k<n
  ·obtain⟨b,ak,f,o,e,s,aa,H⟩:=N.o k (by rw[HN.o];exact L);subst e;have t:=A.o.trans q;replace s:=cLz t s;replace H:=cLz t H;have P:ϡ (∀W,Ϣ wr W->vl.rowAt W f (l.getD k ϰ).r):=λW hW=>vl.Ac (vl.Ac aa t) hW;have ai:=HT.o k;have K:=G.o k L;have Q:ϡ ((l.take (k+1)).flatMap Cf=(l.take k).flatMap Cf++Cf (l.getD k ϰ)):=D.o k L;obtain⟨E,T⟩:=nM (Cf (l.getD k ϰ));rw[T]at K Q;obtain⟨X,U⟩:=nM (l.getD k ϰ);rw[U]at K s H P;obtain⟨m,hm⟩:=nM (ϲ X.r);rw[hm]at K s;have KH:ϡ (∀c j f o,d.heap.size<=c.heap.size->WR c d.heap.size B j->WP c C B->vl.rowAt c f X.r->ϲ j<=9000000000000->CT 58 #[.agg #[vS f m o,vI X.n],ω C] c (WO d.heap.size B c (j++E))):=K;have r:ϡ (WR wr d.heap.size B (g++AM n++(l.take k).flatMap Cf)/\Below d.heap.size w wr/\keepW w wr):=⟨z,q,J⟩;have aj:=q.size;have i1:=nn0 k;have i2:(k:Int)<(n:Int):=ϣ;clear K T U hm z q J t G N D aa;go_wp2_with fail;have p:Ϣ wr (ϊ wr #[vS f m o,vI X.n] 83):=Ϯ;refine(KH.o _ _ _ _ (by have:=A.o.size;have:=p.size;omega) (r.o.1.below p) ((HC.o.keep r.o.2.2).below p) (P.o _ p) (by simp only[lAp,As];omega)).mono ?_;rintro e w2 ⟨rfl,ah,ac,ae⟩;go_wp2;go_roundw;exact⟨k+1,ϣ,by go_num,by rw[Q.o,<-Bx];exact ah,r.o.2.1.trans ((p.mono (by have:=A.o.size;omega)).trans ac),r.o.2.2.trans ((keepW.of p).trans ae)⟩;simp[intOf];omega
  ·have af:k=n:=ϣ;subst af;have i2:¬((k:Int)<(k:Int)):=ϣ;rw[O.o]at z;go_wp2
   go_end0
   exact⟨rfl,z,q,J⟩
def VO.keptR{w w':ϟ}{R base:Nat}{v:Value}{out:List ch.Cnt}(h:ch.VO w base v out)(c:Ah R w w')(b:Am w R 124):ch.VO w' base v out:=
 h.other (λg a=>by
  rcases a with a|a
  ·exact c.2 g (A7 a) (tyAt_apart a b Ϥ)
  ·exact c.2 g (A7 a) (tyAt_apart a b Ϥ))
end cd
namespace cd
open vl bf jn
variable {w : ϟ}
def AgL(e:Eng):List UInt8:=GI e.j++AM 0++IY e.v
def Zg(base B:Nat)(a:List UInt8)(w:ϟ)(h:WR w base B a):
 χ 29 #[ω B] w λo c=>o= .returned (.string ⟨a.toArray⟩)/\c=w:=by
 obtain⟨v,d,b⟩:=h.cell;have e:=IQ b;clear h;go_enter func29,ntmps29;go_wp2;go_ret;exact⟨rfl,rfl⟩
def VP(w:ϟ):WR (ϊ w #[ώ] 64) w.heap.size w.heap.size []:=
 ⟨⟨vS none 0 0,ϧ,KX _ _ _ _⟩,ϧ,⟨_,_,DE _ _⟩,HU _⟩
def WR.mono{base a B:Nat}{b:List UInt8}(h:WR w base B b)(c:a<=base):WR w a B b:=by
 obtain⟨v,d,e⟩:=h.cell;exact⟨⟨v,d,World.ownsRow.mono e c⟩,h.frz,h.tb,B0 c h.low⟩
theorem SB.sets{N:Nat}:∀(l:List Value) (o:Nat) (w:ϟ) (a:List Value),SB w N a->o+ϲ l<=ϲ a->SB (w.setCells N o l) N (a.take o++l++a.drop (o+ϲ l))
 |[],o,w,a,h,_=>by
  show SB w N _;simpa using h
 |u::l,o,w,a,h,hl=>by
  simp only[DP]at hl;have b:=SB.sets l (o+1) (ό w N o u) (a.set o u) (h.set o u ϣ) (by rw[bI];omega);have e:(a.set o u).take (o+1)++l++(a.set o u).drop (o+1+ϲ l)=a.take o++(u::l)++a.drop (o+ϲ (u::l)):=by
   rw[List.drop_set_of_lt ϣ,M1 (by rw[bI];omega),List.take_set_of_le nR,List.getElem_set_self,DP];simp[cU,Nat.add_comm 1]
  rw[e]at b;exact b
def To(p:Addr)(w:ϟ):
 CallsD prog 74 #[.pointer (some p)] .returning w λe c d=>e= .returned (.tuple #[])/\c= .returning/\d=w:=by
 refine callsD_of_wpS func74 rfl λa f b=>?_;apply wpS_seq;apply wpS_region;simp[wpOpsS,go_sem,recoverD,b,ntmps74,Exit.thenS];refine wpS_cond (t:=false) (by simp[Act.eval,Array.replicate]) ?_;simp only[dE,bK];refine wpS_of_wp (wp_skip ?_)
 cases a
 simp_all [bodyPostS,results,results74]
def Qt{w':ϟ}{b:Nat}{p:pl.Pln}{x:pl.PA}(h:boxP w b p x)(d:w'.heap[b]? =w.heap[b]?):boxP w' b p x:=by
 have c:∀{i:Nat} {v:Value},Δ w b i v->Δ w' b i v:=λ{i v} e=>(cOb (w:=w) (a:=⟨b,i,none⟩) d).trans e;obtain⟨f,g,m,n,o,q,r,s,t,u,j,k,l⟩:=h;exact⟨c f,c g,c m,c n,c o,c q,c r,c s,c t,c u,c j,c k,c l⟩
def AfF(x:Ent)(h:x∈Ab En5.j.L\/x∈Ab En5.j.R):x=Lm sK\/x=Lm2 sK\/x=Rm sK:=by
 rcases h with h|h
 ·obtain⟨_,a,b⟩:=NF sK;have e:Ab En5.j.L=En5.j.L.mem++En5.j.L.runs.flatten:=rfl;rw[e,show En5.j.L.runs=[]from a,eV,Nd]at h;have:=b.mem_iff.1 h;simp only[E3,SW,or_false]at this;exact this.elim .inl (λk=>.inr (.inl k))
 ·have e:Ab En5.j.R=[Rm sK]:=rfl;rw[e,M2]at h;exact .inr (.inr h)
def MN:ϲ (Ab En5.j.L)=2/\(ϲ (Ab En5.j.R))=1/\(ϲ En5.j.L.runs)=0/\(ϲ En5.j.R.runs)=0:=by
 obtain⟨_,a,b⟩:=NF sK;have e:Ab En5.j.L=En5.j.L.mem++En5.j.L.runs.flatten:=rfl;refine⟨?_,rfl,?_,rfl⟩
 ·rw[e,show En5.j.L.runs=[]from a,eV,Nd];exact b.length_eq
 ·rw[show En5.j.L.runs=[]from a];rfl
def Age:sK.size=9:=Ϧ
def AgM(x:Ent)(h:x=Lm sK\/x=Lm2 sK\/x=Rm sK):okW x:=by
 rcases h with rfl|rfl|rfl
 ·exact⟨by show sK.size<=2000;rw[Age];decide,FA Ϥ Ϥ,Ϥ,by decide+kernel⟩
 ·exact⟨by show sK.size<=2000;rw[Age];decide,FA Ϥ Ϥ,Ϥ,by decide+kernel⟩
 ·exact⟨by show sK.size<=2000;rw[Age];decide,FA Ϥ Ϥ,Ϥ,by decide+kernel⟩
def AfG:okBW En5.j.L:=⟨λx a=>AgM x (AfF x (.inl a)),by rw[MN.1];decide,by rw[MN.2.2.1];decide⟩
def AfH:okBW En5.j.R:=⟨λx a=>AgM x (AfF x (.inr a)),by rw[MN.2.1];decide,by rw[MN.2.2.2];decide⟩
def AgN:∀c∈En5.v,okC c:=by
 intro c a;rcases E3.1 a with rfl|a
 ·exact⟨XA,Ϥ,by decide+kernel⟩
 ·rw[M2.1 a];exact⟨AaX,Ϥ,by decide+kernel⟩
def few5:ϲ (BV En5.j.L)+ϲ (BV En5.j.R)<=30000:=by
 have a (b:Buf) (h:okBW b) (c:ϲ (Ab b)<=2) (g:ϲ b.runs=0):ϲ (BV b)<=10000:=by
  have d:=OG h;have f:=O1 h.mem.1;have e:Ab b=b.mem++b.runs.flatten:=rfl;rw[e,lAp]at c;unfold BV;rw[lAp];unfold BI;rw[lAp,As];omega
 have:=a _ AfG (by rw[MN.1];decide) MN.2.2.1;have:=a _ AfH (by rw[MN.2.1];decide) MN.2.2.2;omega
def AgO:ϲ (IY En5.v)<=5000:=by
 have a:=Mn (AgN _ (E0 ..));have b:=Mn (AgN _ (EQ _ (E0 ..)));show(ϲ (IY [_,_]))<=5000;unfold IY;simp only[lAp,As,aH,flatMap_nil,NS];omega
def Aeh:ϲ (AgL En5)<=40000:=by
 have:=few5;have:=AgO;unfold AgL GI;simp only[lAp,As];omega
def Tp:wfEn En5:=NG (AaZ (p:=sP) sB) AaY (by show(2:Nat)<=_;decide)
def Tq:En sP En5=0:=st5.2
def AgP:Uh En5.j:=by
 have c (b:Buf) (h:okBW b) (d:b.runs=[]):(∀l∈partsB b,ϲ l<=ύ)/\∀y∈Ab b,ϲ y.row<=ύ:=by
  refine⟨λl a=>?_,λy hy=>B0 (h.ents y hy).len Ϥ⟩;unfold partsB at a;rw[d]at a;rw[M2.1 a];exact B0 h.mem.2 Ϥ
 exact⟨c _ AfG (NF sK).2.1,c _ AfH rfl⟩
def Oq:List UInt8:=(Aas [97,98,99]).1
def Aei:Aas [97,98,99]=(Oq,0):=Ϧ
def Aej:Xf Oq=([97,98,99],0):=Ϧ
def XL:ϲ Oq=11:=Ϧ
def Ab7:crc [49,50,51,52,53,54,55,56,57]=3421780262:=Ϧ
attribute [local go_sem] Oper.semAt_some
end cd
namespace cd
open vl bf jn
end cd
namespace cd
variable {W : ϟ}
def AgQ:prog.globalNamed "meetwater/code.nibbles" =some 0:=Ϧ
def tNib:(prog.globals[0]?).map (·.type)=some 61:=Ϧ
def uNib:prog.underlying 61=some (.array 16 26):=Ϧ
def uU32:prog.underlying 26=some (.int .u32):=Ϧ
def c26:prog.cellsOf 26=1:=Ϧ
def c61:prog.cellsOf 61=16:=Ϧ
def lays:List (String×DataW Unit):=[("meetwater/tape.errWrong",Rows.laid_meetwater_tape_errWrong),("meetwater/code.nibbles",Rows.laid_meetwater_code_nibbles)]
def zs:List Int:=Se.map Int.ofNat
def Agf(h:laidMetH prog lays W):LC W:=by
 rw[MakeChecks.laidMetH_plain _ _ _ Ϧ]at h;obtain⟨v,⟨o,z,i,m,t,x,q,r,s,hd0,⟨p,A,l,n,u,y,c,f,g,b,_,_⟩,_⟩,_⟩:=h;obtain rfl:=aI (AgQ.symm.trans c);obtain rfl:=aI (tNib.symm.trans f);have d:Lib.TabIs prog W "meetwater/code.nibbles" .u32 zs:=by
  unfold Lib.TabIs;rw[g,<-Lib.cells_of_tab (k:=.u32) (zs:=zs) uNib uU32 c26 c61 b]
 intro j a;have:=d.cell AgQ j (show j<ϲ zs from a);rw[this];have e:zs.getD j 0=Int.ofNat (Se.getD j 0):=by
  unfold zs;rw[gDe,gDe,L7,gEe (show j<ϲ Se from a)];rfl
 rw[e];rfl
theorem Agg(h:laidMetH prog lays W):∃T a,Δ W 1 0 (.iface T a):=by
 rw[MakeChecks.laidMetH_plain _ _ _ Ϧ]at h;obtain⟨o,⟨m,q,k,l,n,p,d,j,b,hd0,_⟩,_⟩:=h;obtain rfl:=aI ((show prog.globalNamed "meetwater/tape.errWrong" =some 1 by kernel_rfl).symm.trans d);obtain rfl:=aI ((show(prog.globals[1]?).map (·.type)=some 261 by kernel_rfl).symm.trans j);obtain⟨_,u,v,e,_,_⟩:=iface_of_trod (ms:=#[("Error",67)]) Ϧ hd0;unfold World.var? at b;rw[d,Option.bind_some]at b;split at b
 ·rename_i g t c f;obtain rfl:=aI b;refine⟨u,v,?_⟩;have i:g=#[.iface u v]:=Array.toList_inj.1 e;rw[i]at f;simp[World.cell?,f]
 ·cases b
end cd
