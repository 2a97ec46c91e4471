import Derived.Test.YtfkihidbnfkbaaaGreatDoorPb37
import Derived.Test.YtfkihidbnfkbaaaGreatDoorPb38
import Derived.Test.YtfkihidbnfkbaaaGreatDoorPb39
import Derived.Test.YtfkihidbnfkbaaaGreatDoorTie
import Derived.LaidMore
import Derived.Deep.DeepWitnessRowRef
set_option linter.all false
open Go.ChangeShapes Go.WideShapes Go.ChangeAt Go.RowKit List
namespace Go.Proofs.YtfkihidbnfkbaaaGreatDoor
namespace cd
open vl bf jn
theorem AcI(x:Ent)(h:x∈Ac En5.j.L\/x∈Ac En5.j.R):x=Lm sK\/x=Lm2 sK\/x=Rm sK:=by
 rcases h with h|h
 ·obtain⟨_,a,b⟩:=N5 sK;have e:Ac En5.j.L=En5.j.L.mem++En5.j.L.runs.flatten:=rfl;rw[e,show En5.j.L.runs=[]from a,flatten_nil,append_nil]at h;have:=b.mem_iff.1 h;simp only[mem_cons,not_mem_nil,or_false]at this;exact this.elim .inl (λk=>.inr (.inl k))
 ·have e:Ac En5.j.R=[Rm sK]:=rfl;rw[e,mem_singleton]at h;exact .inr (.inr h)
theorem Lw:(Ac En5.j.L).length=2/\(Ac En5.j.R).length=1/\En5.j.L.runs.length=0/\En5.j.R.runs.length=0:=by
 obtain⟨_,a,b⟩:=N5 sK;have e:Ac En5.j.L=En5.j.L.mem++En5.j.L.runs.flatten:=rfl;refine⟨?_,rfl,?_,rfl⟩
 ·rw[e,show En5.j.L.runs=[]from a,flatten_nil,append_nil];exact b.length_eq
 ·rw[show En5.j.L.runs=[]from a];rfl
theorem Adu:sK.size=9:=Ϡ
theorem Aej(x:Ent)(h:x=Lm sK\/x=Lm2 sK\/x=Rm sK):okW x:=by
 rcases h with rfl|rfl|rfl
 ·exact⟨by show sK.size<=2000;rw[Adu];decide,Em Ϟ Ϟ,Ϟ,by decide+kernel⟩
 ·exact⟨by show sK.size<=2000;rw[Adu];decide,Em Ϟ Ϟ,Ϟ,by decide+kernel⟩
 ·exact⟨by show sK.size<=2000;rw[Adu];decide,Em Ϟ Ϟ,Ϟ,by decide+kernel⟩
theorem AcJ:okBW En5.j.L:=⟨λx a=>Aej x (AcI x (.inl a)),by rw[Lw.1];decide,by rw[Lw.2.2.1];decide⟩
theorem AcK:okBW En5.j.R:=⟨λx a=>Aej x (AcI x (.inr a)),by rw[Lw.2.1];decide,by rw[Lw.2.2.2];decide⟩
theorem Aek:∀c∈En5.v,okC c:=by
 intro c a;rcases mem_cons.1 a with rfl|a
 ·exact⟨Vo,Ϟ,by decide+kernel⟩
 ·rw[mem_singleton.1 a];exact⟨Aap,Ϟ,by decide+kernel⟩
theorem few5:(Cp En5.j.L).length+(Cp En5.j.R).length<=30000:=by
 have a (b:Buf) (h:okBW b) (c:(Ac b).length<=2) (g:b.runs.length=0):(Cp b).length<=10000:=by
  have d:=Mu h;have f:=Na h.mem.1;have e:Ac b=b.mem++b.runs.flatten:=rfl;rw[e,lAp]at c;unfold Cp;rw[lAp];unfold Bw;rw[lAp,Am];omega
 have:=a _ AcJ (by rw[Lw.1];decide) Lw.2.2.1;have:=a _ AcK (by rw[Lw.2.1];decide) Lw.2.2.2;omega
theorem Ael:(Hx En5.v).length<=5000:=by
 have a:=Lf (Aek _ (mem_cons_self ..));have b:=Lf (Aek _ (mem_cons_of_mem _ (mem_cons_self ..)));show(Hx [_,_]).length<=5000;unfold Hx;simp only[lAp,Am,flatMap_cons,flatMap_nil,length_nil];omega
theorem Abq:(Aeh En5).length<=40000:=by
 have:=few5;have:=Ael;unfold Aeh FY;simp only[lAp,Am];omega
theorem QP:wfEn En5:=N6 (Aar (p:=sP) sB) Aaq (by show(2:Nat)<=_;decide)
theorem Za:Dt sP En5=0:=st5.2
theorem Aem:U7 En5.j:=by
 have c (b:Buf) (h:okBW b) (d:b.runs=[]):(∀l∈partsB b,l.length<=χ)/\∀y∈Ac b,y.row.length<=χ:=by
  refine⟨λl a=>?_,λy hy=>Nat.le_trans (h.ents y hy).len Ϟ⟩;unfold partsB at a;rw[d]at a;rw[mem_singleton.1 a];exact Nat.le_trans h.mem.2 Ϟ
 exact⟨c _ AcJ (N5 sK).2.1,c _ AcK rfl⟩
def M5:List UInt8:=(Xo [97,98,99]).1
theorem Abr:Xo [97,98,99]=(M5,0):=Ϡ
theorem Abs:TF M5=([97,98,99],0):=Ϡ
theorem UH:M5.length=11:=Ϡ
theorem Zb:crc [49,50,51,52,53,54,55,56,57]=3421780262:=Ϡ
end cd
namespace cd
open vl bf jn
attribute [local go_sem] Oper.semAt_some
end cd
namespace cd
open vl bf jn
end cd
namespace cd
variable {W : ϙ}
theorem Aen:Tryz.prog.globalNamed "meetwater/code.nibbles" =some 0:=Ϡ
theorem tNib:(Tryz.prog.globals[0]?).map (·.type)=some 61:=Ϡ
theorem uNib:Tryz.prog.underlying 61=some (.array 16 26):=Ϡ
theorem uU32:Tryz.prog.underlying 26=some (.int .u32):=Ϡ
theorem c26:Tryz.prog.cellsOf 26=1:=Ϡ
theorem c61:Tryz.prog.cellsOf 61=16:=Ϡ
def lays:List (String×DataW Unit):=[("meetwater/tape.errWrong",Rows.laid_meetwater_tape_errWrong),("meetwater/code.nibbles",Rows.laid_meetwater_code_nibbles)]
def zs:List Int:=P8.map Int.ofNat
theorem Adv(h:laidMetH Tryz.prog lays W):Ju W:=by
 rw[MakeChecks.laidMetH_plain _ _ _ Ϡ]at h;obtain⟨v,⟨o,y,i,m,t,w,q,r,s,hd0,⟨p,z,l,n,u,x,c,f,g,b,_,_⟩,_⟩,_⟩:=h;obtain rfl:=Option.some.inj (Aen.symm.trans c);obtain rfl:=Option.some.inj (tNib.symm.trans f);have d:Lib.TabIs Tryz.prog W "meetwater/code.nibbles" .u32 zs:=by
  unfold Lib.TabIs;rw[g,<-Lib.cells_of_tab (k:=.u32) (zs:=zs) uNib uU32 c26 c61 b]
 intro j a;have:=d.cell Aen j (show j<zs.length from a);rw[this];have e:zs.getD j 0=Int.ofNat (P8.getD j 0):=by
  unfold zs;rw[gDe,gDe,getElem?_map,gEe (show j<P8.length from a)];rfl
 rw[e];rfl
theorem Adw(h:laidMetH Tryz.prog lays W):∃T a,Δ W 1 0 (.iface T a):=by
 rw[MakeChecks.laidMetH_plain _ _ _ Ϡ]at h;obtain⟨o,⟨m,q,k,l,n,p,d,j,b,hd0,_⟩,_⟩:=h;obtain rfl:=Option.some.inj ((show Tryz.prog.globalNamed "meetwater/tape.errWrong" =some 1 by kernel_rfl).symm.trans d);obtain rfl:=Option.some.inj ((show(Tryz.prog.globals[1]?).map (·.type)=some 261 by kernel_rfl).symm.trans j);obtain⟨_,u,v,e,_,_⟩:=iface_of_trod (ms:=#[("Error",67)]) Ϡ hd0;unfold World.var? at b;rw[d,Option.bind_some]at b;split at b
 ·rename_i g t c f;obtain rfl:=Option.some.inj b;refine⟨u,v,?_⟩;have i:g=#[.iface u v]:=Array.toList_inj.1 e;rw[i]at f;simp[World.cell?,f]
 ·cases b
end cd
end Go.Proofs.YtfkihidbnfkbaaaGreatDoor
