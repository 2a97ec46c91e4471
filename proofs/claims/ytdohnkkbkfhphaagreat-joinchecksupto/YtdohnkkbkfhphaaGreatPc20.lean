import Derived.Test.YtdohnkkbkfhphaaGreatPc19
set_option linter.all false
set_option maxHeartbeats 1000000
set_option maxRecDepth 100000
namespace Go.Proofs.YtdohnkkbkfhphaaGreat
open Go.Proofs.Tryz
namespace bf
open Go.ChangeShapes Go.WideShapes Go.ChangeAt Go.RowKit
open vl
variable {i : Nat} {l l' m : List Ent} {b : Buf} {y : Ent}
def C9(l:List Ent):Prop:=l.Pairwise ltP
theorem getD_at{α:Type}{l:List α}{d:α}(h:i<l.length):l.getD i d=l[i]:=by
 rw[gDe,gEe h];rfl
theorem VJ(h:(l.map Ay).Nodup){j:Nat}(hi:i<l.length)(hj:j<l.length)(hne:i≠j):¬CZ l[i] l[j]:=fun hs=>by
 have e:=IZ.2 hs
 have hp:=List.pairwise_iff_getElem.1 h
 rcases Nat.lt_or_gt_of_ne hne with h1|h1
 ·exact hp i j (by simpa using hi) (by simpa using hj) h1 (by simpa using e)
 ·exact hp j i (by simpa using hj) (by simpa using hi) h1 (by simpa using e.symm)
theorem N7(h:J5 l)(hn:(l.map Ay).Nodup):C9 l:=by
 refine List.pairwise_iff_getElem.2 fun i j hi hj hij=>?_
 have h1:=h i j hij hj
 rw[getD_at hi,getD_at hj]at h1
 rcases ltP_tri l[i] l[j]with h2|h2|h2
 ·exact h2
 ·exact absurd h2 (VJ hn hi hj (by omega))
 ·exact absurd h2 h1
theorem GZ(h:∀i,i+1<l.length->ltP (l.getD i default) (l.getD (i+1) default)):C9 l:=by
 have go:∀d i,i+d+1<l.length->ltP (l.getD i default) (l.getD (i+d+1) default):=by
  intro d
  induction d with
  |zero=>exact fun i hi=>h i hi
  |succ d ih=>exact fun i hi=>Cd (ih i (by omega)) (h (i+d+1) hi)
 refine List.pairwise_iff_getElem.2 fun i j hi hj hij=>?_
 have:=go (j - i - 1) i (by omega)
 rw[show i+(j - i - 1)+1=j by omega,getD_at hi,getD_at hj]at this
 exact this
theorem Lx(h:C9 l):∀i,i+1<l.length->ltP (l.getD i default) (l.getD (i+1) default):=fun i hi=>by
 rw[getD_at (by omega),getD_at hi]
 exact List.pairwise_iff_getElem.1 h i (i+1) (by omega) hi (by omega)
theorem RR(h:C9 l):J5 l:=fun i j hij hj hlt=>by
 have:=List.pairwise_iff_getElem.1 h i j (by omega) hj hij
 rw[getD_at (by omega:i<l.length),getD_at hj]at hlt
 exact Dm _ (Cd this hlt)
theorem Jt(P:Ent->Bool)(h:C9 l):C9 (l.filter P):=h.sublist List.filter_sublist
theorem Pm:∀{l m:List Ent},l.Perm m->C9 l->C9 m->l=m
 |[],m,hp,_,_=>(List.nil_perm.1 hp).symm
 |a::l,[],hp,_,_=>absurd (List.perm_nil.1 hp) (by simp)
 |a::l,b::m,hp,h1,h2=>by
  have k1:=List.pairwise_cons.1 h1
  have k2:=List.pairwise_cons.1 h2
  have hab:a=b:=by
   have ha:a∈b::m:=hp.mem_iff.1 (List.mem_cons_self ..)
   have hb:b∈a::l:=hp.mem_iff.2 (List.mem_cons_self ..)
   rcases List.mem_cons.1 ha with h|h
   ·exact h
   ·rcases List.mem_cons.1 hb with h'|h'
    ·exact h'.symm
    ·exact absurd (Cd (k1.1 b h') (k2.1 a h)) (Dm _)
  subst hab
  rw[Pm (List.Perm.cons_inv hp) k1.2 k2.2]
theorem Gu(h:l.Perm m):(l.map Ay).Nodup↔(m.map Ay).Nodup:=(h.map Ay).nodup_iff
theorem VK(h:l.Perm m)(p:Plc):hasB l p=hasB m p:=by
 rw[Bool.eq_iff_iff]
 unfold hasB
 simp only[List.any_eq_true]
 constructor
 ·rintro ⟨x,hx,e⟩;exact⟨x,h.mem_iff.1 hx,e⟩
 ·rintro ⟨x,hx,e⟩;exact⟨x,h.mem_iff.2 hx,e⟩
theorem N8{p:Plc}(h:hasB l p=false):p ∉ l.map Ay:=fun hm=>by
 obtain⟨x,hx,e⟩:=List.mem_map.1 hm
 unfold hasB at h
 have:=List.any_eq_false.1 h x hx
 simp[e]at this
theorem CF(b:Buf):Ab b=b.mem++b.runs.flatten:=by unfold Ab partsB;rw[List.flatten_cons]
theorem Ds(h:okB b):C4 b=0:=by
 have h1:Az b.lim 1 64=true:=(AJ _ _ _).2 h.lim
 have h2:countB b=true:=by unfold countB;simp only[Bool.and_eq_true,decide_eq_true_eq];exact⟨h.mem,h.all⟩
 have h3:Ee b=true:=by
  unfold Ee
  simp only[Bool.and_eq_true]
  refine⟨A9.2 fun i hi=>?_,?_,?_⟩
  ·rw[getD_at hi]
   have hm:(partsB b)[i]∈partsB b:=List.getElem_mem hi
   refine A9.2 fun j hj=>?_
   unfold Es
   simp only[Bool.and_eq_true,Bool.or_eq_true,decide_eq_true_eq]
   refine⟨Ei ?_,?_⟩
   ·rw[getD_at hj];exact h.fine _ hm _ (List.getElem_mem hj)
   ·cases j with
    |zero=>exact .inl rfl
    |succ j=>exact .inr (h.rise _ hm j hj)
  ·unfold GL
   refine A9.2 fun i hi=>?_
   rw[getD_at hi]
   exact decide_eq_true (h.full _ (List.getElem_mem hi))
  ·unfold BJ;exact decide_eq_true h.once
 unfold C4
 rw[h1,h2,h3];rfl
theorem okB.rises(h:okB b)(hl:l∈partsB b):C9 l:=GZ (h.rise l hl)
theorem okB.entry(h:okB b)(hy:y∈Ab b):DH y:=by
 obtain⟨l,hl,hy⟩:=List.mem_flatten.1 hy
 exact h.fine l hl y hy
theorem N9(h1:1<=b.lim/\b.lim<=64)(h2:(b.mem.length:Int)<=b.lim)(h3:(Ab b).length<=4096)(h4:∀y∈Ab b,DH y)(h5:∀l∈partsB b,C9 l)(h6:∀r∈b.runs,0<r.length)(h7:((Ab b).map Ay).Nodup):okB b:=
 ⟨h1,h2,h3,fun l hl y hy=>h4 y (List.mem_flatten.2 ⟨l,hl,hy⟩),fun l hl=>Lx (h5 l hl),h6,h7⟩
theorem Pn(hp:l'.Perm (b.mem++[y])):(Ab (FF b l')).Perm (y::Ab b):=by
 have h1:(b.mem++[y]++b.runs.flatten).Perm (y::(b.mem++b.runs.flatten)):=by
  rw[List.append_assoc]
  exact List.perm_middle
 unfold FF
 split
 ·rw[CF,CF]
  dsimp only
  rw[List.flatten_append,List.nil_append]
  simp only[List.flatten_cons,List.flatten_nil,List.append_nil]
  exact(List.perm_append_comm).trans ((hp.append_right _).trans h1)
 ·rw[CF,CF]
  exact(hp.append_right _).trans h1
theorem T7(h:okB b)(hf:DH y)(hh:hasB (Ab b) (Ay y)=false)(hm:(Ab b).length≠4096)(hp:l'.Perm (b.mem++[y]))(hby:J5 l'):okB (FF b l'):=by
 have he:=Pn (b:=b) hp
 have hon:((y::Ab b).map Ay).Nodup:=List.nodup_cons.2 ⟨N8 hh,h.once⟩
 have hln:(l'.map Ay).Nodup:=by
  rw[Gu hp]
  have hs:((b.mem++[y]).map Ay).Perm ((y::b.mem).map Ay):=(List.perm_append_comm).map _
  rw[hs.nodup_iff]
  refine List.nodup_cons.2 ⟨fun hm'=>N8 hh ?_,?_⟩
  ·rw[CF,List.map_append];exact List.mem_append.2 (.inl hm')
  ·have:=h.once
   rw[CF,List.map_append]at this
   exact(List.nodup_append.1 this).1
 have hr:=N7 hby hln
 have hlim:(FF b l').lim=b.lim:=by unfold FF;split<;>rfl
 refine N9 (by rw[hlim];exact h.lim) ?_ ?_ (fun z hz=>?_) (fun l hl=>?_) (fun r hr'=>?_) ?_
 ·have:=h.lim
  unfold FF
  split
  ·dsimp only[List.length_nil];omega
  ·dsimp only;omega
 ·rw[he.length_eq,List.length_cons]
  have:=h.all
  omega
 ·rcases List.mem_cons.1 (he.mem_iff.1 hz)with rfl|hz
  ·exact hf
  ·exact h.entry hz
 ·unfold FF at hl
  split at hl
  ·rcases List.mem_cons.1 hl with rfl|hl
   ·exact List.Pairwise.nil
   ·rcases List.mem_append.1 hl with hl|hl
    ·exact h.rises (List.mem_cons_of_mem _ hl)
    ·have:l=l':=by simpa using hl
     rw[this];exact hr
  ·rcases List.mem_cons.1 hl with rfl|hl
   ·exact hr
   ·exact h.rises (List.mem_cons_of_mem _ hl)
 ·have hlen:l'.length=b.mem.length+1:=by rw[hp.length_eq];simp
  unfold FF at hr'
  split at hr'
  ·rcases List.mem_append.1 hr' with hr'|hr'
   ·exact h.full r hr'
   ·have:r=l':=by simpa using hr'
    rw[this];omega
  ·exact h.full r hr'
 ·rw[Gu he];exact hon
theorem MD(P:Ent->Bool):∀l:List (List Ent),(Dp P l).flatten=l.flatten.filter P
 |[]=>rfl
 |r::l=>by
  have ih:=MD P l
  unfold Dp at ih⊢
  rw[List.map_cons,List.flatten_cons,List.filter_append,<-ih]
  by_cases h:0<(r.filter P).length
  ·rw[List.filter_cons_of_pos (by simpa using h),List.flatten_cons]
  ·have:r.filter P=[]:=List.length_eq_zero_iff.1 (by omega)
   rw[List.filter_cons_of_neg (by simpa using h),this,List.nil_append]
theorem Gv(P:Ent->Bool)(b:Buf):Ab (C1 P b)=(Ab b).filter P:=by
 rw[CF,CF,List.filter_append]
 unfold C1
 dsimp only
 rw[MD]
theorem Ha(P:Ent->Bool)(h:okB b):okB (C1 P b):=by
 have he:=Gv P b
 refine N9 h.lim ?_ ?_ (fun z hz=>?_) (fun l hl=>?_) (fun r hr=>?_) ?_
 ·have h1:=h.mem
  have h2:(C1 P b).mem.length<=b.mem.length:=List.length_filter_le _ _
  show((C1 P b).mem.length:Int)<=b.lim
  omega
 ·rw[he];exact Nat.le_trans (List.length_filter_le _ _) h.all
 ·rw[he]at hz;exact h.entry (List.mem_filter.1 hz).1
 ·rcases List.mem_cons.1 hl with rfl|hl
  ·exact Jt P (h.rises (List.mem_cons_self ..))
  ·obtain⟨hl,_⟩:=List.mem_filter.1 (show l∈Dp P b.runs from hl)
   obtain⟨r,hr,rfl⟩:=List.mem_map.1 hl
   exact Jt P (h.rises (List.mem_cons_of_mem _ hr))
 ·obtain⟨_,hl⟩:=List.mem_filter.1 (show r∈Dp P b.runs from hr)
  exact of_decide_eq_true hl
 ·rw[he]
  exact h.once.sublist (List.filter_sublist.map _)
def x0:BX:=⟨none,0,((none,0,0),[]),[]⟩
end bf
namespace bf
open Go.ChangeShapes Go.WideShapes Go.ChangeAt Go.RowKit Go.Joins Go.Deep
open vl
theorem VL:Tryz.prog.cellsOf 63=5:=by kernel_rfl
theorem RS:Tryz.prog.cellsOf 41=1:=by kernel_rfl
theorem X8:Tryz.prog.cellsOf 4=1:=by kernel_rfl
theorem RT:Tryz.prog.cellsOf 9=1:=by kernel_rfl
section
variable {H : Type} {enc : TypeId × Value -> H} {w : World} {base : Nat} {spare : Nat -> Bool} {held : Bool}
theorem VN{v:Value}{y:DataW H×List MemPlace}{fuel:Nat}(h:DataW.trod enc Tryz.prog w base spare held fuel 41 [v]=some y):
 ∃a len cap r,v= .slice a len cap/\List.length (α:=Cel) r=len/\vl.rowAt w a r/\BE r/\len<=9223372036854775807:=by
 rcases open_slice underlying41 h with⟨hcs,_⟩|⟨x,l,c,m,n,D,Pl,hcs,_⟩
 ·simp at hcs
  subst hcs
  obtain⟨r,h1,h2,h3,h4⟩:=open_row (a:=none) (len:=0) (cap:=0) (d:=y.1) (p:=y.2) ⟨fuel,h⟩
  exact⟨_,_,_,r,rfl,h1,h2,h3,h4⟩
 ·simp at hcs
  subst hcs
  obtain⟨r,h1,h2,h3,h4⟩:=open_row (a:=some x) (len:=l) (cap:=c) (d:=y.1) (p:=y.2) ⟨fuel,h⟩
  exact⟨_,_,_,r,rfl,h1,h2,h3,h4⟩
structure inE(w:World)(e:EM)(x:Ent):Prop where
 er:ER w e x
 wf:wfE x
 wp:wfP (Ay x)
theorem Ly{x:Addr}{cs:List Value}{y:DataW H×List MemPlace}{fuel:Nat}(hc:w.cells? base x 5=some cs)(ht:DataW.trod enc Tryz.prog w base spare held fuel 63 cs=some y):
 ∃(b off:Nat) (c:EM×Ent),x=⟨b,off,none⟩/\w.cell? ⟨b,off,none⟩=some (.string c.1.key)/\w.cell? ⟨b,off+1,none⟩=some (.int .i64 c.1.time)/\w.cell? ⟨b,off+2,none⟩=some (.int .i64 c.1.seq)/\w.cell? ⟨b,off+3,none⟩=some (hdV c.1.row)/\w.cell? ⟨b,off+4,none⟩=some (.bool c.1.met)/\inE w c.1 c.2:=by
 obtain⟨_,hlen,hat⟩:=World.cells?_some hc
 obtain⟨xs,n,_,_,_,hxl,hfs⟩:=DataW.trod_struct underlying63 ht
 match xs,hxl with
 |[y0,y1,y2,y3,y4],_=>
  have h0:=hfs 0 _ rfl
  have h1:=hfs 1 _ rfl
  have h2:=hfs 2 _ rfl
  have h3:=hfs 3 _ rfl
  have h4:=hfs 4 _ rfl
  match cs,hlen with
  |[a0,a1,a2,a3,a4],_=>
   simp[RT]at h0
   simp[D8]at h1 h2
   simp[RS]at h3
   simp[X8]at h4
   obtain⟨s0,e0,_,ws⟩:=DataW.trod_string underlying9 h0
   obtain⟨n1,e1,_,w1⟩:=DataW.trod_int underlying3 h1
   obtain⟨n2,e2,_,w2⟩:=DataW.trod_int underlying3 h2
   obtain⟨ra,rl,rc,r,e3,hl,hr,hw,hm⟩:=VN h3
   obtain⟨m4,e4,_⟩:=DataW.trod_bool underlying4 h4
   simp only[List.cons.injEq,and_true]at e0 e1 e2 e4
   subst e0 e1 e2 e3 e4 hl
   obtain⟨b,off,spot⟩:=x
   have g0:=hat 0 (by omega)
   have g1:=hat 1 (by omega)
   have g2:=hat 2 (by omega)
   have g3:=hat 3 (by omega)
   have g4:=hat 4 (by omega)
   have hspot:spot=none:=by simpa[Addr.add]using World.cell?_spot g0
   subst hspot
   refine⟨b,off,(⟨s0,n1,n2,(ra,r.length,rc),m4⟩,⟨s0,n1,n2,r,m4⟩),rfl,?_,?_,?_,?_,?_,⟨⟨rfl,rfl,rfl,rfl,rfl,hr⟩,⟨ws,hw,hm⟩,?_⟩⟩
   ·simpa[Addr.add]using g0
   ·simpa[Addr.add]using g1
   ·simpa[Addr.add]using g2
   ·simpa[Addr.add,hdV]using g3
   ·simpa[Addr.add]using g4
   ·exact⟨ws,bounds_i64 w1,bounds_i64 w2⟩
theorem T8{v:Value}{y:DataW H×List MemPlace}{fuel:Nat}(hf:DataW.trod enc Tryz.prog w base spare held fuel 26 [v]=some y):
 ∃(a:Option Addr) (cap:Nat) (es:List EM) (l:List Ent),v= .slice a es.length cap/\BD w a es/\es.length=l.length/\es.length<=9223372036854775807/\∀i,i<l.length->inE w (es.getD i default) (l.getD i default):=by
 rcases open_slice underlying26 hf with⟨hcs,_⟩|⟨x,len,cap,m,n,D,Pl,hcs,_,hl,hm,hmm,_,hel⟩
 ·simp at hcs
  subst hcs
  exact⟨none,0,[],[],rfl,fun i hi=>absurd hi (Nat.not_lt_zero i),rfl,by simp,fun i hi=>absurd hi (Nat.not_lt_zero i)⟩
 ·simp at hcs
  subst hcs
  have hle:len<=m:=by rw[hmm];split<;>omega
  rw[VL]at hel
  obtain⟨f,hfam⟩:=choose_lt (α:=EM×Ent) (n:=len) (p:=fun i c=> ∃b off,x=⟨b,off,none⟩/\w.cell? ⟨b,off+i * 5,none⟩=some (.string c.1.key)/\w.cell? ⟨b,off+i * 5+1,none⟩=some (.int .i64 c.1.time)/\w.cell? ⟨b,off+i * 5+2,none⟩=some (.int .i64 c.1.seq)/\w.cell? ⟨b,off+i * 5+3,none⟩=some (hdV c.1.row)/\w.cell? ⟨b,off+i * 5+4,none⟩=some (.bool c.1.met)/\inE w c.1 c.2) (fun i hi=>by
   obtain⟨cs',h1,h2⟩:=hel i (by omega)
   obtain⟨b,off,c,e,g0,g1,g2,g3,g4,hw⟩:=Ly h1 h2
   obtain⟨cs0,z1,z2⟩:=hel 0 (by omega)
   obtain⟨b0,off0,c0,e0,_⟩:=Ly z1 z2
   have ex:x=⟨b0,off0,none⟩:=by simpa[Addr.add]using e0
   subst ex
   have ea:(⟨b0,off0,none⟩:Addr).add (i * 5)=⟨b0,off0+i * 5,none⟩:=by unfold Addr.add;split<;>simp_all
   rw[ea]at e
   cases e
   exact⟨c,b,off0,rfl,g0,g1,g2,g3,g4,hw⟩)
  refine⟨some x,cap,(List.range len).map fun i=>(f i).1,(List.range len).map fun i=>(f i).2,by simp,?_,by simp,by unfold maxLen at hm;simp;omega,?_⟩
  ·intro i hi
   have hi':i<len:=by simpa using hi
   obtain⟨b,off,rfl,g0,g1,g2,g3,g4,_⟩:=hfam i hi'
   have e:((List.range len).map fun i=>(f i).1).getD i default=(f i).1:=by simp[gDe,hi']
   rw[e]
   exact⟨b,off,rfl,g0,g1,g2,g3,g4⟩
  ·intro i hi
   have hi':i<len:=by simpa using hi
   obtain⟨_,_,_,_,_,_,_,_,hw⟩:=hfam i hi'
   have e1:((List.range len).map fun i=>(f i).1).getD i default=(f i).1:=by simp[gDe,hi']
   have e2:((List.range len).map fun i=>(f i).2).getD i default=(f i).2:=by simp[gDe,hi']
   rw[e1,e2]
   exact hw
end
section
variable {H : Type} {enc : TypeId × Value -> H} {w : World} {base : Nat} {spare : Nat -> Bool} {held : Bool}
end
theorem YI{H:Type}(d:DataW H):1<=Rows.uptoBulk d:=by
 cases d with
 |lit l=>cases l<;>simp[Rows.uptoBulk]
 |_=>simp[Rows.uptoBulk]
theorem QM{H:Type}{d:DataW H}:∀{l:List (DataW H)},d∈l->Rows.uptoBulk d<=Rows.uptoBulkAll l
 |[],h=>by cases h
 |x::r,h=>by
  rw[Rows.uptoBulkAll]
  rcases List.mem_cons.1 h with e|e
  ·subst e;omega
  ·have:=QM e;omega
theorem VO{H:Type}(r:List (DataW H)):∀l:List (DataW H),Rows.uptoBulkAll (l++r)=Rows.uptoBulkAll l+Rows.uptoBulkAll r
 |[]=>by simp[Rows.uptoBulkAll]
 |x::l=>by
  rw[List.cons_append,Rows.uptoBulkAll,Rows.uptoBulkAll,VO r l];omega
theorem VP{H:Type}:∀l:List (DataW H),l.length<=Rows.uptoBulkAll l
 |[]=>by simp
 |x::r=>by
  have h1:=YI x
  have h2:=VP r
  rw[Rows.uptoBulkAll,List.length_cons];omega
theorem RU{H:Type}(g:Nat->List Ent)(D:Nat->DataW H):∀n,(∀i,i<n->(g i).length<=Rows.uptoBulk (D i))->((List.range n).map g).flatten.length<=Rows.uptoBulkAll ((List.range n).map D)
 |0,_=>by simp
 |n+1,h=>by
  have h1:=RU g D n (fun i hi=>h i (by omega))
  have h2:=h n (Nat.lt_succ_self n)
  rw[List.range_succ,List.map_append,List.map_append,VO,List.flatten_append,lAp]
  simp only[List.map_cons,List.map_nil,List.flatten_cons,List.flatten_nil,List.append_nil,Rows.uptoBulkAll]
  omega
section
variable {H : Type} {enc : TypeId × Value -> H} {w : World} {base : Nat} {spare : Nat -> Bool} {held : Bool}
theorem Po{t e:TypeId}{a:Option Addr}{len cap:Nat}{y:DataW H×List MemPlace}{fuel:Nat}(hu:Tryz.prog.underlying t=some (.slice e))(h:DataW.trod enc Tryz.prog w base spare held fuel t [.slice a len cap]=some y):len<=Rows.uptoBulk y.1:=by
 rcases open_slice hu h with⟨hcs,_⟩|⟨x,l,c,m,n,D,Pl,hcs,_,_,_,_,hy,_⟩
 ·simp at hcs;omega
 ·simp at hcs
  obtain⟨_,rfl,_⟩:=hcs
  rw[hy]
  have:=VP ((List.range len).map D)
  simp only[Rows.uptoBulk]
  simp at this
  omega
theorem QN{b off:Nat}{cs:List Value}{y:DataW H×List MemPlace}{fuel:Nat}{k:ByteArray}{a:Option Addr}{len cap:Nat}(hc:w.cells? base ⟨b,off,none⟩ 5=some cs)(ht:DataW.trod enc Tryz.prog w base spare held fuel 63 cs=some y)(hk:w.cell? ⟨b,off,none⟩=some (.string k))(hr:w.cell? ⟨b,off+3,none⟩=some (.slice a len cap)):k.size<=Rows.uptoBulk y.1/\len<=Rows.uptoBulk y.1:=by
 obtain⟨_,hlen,hat⟩:=World.cells?_some hc
 obtain⟨xs,n,_,hy,_,hxl,hfs⟩:=DataW.trod_struct underlying63 ht
 match xs,hxl with
 |[y0,y1,y2,y3,y4],_=>
  have h0:=hfs 0 _ rfl
  have h3:=hfs 3 _ rfl
  match cs,hlen with
  |[a0,a1,a2,a3,a4],_=>
   simp[RT]at h0
   simp[RS]at h3
   have g0:=hat 0 (by omega)
   have g3:=hat 3 (by omega)
   simp[Addr.add,hk]at g0
   simp[Addr.add,hr]at g3
   subst g0 g3
   obtain⟨s0,e0,ey,_⟩:=DataW.trod_string underlying9 h0
   simp only[List.cons.injEq,and_true,Value.string.injEq]at e0
   subst e0
   have b0:Rows.uptoBulk y0.1=k.data.toList.length+1:=by rw[ey];simp[Rows.uptoBulk]
   have b3:=Po underlying41 h3
   have e:k.data.toList.length=k.size:=by rw[Array.length_toList];rfl
   rw[hy]
   simp only[List.map_cons,List.map_nil,Rows.uptoBulk,Rows.uptoBulkAll]
   omega
theorem ME{v:Value}{y:DataW H×List MemPlace}{fuel:Nat}(hf:DataW.trod enc Tryz.prog w base spare held fuel 26 [v]=some y):
 ∃(q:Part) (l:List Ent),v=hdV q.1/\q.1.2.1=q.2.length/\BD w q.1.1 q.2/\q.2.length=l.length/\q.2.length<=9223372036854775807/\(∀i,i<l.length->inE w (q.2.getD i default) (l.getD i default))/\l.length<=Rows.uptoBulk y.1/\∀i,i<l.length->(l.getD i default).key.size<=Rows.uptoBulk y.1/\(l.getD i default).row.length<=Rows.uptoBulk y.1:=by
 obtain⟨a,cap,es,l,hv,hem,hel,hmx,hin⟩:=T8 hf
 subst hv
 refine⟨((a,es.length,cap),es),l,rfl,rfl,hem,hel,hmx,hin,?_,fun i hi=>?_⟩
 ·rw[<-hel];exact Po underlying26 hf
 ·rcases open_slice underlying26 hf with⟨hcs,_⟩|⟨x,len,c,m,n,D,Pl,hcs,_,hl,hm,hmm,hy,hx⟩
  ·simp at hcs
   obtain⟨_,h0,_⟩:=hcs
   rw[h0]at hel
   simp at hel
   omega
  ·simp at hcs
   obtain⟨hx0,hln,_⟩:=hcs
   have hle:len<=m:=by rw[hmm];split<;>omega
   have hil:i<len:=by omega
   obtain⟨cs',h1,h2⟩:=hx i (by omega)
   rw[VL]at h1
   obtain⟨b,off,ea,g0,g1,g2,g3,g4⟩:=hem i (by omega)
   rw[hx0]at ea
   cases ea
   have ead:(⟨b,off,none⟩:Addr).add (i * 5)=⟨b,off+i * 5,none⟩:=Cl _ _ _
   rw[ead]at h1
   have hi':=(hin i hi).er
   unfold hdV at g3
   have k:=QN h1 h2 g0 g3
   have hb:Rows.uptoBulk (D i)<=Rows.uptoBulk y.1:=by
    rw[hy]
    have:=QM (l:=(List.range len).map D) (List.mem_map.2 ⟨i,List.mem_range.2 hil,rfl⟩)
    simp only[Rows.uptoBulk]
    omega
   rw[hi'.key,hi'.len]at k
   dsimp only at k
   omega
theorem XA:Tryz.prog.cellsOf 26=1:=by kernel_rfl
theorem T9{v:Value}{y:DataW H×List MemPlace}{fuel:Nat}(hf:DataW.trod enc Tryz.prog w base spare held fuel 27 [v]=some y):
 ∃(ra:Option Addr) (rc:Nat) (rs:List Part) (runs:List (List Ent)),v= .slice ra rs.length rc/\EU w ra (rs.map (·.1))/\rs.length=runs.length/\rs.length<=9223372036854775807/\runs.flatten.length<=Rows.uptoBulk y.1/\
  ∀i,i<runs.length->(rs.getD i default).1.2.1=(rs.getD i default).2.length/\(rs.getD i default).2.length<=9223372036854775807/\BD w (rs.getD i default).1.1 (rs.getD i default).2/\(rs.getD i default).2.length=(runs.getD i default).length/\(∀j,j<(runs.getD i default).length->inE w ((rs.getD i default).2.getD j default) ((runs.getD i default).getD j default))/\∀j,j<(runs.getD i default).length->((runs.getD i default).getD j default).key.size<=Rows.uptoBulk y.1/\((runs.getD i default).getD j default).row.length<=Rows.uptoBulk y.1:=by
 rcases open_slice underlying27 hf with⟨hcs,_⟩|⟨x,len,c,m,n,D,Pl,hcs,_,hl,hm,hmm,hy,hx⟩
 ·simp at hcs
  subst hcs
  exact⟨none,0,[],[],rfl,fun i hi=>absurd hi (Nat.not_lt_zero i),rfl,by simp,by simp,fun i hi=>absurd hi (Nat.not_lt_zero i)⟩
 ·simp at hcs
  subst hcs
  have hle:len<=m:=by rw[hmm];split<;>omega
  rw[XA]at hx
  obtain⟨f,hfam⟩:=choose_lt (α:=Part×List Ent) (n:=len) (p:=fun i q=> ∃b off,x=⟨b,off,none⟩/\w.cell? ⟨b,off+i,none⟩=some (hdV q.1.1)/\q.1.1.2.1=q.1.2.length/\BD w q.1.1.1 q.1.2/\q.1.2.length=q.2.length/\q.1.2.length<=9223372036854775807/\(∀j,j<q.2.length->inE w (q.1.2.getD j default) (q.2.getD j default))/\q.2.length<=Rows.uptoBulk (D i)/\∀j,j<q.2.length->(q.2.getD j default).key.size<=Rows.uptoBulk (D i)/\(q.2.getD j default).row.length<=Rows.uptoBulk (D i)) (fun i hi=>by
   obtain⟨cs',h1,h2⟩:=hx i (by omega)
   obtain⟨_,hlen,hat⟩:=World.cells?_some h1
   match cs',hlen with
   |[u],_=>
    obtain⟨q,l,hv,r1,r2,r3,r4,r5,r6,r7⟩:=ME h2
    have g0:=hat 0 (by omega)
    obtain⟨b,off,spot⟩:=x
    obtain⟨cs0,z1,_⟩:=hx 0 (by omega)
    obtain⟨_,hl0,hat0⟩:=World.cells?_some z1
    obtain⟨u0,hu0⟩:∃u0,cs0=[u0]:=by
     match cs0,hl0 with
     |[u0],_=>exact⟨u0,rfl⟩
    subst hu0
    have g00:w.cell? ((Addr.mk b off spot).add (0 * 1)|>.add 0)=some u0:=hat0 0 (by omega)
    have hspot:spot=none:=by simpa[Addr.add]using World.cell?_spot g00
    subst hspot
    rw[Nat.mul_one,Cl]at g0
    rw[Cl]at g0
    simp at g0
    subst hv
    exact⟨(q,l),b,off,rfl,g0,r1,r2,r3,r4,r5,r6,r7⟩)
  have hb:∀i,i<len->Rows.uptoBulk (D i)<=Rows.uptoBulk y.1:=fun i hi=>by
   rw[hy]
   have:=QM (l:=(List.range len).map D) (List.mem_map.2 ⟨i,List.mem_range.2 hi,rfl⟩)
   simp only[Rows.uptoBulk]
   omega
  refine⟨some x,c,(List.range len).map fun i=>(f i).1,(List.range len).map fun i=>(f i).2,by simp,fun i hi=>?_,by simp,by unfold maxLen at hm;simp;omega,?_,fun i hi=>?_⟩
  ·have hi':i<len:=by simpa using hi
   obtain⟨b,off,rfl,g0,_⟩:=hfam i hi'
   refine⟨b,off,rfl,?_⟩
   have e:(((List.range len).map fun i=>(f i).1).map (·.1)).getD i (none,0,0)=(f i).1.1:=by simp[gDe,hi']
   rw[e];exact g0
  ·have h1:=RU (fun i=>(f i).2) D len (fun i hi=>(hfam i hi).choose_spec.choose_spec.2.2.2.2.2.2.2.1)
   rw[hy]
   simp only[Rows.uptoBulk]
   omega
  ·have hi':i<len:=by simpa using hi
   obtain⟨_,_,_,_,r1,r2,r3,r4,r5,r6,r7⟩:=hfam i hi'
   have e1:((List.range len).map fun i=>(f i).1).getD i default=(f i).1:=by simp[gDe,hi']
   have e2:((List.range len).map fun i=>(f i).2).getD i default=(f i).2:=by simp[gDe,hi']
   rw[e1,e2]
   exact⟨r1,r4,r2,r3,r5,fun j hj=>by have:=r7 j hj;have:=hb i hi';omega⟩
theorem XB:Tryz.prog.cellsOf 29=3:=by kernel_rfl
theorem DY{α:Type}{l:List α}{d y:α}(h:y∈l):∃j,j<l.length/\l.getD j d=y:=by
 obtain⟨j,hj,rfl⟩:=List.getElem_of_mem h
 exact⟨j,hj,by rw[gDe,gEe hj];rfl⟩
theorem TA{c0 c1 c2:Value}{y0 y1 y2:DataW H×List MemPlace}{n0 n1 n2:Nat}(h0:DataW.trod enc Tryz.prog w base spare held n0 3 [c0]=some y0)(h1:DataW.trod enc Tryz.prog w base spare held n1 26 [c1]=some y1)(h2:DataW.trod enc Tryz.prog w base spare held n2 27 [c2]=some y2):
 ∃(b:Buf) (x:BX),c0= .int .i64 b.lim/\c1=hdV x.m.1/\c2= .slice x.ra x.rs.length x.rc/\bufAt w b x/\(Ab b).length<=Rows.uptoBulk y1.1+Rows.uptoBulk y2.1/\∀y∈Ab b,wfE y/\wfP (Ay y)/\y.key.size<=Rows.uptoBulk y1.1+Rows.uptoBulk y2.1/\y.row.length<=Rows.uptoBulk y1.1+Rows.uptoBulk y2.1:=by
 obtain⟨lim,e0,_,_⟩:=DataW.trod_int underlying3 h0
 simp only[List.cons.injEq,and_true]at e0
 subst e0
 obtain⟨q,l,rfl,r1,r2,r3,r4,r5,r6,r7⟩:=ME h1
 obtain⟨ra,rc,rs,runs,rfl,s1,s2,s3,s4,s5⟩:=T9 h2
 refine⟨⟨lim,l,runs⟩,⟨ra,rc,q,rs⟩,rfl,rfl,rfl,⟨s1,fun t ht=>?_,fun t ht=>?_,s3,⟨r3,fun i hi=>(r5 i hi).er⟩,s2,fun i hi=>⟨(s5 i hi).2.2.2.1,fun j hj=>((s5 i hi).2.2.2.2.1 j hj).er⟩⟩,?_,fun y hy=>?_⟩
 ·rcases List.mem_cons.1 ht with rfl|ht
  ·exact⟨r1,r4⟩
  ·obtain⟨i,hi,rfl⟩:=DY (d:=default) ht
   have:=s5 i (by rw[<-s2];exact hi)
   exact⟨this.1,this.2.1⟩
 ·rcases List.mem_cons.1 ht with rfl|ht
  ·exact r2
  ·obtain⟨i,hi,rfl⟩:=DY (d:=default) ht
   exact(s5 i (by rw[<-s2];exact hi)).2.2.1
 ·rw[CF,lAp]
  dsimp only
  omega
 ·rw[CF]at hy
  dsimp only at hy
  rcases List.mem_append.1 hy with hy|hy
  ·obtain⟨j,hj,rfl⟩:=DY (d:=default) hy
   have k:=r7 j hj
   exact⟨(r5 j hj).wf,(r5 j hj).wp,by omega,by omega⟩
  ·obtain⟨t,ht,hy⟩:=List.mem_flatten.1 hy
   obtain⟨i,hi,rfl⟩:=DY (d:=default) ht
   obtain⟨j,hj,rfl⟩:=DY (d:=default) hy
   have k:=s5 i hi
   have k2:=k.2.2.2.2.2 j hj
   exact⟨(k.2.2.2.2.1 j hj).wf,(k.2.2.2.2.1 j hj).wp,by omega,by omega⟩
end
end bf
namespace jn
open Go.ChangeShapes Go.WideShapes Go.ChangeAt Go.RowKit Go.Joins Go.Deep
open vl bf
theorem XC:Tryz.prog.cellsOf 31=9:=by kernel_rfl
theorem XD:Tryz.prog.cellsOf 26=1:=by kernel_rfl
theorem XE:Tryz.prog.cellsOf 27=1:=by kernel_rfl
theorem YJ{cs:Array Value}(h:cs.size=9):∃a b c d e f g h i,cs=#[a,b,c,d,e,f,g,h,i]:=by
 obtain⟨l⟩:=cs
 match l,h with
 |[a,b,c,d,e,f,g,h,i],_=>exact⟨a,b,c,d,e,f,g,h,i,rfl⟩
section
variable {H : Type} {enc : TypeId × Value -> H} {w : World} {base : Nat} {spare : Nat -> Bool} {held : Bool}
theorem Lz{c0 c1 c2:Value}{y:DataW H×List MemPlace}{n:Nat}(h:DataW.trod enc Tryz.prog w base spare held n 29 [c0,c1,c2]=some y):
 ∃(b:Buf) (x:BX),c0= .int .i64 b.lim/\c1=hdV x.m.1/\c2= .slice x.ra x.rs.length x.rc/\bufAt w b x/\(Ab b).length<=Rows.uptoBulk y.1/\∀z∈Ab b,wfE z/\wfP (Ay z)/\z.key.size<=Rows.uptoBulk y.1/\z.row.length<=Rows.uptoBulk y.1:=by
 obtain⟨xs,m,_,hy,_,hlen,hat⟩:=DataW.trod_struct underlying29 h
 match xs,hlen with
 |[y0,y1,y2],_=>
  have h0:=hat 0 _ rfl
  have h1:=hat 1 _ rfl
  have h2:=hat 2 _ rfl
  simp[D8]at h0
  simp[XD]at h1
  simp[XE]at h2
  have hbk:Rows.uptoBulk y.1=Rows.uptoBulk y0.1+(Rows.uptoBulk y1.1+Rows.uptoBulk y2.1)+1:=by
   rw[hy];simp only[List.map_cons,List.map_nil,Rows.uptoBulk,Rows.uptoBulkAll];omega
  obtain⟨b,x,rfl,rfl,rfl,hb,hl,hz⟩:=TA h0 h1 h2
  exact⟨b,x,rfl,rfl,rfl,hb,by omega,fun z h=>by have:=hz z h;exact⟨this.1,this.2.1,by omega,by omega⟩⟩
theorem TB{r:Reach}{b0:Nat}{v:Value}{d:DataW H}{p:List MemPlace}(hv:Value.okWide Tryz.prog w r b0 31 v)(h:DataW.Trod enc Tryz.prog w base spare held 31 v d p):
 ∃(s:Jn) (x:JX),v=joinV s x/\joinAt w s x/\((Ab s.L).length<=Rows.uptoBulk d/\(Ab s.R).length<=Rows.uptoBulk d)/\(∀z∈Ab s.L++Ab s.R,wfE z/\wfP (Ay z)/\z.key.size<=Rows.uptoBulk d/\z.row.length<=Rows.uptoBulk d)/\pl.i64 s.lm/\pl.i64 s.rm/\pl.i64 s.seq:=by
 obtain⟨cs,rfl,hsz⟩:=okWide_struct underlying31 hv
 obtain⟨c0,c1,c2,c3,c4,c5,c6,c7,c8,rfl⟩:=YJ (hsz.trans XC)
 obtain⟨fuel,hf⟩:=h
 obtain⟨xs,n,_,hy,_,hlen,hat⟩:=DataW.trod_struct underlying31 hf
 match xs,hlen with
 |[y0,y1,y2,y3,y4],_=>
  have h0:=hat 0 _ rfl
  have h1:=hat 1 _ rfl
  have h2:=hat 2 _ rfl
  have h3:=hat 3 _ rfl
  have h4:=hat 4 _ rfl
  simp[Value.cells,XB]at h0 h1
  simp[Value.cells,D8]at h2 h3 h4
  simp only[Prod.mk.injEq]at hy
  have hbk:Rows.uptoBulk d=Rows.uptoBulk y0.1+(Rows.uptoBulk y1.1+(Rows.uptoBulk y2.1+(Rows.uptoBulk y3.1+Rows.uptoBulk y4.1)))+1:=by
   rw[hy.1];simp only[List.map_cons,List.map_nil,Rows.uptoBulk,Rows.uptoBulkAll];omega
  obtain⟨bl,xl,rfl,rfl,rfl,hb0,hl0,hz0⟩:=Lz h0
  obtain⟨br,xr,rfl,rfl,rfl,hb1,hl1,hz1⟩:=Lz h1
  obtain⟨m2,e2,_,w2⟩:=DataW.trod_int underlying3 h2
  obtain⟨m3,e3,_,w3⟩:=DataW.trod_int underlying3 h3
  obtain⟨m4,e4,_,w4⟩:=DataW.trod_int underlying3 h4
  simp only[List.cons.injEq,and_true]at e2 e3 e4
  subst e2 e3 e4
  refine⟨⟨bl,br,m2,m3,m4⟩,⟨xl,xr⟩,rfl,⟨hb0,hb1⟩,⟨by dsimp only;omega,by dsimp only;omega⟩,fun z hz=>?_,bounds_i64 w2,bounds_i64 w3,bounds_i64 w4⟩
  rcases List.mem_append.1 hz with hz|hz
  ·have:=hz0 z hz
   exact⟨this.1,this.2.1,by omega,by omega⟩
  ·have:=hz1 z hz
   exact⟨this.1,this.2.1,by omega,by omega⟩
end
end jn
namespace jn
open Go.ChangeShapes Go.WideShapes Go.ChangeAt Go.RowKit
open vl
variable {U U' W W' : World} {B b n o : Nat} {p : pl.Pln} {x : pl.PA} {s : Jn} {y : JX}
def Br(U:World)(b:Nat)(p:pl.Pln)(x:pl.PA):Prop:=U.cell? ⟨b,0,none⟩=some (.int .i64 p.kind)/\U.cell? ⟨b,1,none⟩=some (.int .i64 p.mode)/\U.cell? ⟨b,2,none⟩=some (.int .i64 p.low)/\U.cell? ⟨b,3,none⟩=some (.int .i64 p.high)/\U.cell? ⟨b,4,none⟩=some (.int .i64 p.size)/\U.cell? ⟨b,5,none⟩=some (.int .i64 p.limit)/\U.cell? ⟨b,6,none⟩=some (.slice x.l p.left.length x.lc)/\U.cell? ⟨b,7,none⟩=some (.slice x.r p.right.length x.rc)/\U.cell? ⟨b,8,none⟩=some (.slice x.lk p.lkeys.length x.lkc)/\U.cell? ⟨b,9,none⟩=some (.slice x.rk p.rkeys.length x.rkc)/\U.cell? ⟨b,10,none⟩=some (.bool p.grouped)/\U.cell? ⟨b,11,none⟩=some (.slice x.g p.group.length x.gc)/\U.cell? ⟨b,12,none⟩=some (.slice x.a p.aggs.length x.ac)
theorem CM(w:World)(p:pl.Pln)(x:pl.PA)(t:TypeId):Br (w.alloc (.cells #[.int .i64 p.kind,.int .i64 p.mode,.int .i64 p.low,.int .i64 p.high,.int .i64 p.size,.int .i64 p.limit,.slice x.l p.left.length x.lc,.slice x.r p.right.length x.rc,.slice x.lk p.lkeys.length x.lkc,.slice x.rk p.rkeys.length x.rkc,.bool p.grouped,.slice x.g p.group.length x.gc,.slice x.a p.aggs.length x.ac] t)) w.heap.size p x:=by
 unfold Br
 refine⟨?_,?_,?_,?_,?_,?_,?_,?_,?_,?_,?_,?_,?_⟩<;>go_simp
theorem Aj(h:Br U b p x)(hb:Bwz U U'):Br U' b p x:=by
 obtain⟨v0,v1,v2,v3,v4,v5,v6,v7,v8,v9,v10,v11,v12⟩:=h
 exact⟨cLz hb v0,cLz hb v1,cLz hb v2,cLz hb v3,cLz hb v4,cLz hb v5,cLz hb v6,cLz hb v7,cLz hb v8,cLz hb v9,cLz hb v10,cLz hb v11,cLz hb v12⟩
theorem NA(h:Br U b p x):b<U.heap.size:=bLt _ _ h.1
def AU(U:World)(b:Nat)(s:Jn)(y:JX):Prop:=U.cell? ⟨b,0,none⟩=some (.int .i64 s.L.lim)/\U.cell? ⟨b,1,none⟩=some (.slice y.l.m.1.1 y.l.m.1.2.1 y.l.m.1.2.2)/\U.cell? ⟨b,2,none⟩=some (.slice y.l.ra y.l.rs.length y.l.rc)/\U.cell? ⟨b,3,none⟩=some (.int .i64 s.R.lim)/\U.cell? ⟨b,4,none⟩=some (.slice y.r.m.1.1 y.r.m.1.2.1 y.r.m.1.2.2)/\U.cell? ⟨b,5,none⟩=some (.slice y.r.ra y.r.rs.length y.r.rc)/\U.cell? ⟨b,6,none⟩=some (.int .i64 s.lm)/\U.cell? ⟨b,7,none⟩=some (.int .i64 s.rm)/\U.cell? ⟨b,8,none⟩=some (.int .i64 s.seq)
theorem Bo(w:World)(s:Jn)(y:JX)(t:TypeId):AU (w.alloc (.cells #[.int .i64 s.L.lim,.slice y.l.m.1.1 y.l.m.1.2.1 y.l.m.1.2.2,.slice y.l.ra y.l.rs.length y.l.rc,.int .i64 s.R.lim,.slice y.r.m.1.1 y.r.m.1.2.1 y.r.m.1.2.2,.slice y.r.ra y.r.rs.length y.r.rc,.int .i64 s.lm,.int .i64 s.rm,.int .i64 s.seq] t)) w.heap.size s y:=by
 unfold AU
 refine⟨?_,?_,?_,?_,?_,?_,?_,?_,?_⟩<;>go_simp
theorem Ag(h:AU U b s y)(hb:Bwz U U'):AU U' b s y:=by
 obtain⟨v0,v1,v2,v3,v4,v5,v6,v7,v8⟩:=h
 exact⟨cLz hb v0,cLz hb v1,cLz hb v2,cLz hb v3,cLz hb v4,cLz hb v5,cLz hb v6,cLz hb v7,cLz hb v8⟩
theorem RV(h:AU U b s y):b<U.heap.size:=bLt _ _ h.1
def noJ(W:World)(B:Nat):Prop:=W.there B 0 9
theorem Ef(w:World):noJ (w.alloc (.cells #[.int .i64 0,.slice none 0 0,.slice none 0 0,.int .i64 0,.slice none 0 0,.slice none 0 0,.int .i64 0,.int .i64 0,.int .i64 0] 31)) w.heap.size:=by
 intro j hj
 match j,hj with
 |0,_=>exact⟨by go_simp,by go_simp⟩
 |1,_=>exact⟨by go_simp,by go_simp⟩
 |2,_=>exact⟨by go_simp,by go_simp⟩
 |3,_=>exact⟨by go_simp,by go_simp⟩
 |4,_=>exact⟨by go_simp,by go_simp⟩
 |5,_=>exact⟨by go_simp,by go_simp⟩
 |6,_=>exact⟨by go_simp,by go_simp⟩
 |7,_=>exact⟨by go_simp,by go_simp⟩
 |8,_=>exact⟨by go_simp,by go_simp⟩
theorem VQ(h:W.there B o n)(hn:0<n):B<W.heap.size:=by
 obtain⟨u,hu⟩:=Option.isSome_iff_exists.1 (h 0 hn).1
 exact bLt _ _ hu
theorem BL(h:W.there B o n)(hb:Bwz W W'):W'.there B o n:=fun j hj=>by
 obtain⟨u,hu⟩:=Option.isSome_iff_exists.1 (h j hj).1
 exact⟨by rw[cLz hb hu];rfl,(hb.frozen (p:=⟨B,o+j,none⟩) (bLt _ _ hu)).trans (h j hj).2⟩
theorem AV(h:noJ W B)(hb:Bwz W W'):noJ W' B:=BL h hb
theorem QO(h:noJ W B):B<W.heap.size:=VQ h (by decide)
theorem below_setCells{k B:Nat}{w:World}(hB:k<=B):∀(l:List Value) (o:Nat) (W:World),Below k w W->Below k w (W.setCells B o l)
 |[],_,_,h=>h
 |v::l,o,W,h=>below_setCells hB l (o+1) _ (h.setCell hB v)
theorem E4:(Tryz.prog.info? 31).map (·.size)=some 9:=by kernel_rfl
theorem C0(h:noJ W B){l:List Value}(hl:l.length=9):(W.setCells B 0 l).rangeAt B 0 l:=World.rangeAt_setCells_same W B 0 l (by rw[hl];exact h)
def jx0:JX:=⟨⟨none,0,((none,0,0),[]),[]⟩,⟨none,0,((none,0,0),[]),[]⟩⟩
def j0:Jn:=⟨⟨0,[],[]⟩,⟨0,[],[]⟩,0,0,0⟩
theorem A6(s:Jn)(y:JX):joinV s y= .agg #[.int .i64 s.L.lim,.slice y.l.m.1.1 y.l.m.1.2.1 y.l.m.1.2.2,.slice y.l.ra y.l.rs.length y.l.rc,.int .i64 s.R.lim,.slice y.r.m.1.1 y.r.m.1.2.1 y.r.m.1.2.2,.slice y.r.ra y.r.rs.length y.r.rc,.int .i64 s.lm,.int .i64 s.rm,.int .i64 s.seq]:=rfl
end jn
end Go.Proofs.YtdohnkkbkfhphaaGreat
