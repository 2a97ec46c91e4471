import Derived.Test.YtdohnkkbkfhphaaGreatPq35
set_option linter.all false
set_option maxHeartbeats 2000000
set_option maxRecDepth 100000
namespace Go.Proofs.YtdohnkkbkfhphaaGreat
open Go.Proofs.Tryz
namespace jn
open Go.RowKit
open vl bf
variable {p : pl.Pln} {s : Jn} {side : Int} {C : List Ent} {v : Ev}
structure leanJ(p:pl.Pln)(s:Jn)(side:Int)(C:List Ent):Prop where
 st:Dp p s side C
 below:∀y∈C,y.seq<s.seq
 once:(C.map (·.seq)).Nodup
theorem Vh(s:Jn)(side t d:Int)(hd:pl.A0 d=true)(hs:pl.A0 side=true):markOf (AY s side t) d=if d=side then t else markOf s d:=by
 rcases side_is hd with e|e<;>rcases side_is hs with k|k<;>subst e<;>subst k<;>rfl
theorem TH(s:Jn)(side t d:Int):Ae (AY s side t) d=Ae s d:=by
 unfold AY
 split<;>rfl
theorem IC(p:pl.Pln)(s:Jn)(d:Int):markOf (Av p s) d=markOf s d:=by
 unfold markOf
 rw[Lw,Lx]
theorem Pp(p:pl.Pln)(s:Jn):(Av p s).seq=s.seq:=by
 unfold Av Jm C8
 split<;>rfl
theorem NJ(p:pl.Pln)(s:Jn)(d:Int):Ay p (Av p s) d=Ay p s d:=by
 unfold Ay
 rw[IC]
theorem Pq(hs:pl.A0 side=true)(hk:¬(p.kind=3/\side=2)):Ab (Ae (Av p s) side)=(Ab (Ae s side)).filter (Ci (Ay p s side)):=by
 rw[<-Dr]
 rcases side_is hs with e|e
 ·subst e
  unfold Av Jm C8
  split<;>rfl
 ·subst e
  unfold Av
  rw[if_neg (fun k=>hk ⟨k,rfl⟩)]
  rfl
theorem Hs(hp:pl.Ai p=0)(hk:p.kind=3)(hm:Cb s.lm=true):Ay p s 2=noMark:=by
 unfold Ay
 split
 ·rfl
 ·rename_i h
  unfold pl.F6 pl.Et
  have h:s.lm≠noMark:=h
  have f:tm.AP s.lm=true:=by
   unfold Cb at hm
   simp only[Bool.or_eq_true,decide_eq_true_eq]at hm
   exact hm.resolve_left h
  have f:tm.AP (markOf s (3 - 2))=true:=f
  rw[if_pos hp,if_pos (show pl.A0 2=true by decide),if_pos f]
  show pl.Dx p 2 _=_
  unfold pl.Dx
  rw[if_neg (by rw[hk];decide),if_neg (by rw[hk];decide),if_pos rfl]
  rfl
theorem NK{s':Jn}(h:Ab s'.R=Ab s.R)(k:ByteArray)(low:Int):lastOf s' k low=lastOf s k low:=by
 unfold lastOf
 rw[h]
theorem RC{d t:Int}(hp:pl.Ai p=0)(hs:pl.A0 side=true)(hd:pl.A0 d=true)(hg:goodJ p s)(ht:tm.AP t=true)(hle:markOf s d<=t)(hC:(C.map (·.seq)).Nodup)(h:Dp p s side C):Dp p (Av p (AY s d t)) side C:=by
 have hgo:=LA hg d t ht
 have hgf:=I0 hgo
 have mk:∀{u:Jn},goodJ p u->∀e,Cb (markOf u e)=true:=by
  intro u hu e
  unfold markOf
  split
  ·exact hu.ok.rm
  ·exact hu.ok.lm
 have le:∀e,pl.A0 e=true->markOf s e<=markOf (Av p (AY s d t)) e:=by
  intro e he
  rw[IC,Vh s d t e he hd]
  split
  ·rename_i k;rw[k];exact hle
  ·exact Int.le_refl _
 by_cases hk:p.kind=3/\side=2
 ·obtain⟨k3,rfl⟩:=hk
  have g0:Ay p s 2=noMark:=Hs hp k3 hg.ok.lm
  have g1:Ay p (AY s d t) 2=noMark:=Hs hp k3 hgo.ok.lm
  have g2:Ay p (Av p (AY s d t)) 2=noMark:=Hs hp k3 hgf.ok.lm
  have hR:Ab (C8 p (AY s d t)).R=Ab s.R:=by
   show Ab (BU (Ci (Ay p (AY s d t) 2)) (AY s d t).R)=_
   have e:(AY s d t).R=s.R:=TH s d t 2
   rw[Dr,e,g1,List.filter_eq_self]
   intro y hy
   have:=(tm.CI _).1 (UT hg.ok.R hy)
   have e:noMark= -1099511627777:=rfl
   unfold Ci
   simp only[decide_eq_true_eq]
   omega
  have hlow:Bq (C8 p (AY s d t))=Bq (Av p (AY s d t)):=by
   unfold Bq
   rw[Lw,Lx]
   rfl
  refine T0 (s':=Av p (AY s d t)) k3 hg (g2.trans g0.symm) ?_ hC ?_ h ?_
  ·have l1:=le 1 (by decide)
   have l2:=le 2 (by decide)
   show min s.lm s.rm<=min (Av p (AY s d t)).lm (Av p (AY s d t)).rm
   have l1:s.lm<=(Av p (AY s d t)).lm:=l1
   have l2:s.rm<=(Av p (AY s d t)).rm:=l2
   omega
  ·have e:Av p (AY s d t)=Jm (C8 p (AY s d t)):=if_pos k3
   have e2:(Ae (Av p (AY s d t)) 2)=BU (fun y=>decide (Bq (Av p (AY s d t))<y.time)||decide (lastOf s y.key (Bq (Av p (AY s d t)))=y.seq)) (C8 p (AY s d t)).R:=by
    rw[<-hlow,e]
    show BU _ _=BU _ _
    congr 1
    funext y
    rw[NK hR]
   rw[e2,Dr,hR]
   rfl
  ·intro y hy
   have:=(tm.CI _).1 (h.2 y hy)
   have e:noMark= -1099511627777:=rfl
   rw[g0]
   omega
 ·refine Rw hp hs hk (mk hg _) (mk hgf _) (le _ (JI hs)) ?_ h
  rw[Pq hs hk,NJ,TH]
theorem Vi(p:pl.Pln)(s:Jn)(v:Ev):(E6 p s v).1.seq=s.seq+1:=by
 unfold E6
 split
 ·split
  ·exact(Fd ..).2.2
  ·exact(Fd ..).2.2.trans (by rw[(Da ..).2.2])
 ·exact(Fd ..).2.2.trans (by unfold B6;rw[(Da ..).2.2])
theorem step_seq(h0:(stepJ p s v).1=0):(stepJ p s v).2.1.seq=if v.kind=2 then s.seq else s.seq+1:=by
 rw[Qh h0]
 split
 ·dsimp only
  rw[Pp]
  unfold AY
  split<;>rfl
 ·exact Vi p s v
theorem RD(hp:pl.Ai p=0)(hs:pl.A0 side=true)(hg:goodJ p s)(h0:(stepJ p s v).1=0)(h:leanJ p s side C):leanJ p (stepJ p s v).2.1 side (C++BJ p side v s.seq):=by
 have hq:=step_seq h0
 have he:=Qh h0
 by_cases hk:v.kind=2
 ·rw[if_pos hk]at hq he
  have eb:BJ p side v s.seq=[]:=if_neg (fun k=>k.1 hk)
  obtain⟨m1,m2,m3,m4⟩:=LC (Zz9 h0).2 hk
  rw[eb,List.append_nil]
  refine⟨?_,?_,h.once⟩
  ·rw[he]
   exact RC hp hs m1 hg m2 m4 h.once h.st
  ·rw[hq];exact h.below
 ·rw[if_neg hk]at hq he
  have hc:=IL (Zz9 h0).2 hk
  refine⟨?_,?_,?_⟩
  ·rw[he]
   exact Ty hs hc hk h.st
  ·rw[hq]
   intro y hy
   rcases List.mem_append.1 hy with k|k
   ·have:=h.below y k
    omega
   ·unfold BJ at k
    split at k
    ·rw[List.mem_singleton.1 k]
     show s.seq<s.seq+1
     omega
    ·cases k
  ·rw[List.map_append]
   unfold BJ
   split
   ·rw[List.map_singleton]
    refine List.nodup_append.2 ⟨h.once,List.pairwise_singleton ..,?_⟩
    intro a ha b hb e
    rw[List.mem_singleton.1 hb]at e
    obtain⟨y,hy,ey⟩:=List.mem_map.1 ha
    have:=h.below y hy
    have:a=s.seq:=e
    omega
   ·rw[List.map_nil,List.append_nil]
    exact h.once
theorem FX{p:pl.Pln}{side:Int}(hp:pl.Ai p=0)(hs:pl.A0 side=true):∀(l:List Ev) (s:Jn) (i:Nat) (C:List Ent),goodJ p s->(∀v∈l,wfV v)->leanJ p s side C->leanJ p (playJ p s l i).1 side (C++A3 p side s l)
 |[],s,i,C,_,_,h=>by
  rw[A3,List.append_nil]
  exact h
 |v::l,s,i,C,hg,hv,h=>by
  have hv':∀u∈l,wfV u:=fun u hu=>hv u (List.mem_cons_of_mem _ hu)
  rw[playJ,A3]
  by_cases h0:(stepJ p s v).1≠0
  ·rw[if_pos h0,if_pos h0]
   exact FX hp hs l s (i+1) C hg hv' h
  ·rw[if_neg h0,if_neg h0,<-List.append_assoc]
   have h0:(stepJ p s v).1=0:=by simpa using h0
   exact FX hp hs l _ (i+1) _ (good_step hg.wf (hv v (List.mem_cons_self ..)) h0) hv' (RD hp hs hg h0 h)
theorem JU(hp:pl.Ai p=0)(side:Int):leanJ p (startJ p) side []:=by
 refine⟨⟨?_,fun y hy=>absurd hy List.not_mem_nil⟩,fun y hy=>absurd hy List.not_mem_nil,List.nodup_nil⟩
 rw[Dt hp]
 have e0:Ab ⟨p.limit,[],[]⟩=[]:=by simp[Ab,partsB]
 unfold Ae
 split
 ·rw[e0];exact List.Perm.refl _
 ·rw[e0];exact List.Perm.refl _
theorem GA(p:pl.Pln):∀(a b:List Ev) (s:Jn) (i:Nat),playJ p s (a++b) i=((playJ p (playJ p s a i).1 b (i+a.length)).1,(playJ p s a i).2.1++(playJ p (playJ p s a i).1 b (i+a.length)).2.1,(playJ p s a i).2.2++(playJ p (playJ p s a i).1 b (i+a.length)).2.2)
 |[],b,s,i=>rfl
 |v::a,b,s,i=>by
  rw[List.cons_append,playJ,playJ]
  have e:i+(v::a).length=i+1+a.length:=by rw[List.length_cons];omega
  by_cases h0:(stepJ p s v).1≠0
  ·rw[if_pos h0,if_pos h0,GA p a b s (i+1),e]
   rfl
  ·rw[if_neg h0,if_neg h0,GA p a b _ (i+1),e]
   dsimp only
   rw[List.append_assoc]
theorem F9(p:pl.Pln):∀(l:List Ev) (s:Jn) (i:Nat),∀x∈(playJ p s l i).2.2,(i:Int)<=x
 |[],s,i,x,hx=>by cases hx
 |v::l,s,i,x,hx=>by
  rw[playJ]at hx
  by_cases h0:(stepJ p s v).1≠0
  ·rw[if_pos h0]at hx
   rcases List.mem_cons.1 hx with e|e
   ·rw[e];exact Int.le_refl _
   ·have:=F9 p l s (i+1) x e
    omega
  ·rw[if_neg h0]at hx
   have:=F9 p l _ (i+1) x hx
   omega
theorem Fe(p:pl.Pln)(side:Int):∀(a b:List Ev) (s:Jn) (i:Nat),A3 p side s (a++b)=A3 p side s a++A3 p side (playJ p s a i).1 b
 |[],b,s,i=>rfl
 |v::a,b,s,i=>by
  rw[List.cons_append,A3,A3,playJ]
  by_cases h0:(stepJ p s v).1≠0
  ·rw[if_pos h0,if_pos h0,if_pos h0,Fe p side a b s (i+1)]
  ·rw[if_neg h0,if_neg h0,if_neg h0,Fe p side a b _ (i+1),List.append_assoc]
theorem RF(p:pl.Pln)(s:Jn)(l:List Ev)(k:Nat)(hk:k<l.length):
 if (stepJ p (PK p s l k).1 (l.getD k default)).1≠0
 then((PK p s l k).2.2.length<(playJ p s l 0).2.2.length/\(playJ p s l 0).2.2.getD (PK p s l k).2.2.length 0=(k:Int)/\(PK p s l (k+1)).2.2.length=(PK p s l k).2.2.length+1)
 else((PK p s l k).2.2.length<(playJ p s l 0).2.2.length->(playJ p s l 0).2.2.getD (PK p s l k).2.2.length 0≠(k:Int))/\(PK p s l (k+1)).2.2.length=(PK p s l k).2.2.length:=by
 have hsp:l=l.take k++(l.getD k default::l.drop (k+1)):=by
  rw[getD_at hk,List.getElem_cons_drop,List.take_append_drop]
 have hlen:0+(l.take k).length=k:=by rw[List.length_take];omega
 have e:(playJ p s l 0).2.2=(PK p s l k).2.2++(playJ p (PK p s l k).1 (l.getD k default::l.drop (k+1)) k).2.2:=by
  have:=GA p (l.take k) (l.getD k default::l.drop (k+1)) s 0
  rw[hlen,<-hsp]at this
  rw[this]
  rfl
 have hs:=LI p s l k hk
 have e2:(playJ p s l 0).2.2.getD (PK p s l k).2.2.length 0=(playJ p (PK p s l k).1 (l.getD k default::l.drop (k+1)) k).2.2.getD 0 0:=by
  rw[e,Rt _ _ _ nR,Nat.sub_self]
 by_cases h0:(stepJ p (PK p s l k).1 (l.getD k default)).1≠0
 ·rw[if_pos h0]at hs⊢
  rw[hs,e2,e,playJ,if_pos h0]
  refine⟨?_,rfl,?_⟩
  ·rw[lAp]
   dsimp only
   rw[List.length_cons]
   omega
  ·dsimp only
   rw[lAp]
   rfl
 ·rw[if_neg h0]at hs⊢
  rw[hs]
  refine⟨fun hl=>?_,rfl⟩
  rw[e2]
  rw[e,lAp]at hl
  have hf:=F9 p (l.drop (k+1)) (stepJ p (PK p s l k).1 (l.getD k default)).2.1 (k+1)
  rw[playJ,if_neg h0]at hl⊢
  dsimp only at hl⊢
  generalize (playJ p (stepJ p (PK p s l k).1 (l.getD k default)).2.1 (l.drop (k+1)) (k+1)).2.2=q at hl hf
  have:=hf _ (Bb (d:=0) (show 0<q.length by omega))
  omega
noncomputable def CK(p:pl.Pln)(side:Int)(s:Jn)(l:List Ev)(k:Nat):List Ent:=A3 p side s (l.take k)
theorem WC(p:pl.Pln)(side:Int)(s:Jn)(l:List Ev):CK p side s l l.length=A3 p side s l:=by
 unfold CK
 rw[List.take_length]
theorem Vj(p:pl.Pln)(side:Int)(s:Jn)(l:List Ev)(k:Nat)(hk:k<l.length):CK p side s l (k+1)=if (stepJ p (PK p s l k).1 (l.getD k default)).1≠0 then CK p side s l k else CK p side s l k++BJ p side (l.getD k default) (PK p s l k).1.seq:=by
 unfold CK
 rw[List.take_succ_eq_append_getElem hk,Fe p side (l.take k) _ s 0,<-getD_at (d:=default) hk]
 show _++A3 p side (PK p s l k).1 [l.getD k default]=_
 rw[A3,A3,A3]
 by_cases h0:(stepJ p (PK p s l k).1 (l.getD k default)).1≠0
 ·rw[if_pos h0,if_pos h0,List.append_nil]
 ·rw[if_neg h0,if_neg h0,List.append_nil]
theorem TI(p:pl.Pln)(s:Jn)(l:List Ev)(k:Nat)(hk:k<l.length):(PK p s l (k+1)).1.seq=if (stepJ p (PK p s l k).1 (l.getD k default)).1≠0 then(PK p s l k).1.seq else if (l.getD k default).kind=2 then(PK p s l k).1.seq else(PK p s l k).1.seq+1:=by
 rw[LI p s l k hk]
 by_cases h0:(stepJ p (PK p s l k).1 (l.getD k default)).1≠0
 ·rw[if_pos h0,if_pos h0]
 ·rw[if_neg h0,if_neg h0]
  exact step_seq (by simpa using h0)
end jn
namespace jn
open Go.ChangeShapes Go.WideShapes Go.ChangeAt Go.RowKit
open vl bf
variable {w w' w0 wr : World} {C l ml : List Ent} {v : Value} {p : pl.Pln} {s : Jn}
def Cl(w:World)(a:Option Addr)(l:List Ent):Prop:=
 ∀i,i<l.length->∃b off ra rc,a=some ⟨b,off,none⟩/\w.cell? ⟨b,off+i * 5,none⟩=some (.string (l.getD i default).key)/\w.cell? ⟨b,off+i * 5+1,none⟩=some (.int .i64 (l.getD i default).time)/\
  w.cell? ⟨b,off+i * 5+1+1,none⟩=some (.int .i64 (l.getD i default).seq)/\w.cell? ⟨b,off+i * 5+1+1+1,none⟩=some (.slice ra (l.getD i default).row.length rc)/\w.cell? ⟨b,off+i * 5+1+1+1+1,none⟩=some (.bool (l.getD i default).met)/\vl.rowAt w ra (l.getD i default).row
theorem Mu{a:Option Addr}(h:Cl w a l)(hb:Bwz w w'):Cl w' a l:=fun i hi=>by
 obtain⟨b,o,ra,rc,e,x1,x2,x3,x4,x5,x6⟩:=h i hi
 exact⟨b,o,ra,rc,e,cLz hb x1,cLz hb x2,cLz hb x3,cLz hb x4,cLz hb x5,vl.Ac x6 hb⟩
theorem OE.entsAt{base:Nat}{hh:Hdr}{es:List EM}(h:OE w base (hdV hh) es l):hh.2.1=l.length/\Cl w hh.1 l/\l.length<=9223372036854775807:=by
 obtain⟨⟨e1,e2⟩,e3⟩:=Cf (p:=(hh,es)) h
 dsimp only at e1 e2 e3
 have hl:=h.len
 refine⟨e1.trans hl,fun i hi=>?_,by omega⟩
 obtain⟨b,o,e,x1,x2,x3,x4,x5⟩:=e3 i (by omega)
 have hr:=h.ers.2 i hi
 rw[hr.key]at x1
 rw[hr.time]at x2
 rw[hr.seq]at x3
 rw[hr.met]at x5
 unfold hdV at x4
 rw[hr.len]at x4
 exact⟨b,o,_,_,e,x1,x2,x3,x4,x5,hr.row⟩
theorem Vk{b:Buf}(h:okB b):(Ab b).length<=4611686018427387904:=by
 have:=h.all
 omega
theorem Vl(b:Buf)(x:BX)(w:World)(h:bufAt w b x)(hok:okB b)(hw:∀y∈Ab b,wfE y/\wfP (AS y)):
 Calls Tryz.prog 26 #[AQ b x] w fun e w'=>(∃ad cap l',e= .returned (.tuple #[.slice ad (List.length l') cap,.int .i64 0])/\l'.Perm (Ab b)/\Gi l'/\Cl w' ad l')/\Bwz w w':=by
 refine(bf.Iw b x w h hw (Vk hok) (CV hok)).mono ?_
 rintro e w' ⟨⟨hh,es,l',rfl,hp,hby,ho⟩,hb⟩
 obtain⟨e1,e2,e3⟩:=OE.entsAt ho
 refine⟨⟨hh.1,hh.2.2,l',?_,hp,GM hby ((DN hp).2 hok.once),e2⟩,hb⟩
 unfold hdV
 rw[e1]
theorem Qp(p:pl.Pln)(s:Jn)(l:List Ev)(h0:s.seq=0):∀k,k<=l.length->0<=(PK p s l k).1.seq/\(PK p s l k).1.seq<=(k:Int)
 |0,_=>by
  rw[PN,h0]
  exact⟨Int.le_refl _,Int.le_refl _⟩
 |k+1,hk=>by
  have ih:=Qp p s l h0 k (by omega)
  rw[TI p s l k (by omega)]
  split
  ·omega
  ·split<;>omega
structure goesOn(p:pl.Pln)(side:Int)(s:Jn)(l:List Ev)(i:Nat):Prop where
 one:(((PK p s l i).2.2.length<(playJ p s l 0).2.2.length/\(playJ p s l 0).2.2.getD (PK p s l i).2.2.length 0=(i:Int))/\(PK p s l (i+1)).2.2.length=(PK p s l i).2.2.length+1/\CK p side s l (i+1)=CK p side s l i/\(PK p s l (i+1)).1.seq=(PK p s l i).1.seq)\/
  ((¬(PK p s l i).2.2.length<(playJ p s l 0).2.2.length\/((PK p s l i).2.2.length<(playJ p s l 0).2.2.length/\(playJ p s l 0).2.2.getD (PK p s l i).2.2.length 0≠(i:Int)))/\(PK p s l (i+1)).2.2.length=(PK p s l i).2.2.length/\
    (((l.getD i default).kind=2/\CK p side s l (i+1)=CK p side s l i/\(PK p s l (i+1)).1.seq=(PK p s l i).1.seq)\/
     ((l.getD i default).kind=1/\pl.AV p (l.getD i default).side (l.getD i default).row=0/\CK p side s l (i+1)=CK p side s l i++BJ p side (l.getD i default) (PK p s l i).1.seq/\(PK p s l (i+1)).1.seq=(PK p s l i).1.seq+1)))
theorem goes_on(p:pl.Pln)(side:Int)(s:Jn)(l:List Ev)(i:Nat)(hi:i<l.length):goesOn p side s l i:=by
 have h1:=RF p s l i hi
 have h2:=Vj p side s l i hi
 have h3:=TI p s l i hi
 by_cases h0:(stepJ p (PK p s l i).1 (l.getD i default)).1≠0
 ·rw[if_pos h0]at h1 h2 h3
  exact⟨.inl ⟨⟨h1.1,h1.2.1⟩,h1.2.2,h2,h3⟩⟩
 ·rw[if_neg h0]at h1 h2 h3
  have h00:(stepJ p (PK p s l i).1 (l.getD i default)).1=0:=by simpa using h0
  have hor:¬(PK p s l i).2.2.length<(playJ p s l 0).2.2.length\/((PK p s l i).2.2.length<(playJ p s l 0).2.2.length/\(playJ p s l 0).2.2.getD (PK p s l i).2.2.length 0≠(i:Int)):=by
   by_cases h:(PK p s l i).2.2.length<(playJ p s l 0).2.2.length
   ·exact .inr ⟨h,h1.1 h⟩
   ·exact .inl h
  refine⟨.inr ⟨hor,h1.2,?_⟩⟩
  by_cases hk:(l.getD i default).kind=2
  ·rw[if_pos hk]at h3
   have eb:BJ p side (l.getD i default) (PK p s l i).1.seq=[]:=if_neg (fun k=>k.1 hk)
   rw[eb,List.append_nil]at h2
   exact .inl ⟨hk,h2,h3⟩
  ·rw[if_neg hk]at h3
   have he:=(Zz9 h00).2
   have hc:=IL he hk
   have hk1:(l.getD i default).kind=1:=by
    unfold Az at he
    split at he
    ·cases he
    ·rename_i hq
     have:(l.getD i default).kind=1\/(l.getD i default).kind=2:=by
      by_cases h:(l.getD i default).kind=1\/(l.getD i default).kind=2
      ·exact h
      ·exact absurd (.inl h) hq
     exact this.resolve_right hk
   exact .inr ⟨hk1,hc.err,h2,h3⟩
structure GL(w0 wr:World)(v:Value)(ems:List EM)(ml:List Ent):Prop where
 own:wr.ownsRow w0.heap.size 63 5 v ems.length (Ar ems)
 ers:ERs w0 ems ml
 bl:Bwz w0 wr
theorem TJ(w0:World):GL w0 w0 (.slice none 0 0) [] []:=⟨World.ownsRow_nil _ _ _ _,PY _,bR⟩
theorem GL.below{ems:List EM}(h:GL w0 wr v ems ml)(hb:Bwz wr w'):GL w0 w' v ems ml:=⟨own_below h.own hb,h.ers,h.bl.trans (hb.mono h.bl.size)⟩
theorem GL.snoc{w2 w3:World}{v':Value}{ems:List EM}{e:EM}{z:Ent}(h:GL w0 w2 v ems ml)(hz:ER w0 e z)(ho:w3.ownsRow w0.heap.size 63 5 v' (ems.length+1) (Ar ems++[.string e.key,.int .i64 e.time,.int .i64 e.seq,hdV e.row,.bool e.met]))(hb:Bwz w0 w3):GL w0 w3 v' (ems++[e]) (ml++[z]):=by
 have hl:=h.ers.1
 refine⟨by rw[lAp,E0];exact ho,⟨by rw[lAp,lAp,hl];rfl,fun k hk=>?_⟩,hb⟩
 rw[lAp]at hk
 by_cases e1:k<ml.length
 ·rw[AN e1,AN (by rw[hl];exact e1)]
  exact h.ers.2 k e1
 ·have:k=ml.length:=by simp at hk;omega
  subst this
  rw[AA nR,AA (by rw[hl];exact Nat.le_refl _),hl,Nat.sub_self]
  exact hz
theorem GL.at{ems:List EM}(h:GL w0 wr v ems ml):∃a c,v= .slice a ml.length c/\Cl wr a ml:=by
 have ho:=h.own
 have e:=Gx ho
 have hl:=h.ers.1
 refine⟨Kv v,N6 v,by rw[<-hl];exact e,fun i hi=>?_⟩
 have hi2:i<ems.length:=by omega
 rcases ho.2 with⟨hv,h0⟩|⟨g,c,cur,hv,_⟩
 ·omega
 ·have hc:=World.ownsRow.cells ho (g:=g) (by rw[hv];rfl)
  obtain⟨x1,x2,x3,x4,x5⟩:=Ei ems i hi2
  have c1:=hc _ _ x1
  have c2:=hc _ _ x2
  have c3:=hc _ _ x3
  have c4:=hc _ _ x4
  have c5:=hc _ _ x5
  rw[ch.C9,Nat.zero_add]at c1 c2 c3 c4 c5
  have hr:=h.ers.2 i hi
  rw[hr.key]at c1
  rw[hr.time]at c2
  rw[hr.seq]at c3
  rw[hr.met]at c5
  unfold hdV at c4
  rw[hr.len]at c4
  refine⟨g,0,(ems.getD i default).row.1,(ems.getD i default).row.2.2,by rw[hv];rfl,?_,?_,?_,?_,?_,vl.Ac hr.row h.bl⟩
  ·rw[Nat.zero_add];exact c1
  ·rw[Nat.zero_add];exact c2
  ·rw[Nat.zero_add];exact c3
  ·rw[Nat.zero_add];exact c4
  ·rw[Nat.zero_add];exact c5
theorem Ps{side:Int}(h:p.kind≠3\/side=1):C.filter (Bx p s side C)=C.filter fun y=>decide (Ay p s side<y.time):=by
 refine List.filter_congr fun y _=>?_
 unfold Bx
 have e:decide (p.kind=3/\side=2)=false:=decide_eq_false (by rintro ⟨h1,h2⟩;omega)
 rw[e]
 simp
theorem TK(hk:p.kind=3)(hg:∀y∈C,Ay p s 2<y.time):C.filter (Bx p s 2 C)=C.filter fun y=> !Cc C (Bq s) y:=by
 refine List.filter_congr fun y hy=>?_
 unfold Bx
 rw[decide_eq_true (hg y hy),decide_eq_true ⟨hk,rfl⟩]
 simp
theorem TL(hg:∀y∈C,Ay p s 2<y.time):(C.filter fun y=>decide (Ay p s 2<y.time))=C:=List.filter_eq_self.2 fun y hy=>decide_eq_true (hg y hy)
theorem TN{L:List Ent}{low:Int}{y:Ent}{j:Nat}(h:j<L.length):Cc (L.take (j+1)) low y=(Cc (L.take j) low y||(decide ((L.getD j default).key=y.key)&&decide ((L.getD j default).time<=low)&&decide (ltP y (L.getD j default)))):=by
 unfold Cc
 rw[FA h,List.any_append]
 simp
theorem JW(p:pl.Pln)(side:Int):∀(l:List Ev) (s:Jn),(A3 p side s l).length<=l.length
 |[],s=>Nat.le_refl _
 |v::l,s=>by
  rw[A3,List.length_cons]
  split
  ·have:=JW p side l s
   omega
  ·rw[lAp]
   have:=JW p side l (stepJ p s v).2.1
   have:(BJ p side v s.seq).length<=1:=by
    unfold BJ
    split
    ·exact Nat.le_refl _
    ·exact Nat.zero_le _
   omega
end jn
namespace bf
open Go.ChangeShapes Go.WideShapes Go.ChangeAt Go.RowKit
open vl
theorem Vm{a b:ByteArray}(h:a≠b):¬a.toList=b.toList:=fun e=>h (by have:=bytes_beq a b;rw[e]at this;simpa using this.symm)
theorem L4(e f:EM)(w:World):Calls Tryz.prog 55 #[e.val,f.val] w fun r w'=>r= .returned (.int .i64 (Dj e.ent f.ent))/\Bwz w w':=by
 obtain⟨R,hR⟩:=nM (Dj e.ent f.ent)
 have HF:Hid (A8 [Lib.compareBytes (bl e.key) (bl f.key),Cd e.time f.time,Cd e.seq f.seq]=R):=by
  show _=_
  rw[<-hR]
  exact Gt e.ent f.ent
 rw[hR]
 clear hR
 obtain⟨ek,et,es,⟨r1,r2,r3⟩,em⟩:=e
 obtain⟨fk,ft,fs,⟨q1,q2,q3⟩,fm⟩:=f
 unfold EM.val hdV
 dsimp only at HF⊢
 by_cases hk:ek=fk
 ·subst hk
  have h0:Lib.compareBytes (bl ek) (bl ek)=0:=by rw[IQ];simp
  rw[h0]at HF
  by_cases ht:Cd et ft=0
  ·have HR:Hid (Cd es fs=R):=by
    show _=_
    rw[<-HF.out,ht]
    unfold A8
    by_cases h3:Cd es fs=0<;>simp[A8,h3]
   clear HF h0
   have KO:Hid (∀w1,Calls Tryz.prog 105 #[.int .i64 et,.int .i64 ft] w1 fun e w'=>e= .returned (.int .i64 0)/\w'=w1):=fun w1=>by have:=Ij et ft w1;rwa[ht]at this
   go_enter func55,ntmps55
   go_wp2_with (go_at_call 105;first|(refine(KO.out _).mono ?_;rintro e w' ⟨rfl,rfl⟩)|(refine(Ij es fs _).mono ?_;rintro e w' ⟨rfl,rfl⟩))
   go_ret
   refine⟨Ao HR.out,?_⟩
   repeat (first|exact bR|apply Below.drew|(refine Below.alloc ?_ (by simp<;>omega) _))
  ·have HR:Hid (Cd et ft=R):=by
    show _=_
    rw[<-HF.out]
    simp[A8,ht]
   clear HF h0
   have hne:(Cd et ft !=0)=true:=by simpa using ht
   go_enter func55,ntmps55
   go_wp2_with (go_at_call 105;refine(Ij et ft _).mono ?_;rintro e w' ⟨rfl,rfl⟩)
   go_ret
   refine⟨Ao HR.out,?_⟩
   repeat (first|exact bR|apply Below.drew|(refine Below.alloc ?_ (by simp<;>omega) _))
 ·have t1':=Vm hk
  have t1:(ek.toList==fk.toList)=false:=by simpa using t1'
  clear t1'
  by_cases hl:bl ek<bl fk
  ·have HR:Hid ((-1:Int)=R):=by
    show _=_
    rw[<-HF.out,IQ,if_pos hl]
    rfl
   clear HF
   have hb:Op.bytesLess ek.toList fk.toList=true:=by rw[Lib.toList_data,Lib.toList_data,Eo];exact decide_eq_true hl
   go_enter func55,ntmps55
   go_wp2
   go_ret
   refine⟨Ao HR.out,?_⟩
   repeat (first|exact bR|apply Below.drew|(refine Below.alloc ?_ (by simp<;>omega) _))
  ·have HR:Hid ((1:Int)=R):=by
    show _=_
    rw[<-HF.out,IQ,if_neg hl,if_neg (fun e=>hk (Md e))]
    rfl
   clear HF
   have hb:Op.bytesLess ek.toList fk.toList=false:=by rw[Lib.toList_data,Lib.toList_data,Eo];exact decide_eq_false hl
   go_enter func55,ntmps55
   go_wp2
   go_ret
   refine⟨Ao HR.out,?_⟩
   repeat (first|exact bR|apply Below.drew|(refine Below.alloc ?_ (by simp<;>omega) _))
end bf
end Go.Proofs.YtdohnkkbkfhphaaGreat
