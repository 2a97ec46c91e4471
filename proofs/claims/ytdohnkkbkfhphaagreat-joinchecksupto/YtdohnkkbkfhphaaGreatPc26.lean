import Derived.Test.YtdohnkkbkfhphaaGreatPc25
set_option linter.all false
set_option maxHeartbeats 4000000
set_option maxRecDepth 100000
namespace Go.Proofs.YtdohnkkbkfhphaaGreat
open Go.Proofs.Tryz
namespace jn
open Go.ChangeShapes Go.WideShapes Go.ChangeAt Go.RowKit
open vl pl bt
attribute [local go_sem] Oper.semAt_some
theorem U6(b:Nat)(p:pl.Pln)(x:pl.PA)(s:Jn)(y:JX)(t:Value)(T:TypeId)(ra sa:Option Addr)(rn rc sn sc:Nat)(row srow:List Cel)(L:List CO)(base:Nat)(w:World)(h:boxC w b p x s y t)(hT:bf.Ar w b T)(h1:T≠55)(h2:T≠103)(hE:Est w base ((⟨t,55,2,L.length,ch.Bh (L.map CO.pair)⟩:Own1)::Cu (.slice ra rn rc) row::Cu (.slice sa sn sc) srow::L.map fun x=>Cu x.rv x.row))(hl:L.length<=1000000):
 Calls Tryz.prog 269 #[.pointer (some ⟨b,0,none⟩),.slice ra rn rc,.slice sa sn sc] w fun e w'=>e= .returned (.tuple #[])/\∃t',boxC w' b p x s y t'/\CG w' base t' (L++[⟨3,.slice ra rn rc,row⟩,⟨4,.slice sa sn sc,srow⟩])/\OY w w' b t:=by
 have ht:=h.told
 have ho:w.ownsRow base 55 2 t L.length (ch.Bh (L.map CO.pair)):=Est.own hE _ (List.mem_cons_self ..)
 have HB:Hid (boxC w b p x s y t):=h
 have HE:Hid (Est w base ((⟨t,55,2,L.length,ch.Bh (L.map CO.pair)⟩:Own1)::Cu (.slice ra rn rc) row::Cu (.slice sa sn sc) srow::L.map fun x=>Cu x.rv x.row)/\bf.Ar w b T):=⟨hE,hT⟩
 have hlow:base<=w.heap.size:=Est.low hE
 have hbl:=h.lt
 have hnt:t.ownBlock≠some b:=fun e=>bf.tyAt_apart (bf.A8 ho e) hT h1.symm rfl
 obtain⟨ln,hln⟩:=nM L.length
 have HLN:Hid ((L.map CO.pair).length=ln):=by show _=_;rw[lMp,hln]
 rw[hln]at ho hl
 clear hE h
 go_enter func269,ntmps269
 go_wp2_with (at_builtin;refine Nz rfl (.tmp 10) (.tmp 15) rfl base t (L.map CO.pair) 3 (.slice ra rn rc) 4 (.slice sa sn sc) w ln HLN.out ho (by omega) hlow rfl rfl rfl rfl ?_;intro g cap2 w2 hx hg hat hgl;have hbk:w2.heap[b]? =w.heap[b]? :=(hg.block b (by simp;omega) (fun e=>hnt e.symm)).trans (Below.heap_alloc _ _ _ hbl);have HB2:Hid (boxC w2 b p x s y t):=Gs HB.out hbk;have ht2:=HB2.out.told;have hf2:w2.frozen? ⟨b,22,none⟩=false:=(by have:=(HB2.out.room 22 (by decide)).2;simpa using this))
 refine bodyPost_end (v:=.tuple #[]) (by simp[results,results269,go_sem]) rfl ⟨rfl,.slice (some ⟨g,0,none⟩) (ln+2) cap2,M9 HB2.out _,?_,?_⟩
 ·obtain⟨k1,k4⟩:=HE.out
  exact N0 (CG.add2 (E:=[]) k1 bR hg (by rw[hln];exact hx) (fun g' e=>by
   have e2:g=g':=by cases e;rfl
   subst e2
   exact hat.imp id (fun e=>by omega))) (bf.AH k4 hbk) h1 h2 _ _
 ·refine⟨⟨hg.os,hg.tape,hg.output,by have:=hg.size;simp[World.setCell]at this⊢;omega,fun k hk=>absurd hk (Nat.not_lt_zero k)⟩,fun g' hl' hb' ht'=>?_,fun T' hT'=>bf.AM (bf.AH hT' hbk) _ _⟩
  rw[heap_setCell_other _ _ _ _ (by exact hb')]
  exact(hg.block g' (by simp;omega) (fun e=>ht' e.symm)).trans (Below.heap_alloc _ _ _ hl')
end jn
namespace bt
open Go.ChangeShapes Go.WideShapes Go.ChangeAt Go.RowKit
open vl pl
theorem MX(a b:List Cel):celCells (a++b)=celCells a++celCells b:=by unfold celCells;rw[List.flatMap_append]
theorem FJ(v:Value)(h:v.cells.size=3)(n:Nat):(Builtin.zeroCells v.cells n).size=n * 3:=by
 simp[Builtin.zeroCells,h]
theorem S6(n:Nat)(w:World)(hn:n<=1000):
 Calls Tryz.prog 277 #[.slice none 0 0,.int .i64 n] w fun e w'=>(∃v,e= .returned v/\AA w' w.heap.size v [])/\Bwz w w':=by
 obtain⟨i0,hi,hz0,hz1,hz2⟩:=info_parts Tryz.infoV
 by_cases h0:n=0
 ·subst h0
  go_enter func277,ntmps277
  go_wp2
  go_ret
  exact⟨⟨_,rfl,World.ownsRow_nil _ _ _ _⟩,bR⟩
 ·have hrz:∀ty,(Builtin.append_ #[41,3] ty #[.slice none 0 0,.int .i64 (n:Int)]).run Tryz.prog w=
   .ok (.slice (some ⟨w.heap.size,0,none⟩) n (grownCap w n 0 103)) (w.drew.alloc (.cells (Builtin.zeroCells (Value.agg #[.int .i64 0,.int .i64 0,.string ⟨#[]⟩]).cells n++Builtin.zeroCells (Value.agg #[.int .i64 0,.int .i64 0,.string ⟨#[]⟩]).cells (grownCap w n 0 103 - n)) 103)):=fun ty=>by
   have h:=Lib.run_append_grow_zeros w 41 3 ty 103 i0 (.agg #[.int .i64 0,.int .i64 0,.string ⟨#[]⟩]) .i64 .i64 underlying41 underlying3 hi hz0 none 0 0 [] (run_firstCells_none w.drew i0.size 0 0 0) n (by omega) (by omega) (by omega) (by omega) (by rw[hz2];omega) (growslice_fits (by omega) (by rw[hz2];omega))
   simpa using h
  have hG1:n<=grownCap w n 0 103:=grownCap_ge w _ _ _
  have hG2:grownCap w n 0 103<=maxLen:=grownCap_le_maxLen w n 0 103 (by unfold maxLen;omega)
  obtain⟨G,hG⟩:∃G,G=grownCap w n 0 103:=⟨_,rfl⟩
  rw[<-hG]at hrz hG1 hG2
  have hsz:(Builtin.zeroCells (Value.agg #[.int .i64 0,.int .i64 0,.string ⟨#[]⟩]).cells n++Builtin.zeroCells (Value.agg #[.int .i64 0,.int .i64 0,.string ⟨#[]⟩]).cells (G - n)).size=G * 3:=by
   rw[Array.size_append,FJ _ rfl,FJ _ rfl];omega
  obtain⟨cur,hcur⟩:∃c,Builtin.zeroCells (Value.agg #[.int .i64 0,.int .i64 0,.string ⟨#[]⟩]).cells n++Builtin.zeroCells (Value.agg #[.int .i64 0,.int .i64 0,.string ⟨#[]⟩]).cells (G - n)=c:=⟨_,rfl⟩
  rw[hcur]at hrz hsz
  have HO:Hid (AA (w.drew.alloc (.cells cur 103)) w.heap.size (.slice (some ⟨w.heap.size,0,none⟩) 0 G) []):=World.ownsRow_made (base:=w.heap.size) (e:=103) (size:=3) w.drew cur G nR hG2 hsz
  have hp:0<(n:Int):=by omega
  unfold maxLen at hG2
  clear hcur hG hi hz0 hz1 hz2
  go_enter func277,ntmps277
  go_wp2_with (at_builtin;refine Lib.wpList_append_run _ rfl _ _ _ _ rfl _ _ rfl rfl _ _ (hrz _) ?_)
  go_ret
  exact⟨⟨_,rfl,HO.out⟩,(bR.drew).alloc nR _⟩
theorem Jh(g:Nat)(a1 a2:Option Addr)(c1 c2:Nat)(l1 l2:List Cel)(w:World)(n1:0<l1.length)(n2:0<l2.length)(m1:l1.length<=400)(m2:l2.length<=400)(h1:vl.rowAt w a1 l1)(h2:vl.rowAt w a2 l2)
 (e1:w.cell? ⟨g,0,none⟩=some (.slice a1 l1.length c1)) (e2:w.cell? ⟨g,1,none⟩=some (.slice a2 l2.length c2)):
 Calls Tryz.prog 274 #[.slice (some ⟨g,0,none⟩) 2 2] w fun e w'=>(∃ad cap,e= .returned (.slice ad (l1++l2).length cap)/\AA w' w.heap.size (.slice ad (l1++l2).length cap) (l1++l2))/\Bwz w w':=by
 obtain⟨i0,hi,hz0,hz1,hz2⟩:=info_parts Tryz.infoV
 have HI:Hid (Tryz.prog.info? 103=some i0/\i0.zero=some (.agg #[.int .i64 0,.int .i64 0,.string ⟨#[]⟩])/\i0.size=3/\i0.bytes=32):=⟨hi,hz0,hz1,hz2⟩
 clear hi hz0 hz1 hz2
 obtain⟨b1,o1,rfl,_⟩:=h1 0 n1
 obtain⟨b2,o2,rfl,_⟩:=h2 0 n2
 have HC1:Hid (∀w',Bwz w w'->∀j u,(celCells l1)[j]? =some u->w'.cell? ((⟨b1,o1,none⟩:Addr).add j)=some u):=fun w' hb=>ch.DX (Ac h1 hb)
 have HC2:Hid (∀w',Bwz w w'->∀j u,(celCells l2)[j]? =some u->w'.cell? ((⟨b2,o2,none⟩:Addr).add j)=some u):=fun w' hb=>ch.DX (Ac h2 hb)
 have hp1:Hid ((celCells l1).length=l1.length * 3):=CQ l1
 have hp2:Hid ((celCells l2).length=l2.length * 3):=CQ l2
 clear h1 h2
 obtain⟨k1,hk1⟩:∃n,l1.length=n:=⟨_,rfl⟩
 obtain⟨k2,hk2⟩:∃n,l2.length=n:=⟨_,rfl⟩
 have HK1:Hid (l1.length=k1):=hk1
 have HK2:Hid (l2.length=k2):=hk2
 rw[hk1]at n1 m1 e1 hp1
 rw[hk2]at n2 m2 e2 hp2
 rw[lAp,hk1,hk2]
 clear hk1 hk2
 have HG:Hid (∀w1,CTz 277 #[.slice none 0 0,.int .i64 ((k1:Int)+k2)] w1 fun e w'=>(∃v,e= .returned v/\AA w' w1.heap.size v [])/\Bwz w1 w'):=fun w1=>by
  have h:=S6 (k1+k2) w1 (by omega)
  rwa[Int.natCast_add]at h
 go_enter func274,ntmps274
 go_wp2
 go_loop [3,11] (fun s i=>(i= .int .i64 0/\s= .int .i64 0)\/(i= .int .i64 1/\s= .int .i64 k1)\/(i= .int .i64 2/\s= .int .i64 ((k1:Int)+k2))) (fun _ i=>2 - (intOf i).toNat)
 case atStart=>exact .inl ⟨rfl,rfl⟩
 case round=>
  rcases hrel with⟨rfl,rfl⟩|⟨rfl,rfl⟩|⟨rfl,rfl⟩
  ·go_wp2
   go_round
   case rel=>exact .inr (.inl ⟨rfl,rfl⟩)
   case measure=>simp[intOf]
  ·go_wp2
   go_round
   case rel=>exact .inr (.inr ⟨rfl,rfl⟩)
   case measure=>simp[intOf]
  ·go_wp2_with fail
   refine(HG.out _).mono ?_
   rintro e w1 ⟨⟨v,rfl,hown⟩,hb1⟩
   have f1:=cLz hb1 e1
   have f2:=cLz hb1 e2
   have HO:Hid (AA w1 w.heap.size v []):=hown
   clear hown
   go_wp2
   go_loopw [6,27] (fun x i wr=> ∃l:List Cel,((i= .int .i64 0/\l=[])\/(i= .int .i64 1/\l=l1)\/(i= .int .i64 2/\l=l1++l2))/\AA wr w.heap.size x l/\Bwz w wr) (fun _ i _=>2 - (intOf i).toNat)
   case atStart=>exact⟨[],.inl ⟨rfl,rfl⟩,HO.out,hb1⟩
   case round=>
    obtain⟨l,hl,hol,hbl⟩:=hrel
    have g1:=cLz hbl e1
    have g2:=cLz hbl e2
    have HOL:Hid (AA wr w.heap.size u6 l):=hol
    have hsz:=hbl.size
    clear hol f1 f2 hb1 HO
    have hl':(u27= .int .i64 0/\[]=l)\/(u27= .int .i64 1/\l1=l)\/(u27= .int .i64 2/\l1++l2=l):=by
     rcases hl with⟨h1,h2⟩|⟨h1,h2⟩|⟨h1,h2⟩
     ·exact .inl ⟨h1,h2.symm⟩
     ·exact .inr (.inl ⟨h1,h2.symm⟩)
     ·exact .inr (.inr ⟨h1,h2.symm⟩)
    clear hl
    rcases hl' with⟨rfl,rfl⟩|⟨rfl,rfl⟩|⟨rfl,rfl⟩
    ·go_wp2_with (at_builtin;refine wpList_append_own _ rfl (.tmp 31) (.tmp 32) 41 rfl w.heap.size 103 i0 (.agg #[.int .i64 0,.int .i64 0,.string ⟨#[]⟩]) 3 32 underlying41 HI.out.1 HI.out.2.1 HI.out.2.2.1 HI.out.2.2.2 rfl (by decide) _ _ _ rfl HOL.out ⟨b1,o1,none⟩ k1 c1 (celCells l1) rfl (by rw[hp1.out]) (HC1.out _ hbl) (ch.DA l1) (by unfold maxLen;(simp only[List.length_nil];omega)) (by(simp only[List.length_nil];omega)) hsz ?_;intro v2 w3 hown3 hgrow3 hnil3)
     have HN:Hid (AA w3 w.heap.size v2 (l1)):=by
      show w3.ownsRow _ _ _ _ (l1).length (celCells l1)
      simpa[HK1.out,celCells]using hown3
     obtain⟨ad,cp,hv,hg⟩:=BU hown3
     subst hv
     go_roundw
     case rel=>exact⟨l1,.inr (.inl ⟨rfl,rfl⟩),HN.out,hbl.grown hgrow3 hsz (fun b hb=>(World.ownsRow.lt HOL.out b hb).1)⟩
     case measure=>simp[intOf]
    ·go_wp2_with (at_builtin;refine wpList_append_own _ rfl (.tmp 31) (.tmp 32) 41 rfl w.heap.size 103 i0 (.agg #[.int .i64 0,.int .i64 0,.string ⟨#[]⟩]) 3 32 underlying41 HI.out.1 HI.out.2.1 HI.out.2.2.1 HI.out.2.2.2 rfl (by decide) _ _ _ rfl HOL.out ⟨b2,o2,none⟩ k2 c2 (celCells l2) rfl (by rw[hp2.out]) (HC2.out _ hbl) (ch.DA l2) (by unfold maxLen;(rw[HK1.out];omega)) (by(rw[HK1.out];omega)) hsz ?_;intro v2 w3 hown3 hgrow3 hnil3)
     have HN:Hid (AA w3 w.heap.size v2 (l1++l2)):=by
      show w3.ownsRow _ _ _ _ (l1++l2).length (celCells (l1++l2))
      rw[lAp,MX,HK2.out];exact hown3
     obtain⟨ad,cp,hv,hg⟩:=BU hown3
     subst hv
     go_roundw
     case rel=>exact⟨l1++l2,.inr (.inr ⟨rfl,rfl⟩),HN.out,hbl.grown hgrow3 hsz (fun b hb=>(World.ownsRow.lt HOL.out b hb).1)⟩
     case measure=>simp[intOf]
    ·obtain⟨ad,cp,hv,hg⟩:=BU HOL.out
     have hll:(l1++l2).length=k1+k2:=by rw[lAp,HK1.out,HK2.out]
     rw[hll]at hv
     subst hv
     go_wp2
     go_ret
     exact⟨⟨ad,cp,rfl,HOL.out⟩,hbl⟩
end bt
namespace jn
open Go.ChangeShapes Go.WideShapes Go.ChangeAt Go.RowKit
open vl
attribute [local go_sem] Oper.semAt_some
theorem IG(m s:Int)(w:World):
 Calls Tryz.prog 268 #[.int .i64 m,.int .i64 s] w fun e w'=>e= .returned (.bool (Co m s))/\w'=w:=by
 unfold Co
 by_cases h2:m=2
 ·subst h2
  rw[if_pos rfl]
  go_enter func268,ntmps268
  go_wp2
  go_ret
  exact⟨rfl,rfl⟩
 ·rw[if_neg h2]
  have k2:(m==2)=false:=by simpa using h2
  clear h2
  by_cases h3:m=3
  ·subst h3
   rw[if_pos rfl]
   go_enter func268,ntmps268
   go_wp2
   go_ret
   exact⟨rfl,rfl⟩
  ·rw[if_neg h3]
   have k3:(m==3)=false:=by simpa using h3
   clear h3
   go_enter func268,ntmps268
   go_wp2
   go_ret
   exact⟨rfl,rfl⟩
theorem CL(side:Int)(a1 a2:Option Addr)(c1 c2:Nat)(l1 l2:List Cel)(w:World)(n1:0<l1.length)(n2:0<l2.length)(m1:l1.length<=400)(m2:l2.length<=400)(h1:vl.rowAt w a1 l1)(h2:vl.rowAt w a2 l2):
 Calls Tryz.prog 267 #[.int .i64 side,.slice a1 l1.length c1,.slice a2 l2.length c2] w fun e w'=>(∃ad cap,e= .returned (.slice ad (AW side l1 l2).length cap)/\AA w' w.heap.size (.slice ad (AW side l1 l2).length cap) (AW side l1 l2))/\Bwz w w':=by
 unfold AW
 by_cases h:side=2
 ·have KC:Hid (∀V,Bwz w V->V.cell? ⟨w.heap.size,0,none⟩=some (.slice a2 l2.length c2)->V.cell? ⟨w.heap.size,1,none⟩=some (.slice a1 l1.length c1)->CTz 274 #[.slice (some ⟨w.heap.size,0,none⟩) 2 2] V fun e w'=>(∃ad cap,e= .returned (.slice ad (l2++l1).length cap)/\AA w' V.heap.size (.slice ad (l2++l1).length cap) (l2++l1))/\Bwz V w'):=fun V hb e1 e2=>bt.Jh w.heap.size a2 a1 c2 c1 l2 l1 V n2 n1 m2 m1 (vl.Ac h2 hb) (vl.Ac h1 hb) e1 e2
  subst h
  rw[if_pos rfl]
  obtain⟨j1,k1⟩:=nM l1.length
  obtain⟨j2,k2⟩:=nM l2.length
  rw[k1,k2]at KC⊢
  obtain⟨q,hq⟩:=nM ((l2++l1).length)
  rw[hq]at KC⊢
  clear h1 h2
  go_enter func267,ntmps267
  go_wp2_with fail
  generalize hV:(World.alloc w _)=V
  have hb0:Bwz w V:=by rw[<-hV];exact bR.alloc nR _
  have hsz:w.heap.size<=V.heap.size:=hb0.size
  have q0:V.cell? ⟨w.heap.size,0,none⟩=some (.slice a2 j2 c2):=by subst hV;go_simp
  have q1:V.cell? ⟨w.heap.size,1,none⟩=some (.slice a1 j1 c1):=by subst hV;go_simp
  clear hV
  refine(KC.out V hb0 q0 q1).mono ?_
  rintro e w1 ⟨⟨ad,cap,rfl,ho⟩,hb1⟩
  go_wp2
  go_ret
  exact⟨⟨ad,cap,rfl,World.ownsRow.mono ho hsz⟩,hb0.trans (hb1.mono hb0.size)⟩
 ·have KC:Hid (∀V,Bwz w V->V.cell? ⟨w.heap.size,0,none⟩=some (.slice a1 l1.length c1)->V.cell? ⟨w.heap.size,1,none⟩=some (.slice a2 l2.length c2)->CTz 274 #[.slice (some ⟨w.heap.size,0,none⟩) 2 2] V fun e w'=>(∃ad cap,e= .returned (.slice ad (l1++l2).length cap)/\AA w' V.heap.size (.slice ad (l1++l2).length cap) (l1++l2))/\Bwz V w'):=fun V hb e1 e2=>bt.Jh w.heap.size a1 a2 c1 c2 l1 l2 V n1 n2 m1 m2 (vl.Ac h1 hb) (vl.Ac h2 hb) e1 e2
  have h':(side==2)=false:=by simpa using h
  rw[if_neg h]
  obtain⟨j1,k1⟩:=nM l1.length
  obtain⟨j2,k2⟩:=nM l2.length
  rw[k1,k2]at KC⊢
  obtain⟨q,hq⟩:=nM ((l1++l2).length)
  rw[hq]at KC⊢
  clear h1 h2
  go_enter func267,ntmps267
  go_wp2_with fail
  generalize hV:(World.alloc w _)=V
  have hb0:Bwz w V:=by rw[<-hV];exact bR.alloc nR _
  have hsz:w.heap.size<=V.heap.size:=hb0.size
  have q0:V.cell? ⟨w.heap.size,0,none⟩=some (.slice a1 j1 c1):=by subst hV;go_simp
  have q1:V.cell? ⟨w.heap.size,1,none⟩=some (.slice a2 j2 c2):=by subst hV;go_simp
  clear hV
  refine(KC.out V hb0 q0 q1).mono ?_
  rintro e w1 ⟨⟨ad,cap,rfl,ho⟩,hb1⟩
  go_wp2
  go_ret
  exact⟨⟨ad,cap,rfl,World.ownsRow.mono ho hsz⟩,hb0.trans (hb1.mono hb0.size)⟩
end jn
namespace bf
open Go.ChangeShapes Go.WideShapes Go.ChangeAt Go.RowKit
open vl
variable {t : TypeId} {X Y : World} {k : Nat}
def notE:Nat->Obj->Prop:=fun _ o=> ∀c f,o≠ .cells c 63 f
theorem PX{W:World}{b:Nat}(h:Ar W b t)(ht:t≠63):names notE W b:=fun o ho c f e=>by
 obtain⟨c',f',h'⟩:=h
 rw[ho]at h'
 rw[e]at h'
 injection h' with e1
 injection e1 with _ e2 _
 exact ht e2.symm
theorem OP.same{w w':World}{base:Nat}{hs:List Hdr}{ess:List (List EM)}{ls:List (List Ent)}(h:OP w base hs ess ls)(hz:w.heap.size<=w'.heap.size)(hb:∀g,Ar w g 63\/Ar w g 103->w'.heap[g]? =w.heap[g]?):OP w' base hs ess ls:=
 ⟨Nat.le_trans h.low hz,h.l1,h.l2,fun k hk=>(h.oe k hk).other hz hb,h.two⟩
theorem ty_row{row:Option Nat}(hg:X.grownBy Y row)(hr:∀r,row=some r->∃x:Obj,X.heap[r]? =some x/\x.isCells=false){g:Nat}(h:Ar X g t):Y.heap[g]? =X.heap[g]? :=
 hg.block g (AY h) (fun e=>by
  obtain⟨x,h1,h2⟩:=hr g e.symm
  obtain⟨c,f,h3⟩:=h
  rw[h3]at h1;cases h1;cases h2)
theorem Bl{α:Type}{l:List α}{d:α}(h:k<l.length):l.drop k=l.getD k d::l.drop (k+1):=by
 rw[List.drop_eq_getElem_cons h,gDe,gEe h];rfl
theorem set_mid{α β:Type}(f:α->β)(A:List α)(k:Nat)(x y:β)(B:List β)(h:k<=A.length):((A.take k).map f++x::B).set k y=(A.take k).map f++y::B:=by
 have hl:((A.take k).map f).length=k:=by rw[lMp,List.length_take];omega
 rw[List.set_append_right _ _ (by omega),hl,Nat.sub_self];rfl
theorem Oe{α β:Type}(f:α->β)(l:List α)(k:Nat)(d:α)(h:k<l.length):(l.take (k+1)).map f=(l.take k).map f++[f (l.getD k d)]:=by
 rw[List.take_succ_eq_append_getElem h,List.map_append,gDe,gEe h];rfl
theorem set_self{α:Type}{l:List α}{d:α}(h:k<l.length):l.set k (l.getD k d)=l:=by
 rw[gDe,gEe h]
 exact List.set_getElem_self _
theorem Kg{Pr:Nat->Obj->Prop}(hb:Bwz X Y):Ao Pr X Y:=fun b o h1 _ _=>(hb.block b (Array.getElem?_eq_some_iff.1 h1).1).trans h1
end bf
namespace jn
open Go.ChangeShapes Go.WideShapes Go.ChangeAt Go.RowKit
open vl bf
variable {w w' w0 : World} {b base : Nat} {x : pl.PA} {L : List CO} {T : TypeId} {p : pl.Pln} {s : Jn} {y : JX} {t : Value}
structure calmC(T:TypeId):Prop where
 t:calmT T
 c:T≠55
theorem OB.other{x:BX}{b:Buf}(h:OB w base x b)(hs:w.heap.size<=w'.heap.size)(hb:∀g,Ar w g 63\/Ar w g 103->w'.heap[g]? =w.heap[g]?)(hh:∀g,Ar w g 26->w'.heap[g]? =w.heap[g]?):OB w' base x b:=
 ⟨Nat.le_trans h.low hs,h.mem.other hs hb,A0 h.hds (fun g hg=>hh g (A8 h.hds hg)),h.rlen,fun i hi=>(h.runs i hi).other hs hb,h.two⟩
theorem CG.other{v:Value}(h:CG w base v L)(hs:w.heap.size<=w'.heap.size)(hb:∀g,Ar w g 55\/Ar w g 103->w'.heap[g]? =w.heap[g]?):CG w' base v L:=by
 have hE:bt.Est w base ((⟨v,55,2,L.length,ch.Bh (L.map CO.pair)⟩:bt.Own1)::L.map fun x=>Cu x.rv x.row):=h
 refine bt.Est.mk (Nat.le_trans (bt.Est.low hE) hs) (fun z hz=>?_) (bt.Est.two hE)
 have ho:=bt.Est.own hE z hz
 refine A0 ho (fun g hg=>hb g ?_)
 rcases List.mem_cons.1 hz with rfl|hz
 ·exact .inl (A8 ho hg)
 ·obtain⟨c,_,rfl⟩:=List.mem_map.1 hz
  exact .inr (A8 ho hg)
structure JSt(w0 w:World)(b:Nat)(T:TypeId)(p:pl.Pln)(x:pl.PA)(s:Jn)(y:JX)(t:Value)(L:List CO):Prop where
 box:boxC w b p x s y t
 ty:Ar w b T
 up:w0.heap.size<=b
 l:OB w w0.heap.size y.l s.L
 r:OB w w0.heap.size y.r s.R
 ap:UO y.l y.r
 cg:CG w w0.heap.size t L
 bl:Bwz w0 w
theorem JSt.below(h:JSt w0 w b T p x s y t L)(hb:Bwz w w'):JSt w0 w' b T p x s y t L:=
 ⟨h.box.later hb,Ah h.ty hb,h.up,h.l.below hb,h.r.below hb,h.ap,h.cg.below hb,h.bl.trans (hb.mono h.bl.size)⟩
theorem Rw{e:TypeId}(ho:OY w w' b t)(hT:Ar w b T)(hc:CG w base t L)(h1:T≠e)(h2:e≠55){g:Nat}(hg:Ar w g e):w'.heap[g]? =w.heap[g]? :=
 ho.2.1 g (AY hg) (tyAt_apart hg hT h1.symm) (fun k=>tyAt_apart hg (A8 hc.own k) h2 rfl)
theorem JSt.told{t':Value}{L':List CO}(h:JSt w0 w b T p x s y t L)(hT:calmC T)(hb:boxC w' b p x s y t')(hc:CG w' w0.heap.size t' L')(ho:OY w w' b t):JSt w0 w' b T p x s y t' L':=by
 have hty:∀e,T≠e->e≠55->∀g,Ar w g e->w'.heap[g]? =w.heap[g]? :=fun e h1 h2 g hg=>Rw ho h.ty h.cg h1 h2 hg
 have hE:=hty _ hT.t.e (by decide)
 have hV:=hty _ hT.t.v (by decide)
 have hH:=hty _ hT.t.h (by decide)
 have hbt:Ar w' b T:=ho.2.2 T h.ty
 exact⟨hb,hbt,h.up,OB.other h.l ho.1.size (fun g hg=>hg.elim (hE g) (hV g)) (hH),OB.other h.r ho.1.size (fun g hg=>hg.elim (hE g) (hV g)) hH,h.ap,hc,⟨ho.1.os.trans h.bl.os,ho.1.tape.trans h.bl.tape,ho.1.output.trans h.bl.output,Nat.le_trans h.bl.size ho.1.size,fun k hk=>(ho.2.1 k (Nat.lt_of_lt_of_le hk h.bl.size) (by have:=h.up;omega) (fun e=>by have:=(AD h.cg.own e).1;omega)).trans (h.bl.block k hk)⟩⟩
end jn
namespace jn
open Go.ChangeShapes Go.WideShapes Go.ChangeAt Go.RowKit Go.Maps Go.WideMaps
open vl bf
variable {w w' : World} {M nn : Nat} {l : List Int} {s : Int}
theorem Y0:Keyed Tryz.prog 3:=int_keyed underlying3
def Dt(w:World)(M nn:Nat)(l:List Int):Prop:=∃D:DataW Unit,w.ownsMap Tryz.prog 3 (plainElem (H:=Unit) Tryz.prog 3) M nn D/\∀s,pl.i64 s->D.atKey (.int .i64 s) (.lit (.int .i64 0))= .lit (.int .i64 (l.count s:Nat))
theorem Of(w:World):Dt (w.alloc (.map #[] 0)) w.heap.size 0 []:=⟨_,World.ownsMap_made _ _ _ _,fun s hs=>by simp;rfl⟩
theorem Rx(h:Dt w M nn l):M<w.heap.size:=by
 obtain⟨D,h1,_⟩:=h
 exact h1.lt
theorem IH{row:Option Nat}(h:Dt w M nn l)(hg:w.grownBy w' row)(hne:some M≠row):Dt w' M nn l:=by
 obtain⟨D,h1,h2⟩:=h
 exact⟨D,h1.kept hg hne,h2⟩
theorem Mt(h:Dt w M nn l)(hs:w'.heap[M]? =w.heap[M]?):Dt w' M nn l:=by
 obtain⟨D,⟨es,clock,hb,F,h3,e⟩,h2⟩:=h
 exact⟨D,⟨es,clock,hs.trans hb,F,h3,e⟩,h2⟩
theorem BO(h:Dt w M nn l)(hb:Bwz w w'):Dt w' M nn l:=Mt h (hb.block M (Rx h))
theorem wfi(hs:pl.i64 s):(Lit.int .i64 s).wf=true:=Lr hs
theorem DM(h:Dt w M nn l)(hs:pl.i64 s):(Instr.lookup 187 (.map (some M)) (.int .i64 s) false).run Tryz.prog w= .ok (.int .i64 (l.count s:Nat)) w:=by
 obtain⟨D,h1,h2⟩:=h
 obtain⟨c,hrun,hat,_⟩:=h1.lookup_int Y0 underlying187 underlying3 (Tryz.zeroValue3 w) (keyOf_int_mk underlying3 (wfi hs))
 have hat2:=(h2 s hs).symm.trans hat
 have e:∀a b:Int,(DataW.lit (Lit.int .i64 a):DataW Unit)= .lit (.int .i64 b)->a=b:=fun a b h=>(Lit.int.inj (DataW.lit.inj h)).2
 rw[hrun,e _ _ hat2]
theorem Kh(h:Dt w M nn l)(hs:pl.i64 s)(hn:nn<maxLen)(hl:l.length<9223372036854775807):
 ∃w',(Instr.mapUpdate 187 (.map (some M)) (.int .i64 s) (.int .i64 ((l.count s:Nat)+1))).run Tryz.prog w= .ok () w'/\Dt w' M (nn+1) (l++[s])/\w.grownBy w' (some M):=by
 obtain⟨D,h1,h2⟩:=h
 have hc:=List.count_le_length (a:=s) (l:=l)
 obtain⟨w',hrun,hown,hg⟩:=h1.update Y0 underlying187 hn (keyOf_int_mk underlying3 (wfi hs)) (plainElem_int (H:=Unit) (a:=(l.count s:Nat)+1) underlying3 (Lr ⟨by omega,by omega⟩))
 refine⟨w',hrun,⟨_,hown,fun t ht=>?_⟩,hg⟩
 by_cases e:t=s
 ·subst e
  rw[atKey_put_same h1.isMap (Y0.key (keyOf_int_mk underlying3 (wfi hs)))]
  simp[List.count_append]
 ·rw[atKey_put_other (fun k=>e (by injection k)),h2 t ht]
  have:s≠t:=fun k=>e k.symm
  simp[List.count_append,List.count_singleton,this]
theorem Hu(h:Dt w M nn l):∃o:Obj,w.heap[M]? =some o/\o.isCells=false:=by
 obtain⟨D,⟨es,clock,hb,_⟩,_⟩:=h
 exact⟨_,hb,rfl⟩
theorem Ki(l:List Int)(s:Int):(l++[s]).count s=l.count s+1:=by simp[List.count_append]
end jn
namespace bf
open Go.ChangeShapes Go.WideShapes Go.ChangeAt Go.RowKit
open vl
theorem WN{w:World}{base:Nat}{e:TypeId}{size n cap g:Nat}{xs:List Value}(h:w.ownsRow base e size (.slice (some ⟨g,0,none⟩) n cap) n xs)(j:Nat):w.frozen? ⟨g,j,none⟩=false:=by
 rcases h.2 with⟨e,_⟩|⟨g',cap',cur,hv,hr⟩
 ·cases e
 ·cases hv
  simp[World.frozen?,hr]
theorem U7{W:World}{b o:Nat}{v:Value}(h:W.cell? ⟨b,o,none⟩=some v):W.setCell ⟨b,o,none⟩ v=W:=by
 unfold World.cell? at h
 unfold World.setCell
 dsimp only at h⊢
 cases hb:W.heap[b]? with
 |none=>rw[hb]at h;cases h
 |some x=>
  rw[hb]at h
  cases x with
  |cells c t f=>
   simp only[Option.isSome_none,Bool.false_eq_true,if_false]at h
   have hh:W.heap.modify b (fun x=>match x with
    | .cells c elem frozen=>.cells (if (none:Option Nat).isSome then c else c.setIfInBounds o v) elem frozen
    |o=>o)=W.heap:=by
    refine Array.ext (by simp) (fun i h1 h2=>?_)
    rw[Array.getElem_modify]
    by_cases e:b=i
    ·subst e
     have hx:W.heap[b]= .cells c t f:=by
      have:=Array.getElem?_eq_getElem h2
      rw[hb]at this
      injection this with this
      exact this.symm
     rw[if_pos rfl,hx]
     dsimp only
     have hc:c.setIfInBounds o v=c:=by
      obtain⟨ho,hv⟩:=Array.getElem?_eq_some_iff.1 h
      refine Array.ext (by simp) (fun j k1 k2=>?_)
      rw[Array.getElem_setIfInBounds k2]
      by_cases e2:o=j
      ·subst e2;simp[hv]
      ·simp[e2]
     simp[hc]
    ·rw[if_neg e]
   exact congrArg (fun z:Array Obj=>{W with heap:=z}) hh
  |_=>cases h
end bf
namespace jn
open Go.ChangeShapes Go.WideShapes Go.ChangeAt Go.RowKit
open vl bf
variable {l : List Ent} {b base g i j k : Nat} {ls : List (List Ent)} {t : Value} {hs : List Hdr} {V X Y w w0 : World} {x : BX} {p : pl.Pln} {s : Jn} {y : JX} {T : TypeId} {L : List CO}
def doneL(f:Ent->Ent)(l:List Ent)(k:Nat):List Ent:=(l.take k).map f++l.drop k
def Ck(f:Ent->Ent)(ls:List (List Ent))(k:Nat):List (List Ent):=(ls.take k).map (fun l=>l.map f)++ls.drop k
def doneD(f:Ent->Ent)(ls:List (List Ent))(i j:Nat):List (List Ent):=(Ck f ls i).set i (doneL f (ls.getD i []) j)
theorem II(f:Ent->Ent)(l:List Ent)(k:Nat):(doneL f l k).length=l.length:=by
 unfold doneL
 rw[lAp,lMp,List.length_take,List.length_drop]
 omega
theorem Kj(f:Ent->Ent)(l:List (List Ent))(k:Nat):(Ck f l k).length=l.length:=by
 unfold Ck
 rw[lAp,lMp,List.length_take,List.length_drop]
 omega
theorem Kk{f:Ent->Ent}(h:k<l.length):(doneL f l k).getD k default=l.getD k default:=by
 unfold doneL
 rw[Bl (d:=default) h,gDe,List.getElem?_append_right (by rw[lMp,List.length_take];omega),lMp,List.length_take,show k - min k l.length=0 by omega]
 rfl
theorem Mu{f:Ent->Ent}{l:List (List Ent)}(h:k<l.length):(Ck f l k).getD k []=l.getD k []:=by
 unfold Ck
 rw[Bl (d:=[]) h,gDe,List.getElem?_append_right (by rw[lMp,List.length_take];omega),lMp,List.length_take,show k - min k l.length=0 by omega]
 rfl
theorem PY{f:Ent->Ent}(h:k<l.length):(doneL f l k).set k (f (l.getD k default))=doneL f l (k+1):=by
 unfold doneL
 rw[Bl (d:=default) h,set_mid f l k _ _ _ (by omega),Oe f l k default h,List.append_assoc]
 rfl
theorem PZ(f:Ent->Ent)(l:List Ent):doneL f l 0=l:=by unfold doneL;rfl
theorem S7(f:Ent->Ent)(l:List Ent):doneL f l l.length=l.map f:=by unfold doneL;rw[List.take_length,List.drop_length,List.append_nil]
theorem Og{f:Ent->Ent}{l:List (List Ent)}(h:k<l.length):(Ck f l k).set k ((l.getD k []).map f)=Ck f l (k+1):=by
 unfold Ck
 rw[Bl (d:=[]) h,set_mid (fun l=>l.map f) l k _ _ _ (by omega),Oe (fun l=>l.map f) l k [] h,List.append_assoc]
 rfl
theorem Oh(f:Ent->Ent)(l:List (List Ent)):Ck f l 0=l:=by unfold Ck;rfl
theorem Qa(qs:List Int)(b:Buf):Ck (metE qs) (partsB b) (partsB b).length=partsB (Cp qs b):=by
 unfold Ck
 rw[List.take_length,List.drop_length,List.append_nil]
 rfl
theorem Kl{f:Ent->Ent}(h:i<ls.length):(doneD f ls i j).getD i []=doneL f (ls.getD i []) j:=CV (by rw[Kj];exact h)
theorem Qb{f:Ent->Ent}(h:i<ls.length):doneD f ls i 0=Ck f ls i:=by
 unfold doneD
 rw[PZ,<-Mu (f:=f) h]
 exact set_self (by rw[Kj];exact h)
theorem S8{f:Ent->Ent}(h:i<ls.length):doneD f ls i (ls.getD i []).length=Ck f ls (i+1):=by
 unfold doneD
 rw[S7,Og h]
def Oi(hs:List Hdr):Nat->Obj->Prop:=fun g o=>(∀c f,o≠ .cells c 63 f)\/∀h∈hs,(hdV h).ownBlock≠some g
theorem Fr{W:World}{t:TypeId}(h:Ar W b t)(ht:t≠63):names (Oi hs) W b:=fun o ho=>.inl (PX h ht o ho)
structure NSt(w0 V X:World)(base:Nat)(hs:List Hdr)(ls:List (List Ent)):Prop where
 op:∃ess,OP X base hs ess ls
 ko:Ao (Oi hs) V X
 bl:Bwz w0 X
theorem NSt.row{row:Option Nat}{B:Nat}(h:NSt w0 V X base hs ls)(hB:w0.heap.size<=B)(hg:X.grownBy Y row)(hr:∀r,row=some r->B<=r/\∃x:Obj,X.heap[r]? =some x/\x.isCells=false):NSt w0 V Y base hs ls:=by
 obtain⟨ess,ho⟩:=h.op
 exact⟨⟨ess,ho.same hg.size (fun g hg'=>by rcases hg' with k|k;exact ty_row hg (fun r e=>(hr r e).2) k;exact ty_row hg (fun r e=>(hr r e).2) k)⟩,h.ko.grown hg (fun r e=>(hr r e).2),Cx h.bl nR hB hg hr⟩
theorem NSt.below(h:NSt w0 V X base hs ls)(hb:Bwz X Y):NSt w0 V Y base hs ls:=by
 obtain⟨ess,ho⟩:=h.op
 exact⟨⟨ess,ho.below hb⟩,h.ko.trans (Kg hb),h.bl.trans (hb.mono h.bl.size)⟩
theorem NSt.rec_put{D:Nat}{q:Obj}(h:NSt w0 V X base hs ls)(hD:X.heap[D]? =some q)(hq:q.isCells=false)(hl:w0.heap.size<=D)(o:Obj):NSt w0 V (X.putObj D o) base hs ls:=by
 obtain⟨ess,ho⟩:=h.op
 have hk:∀g t,Ar X g t->(X.putObj D o).heap[g]? =X.heap[g]? :=fun g t hg=>World.putObj_heap_other (fun e=>by
  obtain⟨c,f,k⟩:=hg
  rw[e,hD]at k
  injection k with k
  rw[k]at hq
  cases hq)
 exact⟨⟨ess,ho.same (by simp) (fun g hg=>hg.elim (hk g _) (hk g _))⟩,h.ko.trans (Ao.put X D q o hD hq),Ci h.bl hl hD o⟩
theorem NSt.read{f:Ent->Ent}(h:NSt w0 V X base hs (doneD f ls i j))(hi:i<hs.length)(hl:ls.length=hs.length)(hj:j<(ls.getD i []).length):
 ∃(g:Nat) (e:EM),hs.getD i hd0=(some ⟨g,0,none⟩,(ls.getD i []).length,(hs.getD i hd0).2.2)/\X.cell? ⟨g,j * 5+2,none⟩=some (.int .i64 e.seq)/\X.cell? ⟨g,j * 5+4,none⟩=some (.bool e.met)/\X.frozen? ⟨g,j * 5+4,none⟩=false/\((ls.getD i []).getD j default).seq=e.seq/\((ls.getD i []).getD j default).met=e.met:=by
 obtain⟨ess,ho⟩:=h.op
 have hok:=ho.oe i hi
 rw[Kl (by omega)]at hok
 have hlen:(doneL f (ls.getD i []) j).length=(ls.getD i []).length:=II _ _ _
 obtain⟨g,hh⟩:=Ka hok (by omega)
 have hel:(ess.getD i []).length=(ls.getD i []).length:=by rw[hok.len,hlen]
 rw[hel]at hh
 have hv:hdV (hs.getD i hd0)= .slice (some ⟨g,0,none⟩) (ess.getD i []).length (hs.getD i hd0).2.2:=by rw[hh,hel];rfl
 rw[hv]at hok
 obtain⟨b,o,ea,x1,x2,x3,x4,x5⟩:=hok.at j (by omega)
 cases ea
 have her:=hok.ers.2 j (by omega)
 rw[Kk hj]at her
 rw[Nat.zero_add]at x1 x2 x3 x4 x5
 exact⟨g,(ess.getD i []).getD j default,hh,x3,x5,WN hok.own _,her.seq.symm,her.met.symm⟩
theorem NSt.put{qs:List Int}{v:Bool}(h:NSt w0 V X base hs (doneD (metE qs) ls i j))(hw:w0.heap.size<=base)(hi:i<hs.length)(hl:ls.length=hs.length)(hj:j<(ls.getD i []).length)(hg:(hs.getD i hd0).1=some ⟨g,0,none⟩)
 (hc:X.cell? ⟨g,j * 5+4,none⟩=some (.bool ((ls.getD i []).getD j default).met)) (hm:v=(((ls.getD i []).getD j default).met||decide (((ls.getD i []).getD j default).seq∈qs))):
 NSt w0 V (X.setCell ⟨g,j * 5+4,none⟩ (.bool v)) base hs (doneD (metE qs) ls i (j+1))/\Ao (Oi hs) X (X.setCell ⟨g,j * 5+4,none⟩ (.bool v)):=by
 have hil:i<ls.length:=by omega
 have e1:(doneD (metE qs) ls i j).set i (doneL (metE qs) (ls.getD i []) (j+1))=doneD (metE qs) ls i (j+1):=by unfold doneD;rw[List.set_set]
 have e2:=PY (f:=metE qs) hj
 by_cases hp:((ls.getD i []).getD j default).seq∈qs
 ·have ev:v=true:=by rw[hm,decide_eq_true hp,Bool.or_true]
  rw[ev]
  have ef:metE qs ((ls.getD i []).getD j default)=((ls.getD i []).getD j default).meet:=by unfold metE;rw[if_pos hp];rfl
  obtain⟨ess,ho⟩:=h.op
  have hdl:j<((doneD (metE qs) ls i j).getD i []).length:=by rw[Kl hil,II];exact hj
  have hok:=ho.oe i hi
  have hob:(hdV (hs.getD i hd0)).ownBlock=some g:=by
   obtain⟨g',hh⟩:=Ka hok (by omega)
   rw[hh]at hg
   cases hg
   rw[hh];rfl
  have hge:=(AD hok.own hob).1
  have hko:Ao (Oi hs) X (X.setCell ⟨g,j * 5+4,none⟩ (.bool true)):=fun b o h1 h2 h3=>by
   refine(heap_setCell_other _ _ _ _ (fun e=>?_)).trans h1
   dsimp only at e
   subst e
   rcases h3 with h3|h3
   ·obtain⟨c,f,h4⟩:=A8 hok.own hob
    rw[h1]at h4
    injection h4 with h4
    exact h3 c f h4
   ·exact h3 _ (A1 hi) hob
  have hop:=Yw ho hi hdl hg
  rw[Kl hil,Kk hj,<-ef,e2,e1]at hop
  exact⟨⟨⟨_,hop⟩,h.ko.trans hko,h.bl.setCell (by dsimp only;omega) _⟩,hko⟩
 ·have ev:v=((ls.getD i []).getD j default).met:=by rw[hm,decide_eq_false hp,Bool.or_false]
  rw[ev,U7 hc]
  have ef:metE qs ((ls.getD i []).getD j default)=(ls.getD i []).getD j default:=by unfold metE;rw[if_neg hp]
  have e3:doneL (metE qs) (ls.getD i []) (j+1)=doneL (metE qs) (ls.getD i []) j:=by
   rw[<-e2,ef,<-Kk (f:=metE qs) hj]
   exact set_self (by rw[II];exact hj)
  have e4:doneD (metE qs) ls i (j+1)=doneD (metE qs) ls i j:=by unfold doneD;rw[e3]
  rw[e4]
  exact⟨h,Ao.refl _ _⟩
theorem NSt.hlen{f:Ent->Ent}(h:NSt w0 V X base hs (Ck f ls i))(hi:i<hs.length)(hl:ls.length=hs.length):(hs.getD i hd0).2.1=(ls.getD i []).length:=by
 obtain⟨ess,ho⟩:=h.op
 have hok:=ho.oe i hi
 rw[Mu (by omega)]at hok
 obtain⟨ad,cp,e⟩:=hok.form
 unfold hdV at e
 injection e with _ e2 _
 rw[e2,hok.len]
theorem S9{b:Buf}{f:Ent->Ent}(h:OB V base x b)(hb:Bwz w0 V):NSt w0 V V base ((x.m::x.rs).map (·.1)) (Ck f (partsB b) 0):=
 ⟨⟨_,by rw[Oh];exact YY h⟩,Ao.refl _ _,hb⟩
theorem Ry{b':Buf}{ess:List (List EM)}(ho:OP X base ((x.m::x.rs).map (·.1)) ess (partsB b'))(hds:X.ownsRow base 26 1 (.slice x.ra x.rs.length x.rc) x.rs.length (x.rs.map fun p=>hdV p.1)):∃x':BX,x'.ra=x.ra/\x'.rc=x.rc/\x'.m.1=x.m.1/\x'.rs.map (·.1)=x.rs.map (·.1)/\OB X base x' b':=by
 have hl1:ess.length=x.rs.length+1:=by rw[ho.l1];simp
 have hz:(x.rs.map (·.1)).length=ess.tail.length:=by rw[lMp,List.length_tail,hl1];rfl
 have hzl:((x.rs.map (·.1)).zip ess.tail).length=x.rs.length:=by rw[List.length_zip,<-hz,lMp,Nat.min_self]
 have h1:((x.rs.map (·.1)).zip ess.tail).map (·.1)=x.rs.map (·.1):=List.map_fst_zip (by omega)
 have hl2:b'.runs.length=x.rs.length:=by have:=ho.l2;simp[partsB]at this;exact this
 have e1:((x.rs.map (·.1)).zip ess.tail).map (fun p=>hdV p.1)=x.rs.map fun p=>hdV p.1:=by
  have:((x.rs.map (·.1)).zip ess.tail).map (fun p=>hdV p.1)=(((x.rs.map (·.1)).zip ess.tail).map (·.1)).map hdV:=by rw[List.map_map];rfl
  rw[this,h1,List.map_map];rfl
 refine⟨⟨x.ra,x.rc,(x.m.1,ess.getD 0 []),(x.rs.map (·.1)).zip ess.tail⟩,rfl,rfl,rfl,h1,?_⟩
 refine⟨ho.low,ho.oe 0 (by simp),?_,?_,fun i hi=>?_,?_⟩
 ·dsimp only
  rw[hzl,e1];exact hds
 ·dsimp only
  rw[hzl,hl2]
 ·dsimp only
  have hi':i<x.rs.length:=by omega
  have hr:=ho.oe (i+1) (by simp;omega)
  have g1:((x.m::x.rs).map (·.1)).getD (i+1) hd0=(((x.rs.map (·.1)).zip ess.tail).getD i default).1:=by
   rw[List.map_cons,List.getD_cons_succ,gDe,gDe,gEe (by rw[lMp];exact hi'),gEe (by rw[hzl];exact hi')]
   simp
  have g2:ess.getD (i+1) []=(((x.rs.map (·.1)).zip ess.tail).getD i default).2:=by
   rw[gDe,gDe,gEe (by omega),gEe (by rw[hzl];exact hi')]
   simp
  have g3:(partsB b').getD (i+1) []=b'.runs.getD i default:=by
   unfold partsB;rw[List.getD_cons_succ];rfl
  rw[g1,g2,g3]at hr
  exact hr
 ·dsimp only
  rw[List.map_cons,e1]
  have:=ho.two
  rw[List.map_map,List.map_cons]at this
  exact this
theorem Oj{x':BX}(h1:x'.m.1=x.m.1)(h2:x'.rs.map (·.1)=x.rs.map (·.1)){p:Part}(hp:p∈x'.m::x'.rs):∃q∈x.m::x.rs,q.1=p.1:=by
 rcases List.mem_cons.1 hp with rfl|hp
 ·exact⟨x.m,List.mem_cons_self ..,h1.symm⟩
 ·have:p.1∈x.rs.map (·.1):=by rw[<-h2];exact List.mem_map.2 ⟨p,hp,rfl⟩
  obtain⟨q,hq,e⟩:=List.mem_map.1 this
  exact⟨q,List.mem_cons_of_mem _ hq,e⟩
theorem Rz{x1:BX}{b:Buf}(h:OB V base x b)(hs:V.heap.size<=X.heap.size)(hko:Ao (Oi ((x1.m::x1.rs).map (·.1))) V X)(hap:∀p∈x.m::x.rs,∀q∈x1.m::x1.rs,apB (hdV p.1) (hdV q.1)):OB X base x b:=by
 have hty:∀g t,Ar V g t->t≠63->X.heap[g]? =V.heap[g]? :=fun g t hg ht=>by
  obtain⟨c,f,e⟩:=hg
  rw[e]
  exact hko g _ e rfl (.inl (fun c' f' e'=>by injection e' with _ e2 _;exact ht e2))
 have hoe:∀{p:Part} {l:List Ent},p∈x.m::x.rs->OE V base (hdV p.1) p.2 l->OE X base (hdV p.1) p.2 l:=fun {p l} hp ho=>ho.same hs (fun g cur t hg ht=>by
  rcases ht with⟨hv,rfl⟩|rfl
  ·rw[hg]
   refine hko g _ hg rfl (.inr (fun q hq e=>?_))
   obtain⟨z,hz,rfl⟩:=List.mem_map.1 hq
   exact hap p hp z hz g hv e
  ·exact hty g _ ⟨cur,_,hg⟩ (by decide))
 refine⟨Nat.le_trans h.low hs,hoe (List.mem_cons_self ..) h.mem,A0 h.hds (fun g hg=>hty g _ (A8 h.hds hg) (by decide)),h.rlen,fun i hi=>hoe (List.mem_cons_of_mem _ ?_) (h.runs i hi),h.two⟩
 exact A1 (by rw[h.rlen];exact hi)
theorem R6{U:World}{x:pl.PA}{s':Jn}{y':JX}(h:boxC U b p x s y t)(e1:s'.L.lim=s.L.lim)(e2:s'.R.lim=s.R.lim)(e3:s'.lm=s.lm)(e4:s'.rm=s.rm)(e5:s'.seq=s.seq)
 (l1:y'.l.m.1=y.l.m.1) (l2:y'.l.ra=y.l.ra) (l3:y'.l.rc=y.l.rc) (l4:y'.l.rs.length=y.l.rs.length) (r1:y'.r.m.1=y.r.m.1) (r2:y'.r.ra=y.r.ra) (r3:y'.r.rc=y.r.rc) (r4:y'.r.rs.length=y.r.rs.length):boxC U b p x s' y' t:=by
 refine⟨h.plan,?_,h.told,h.room⟩
 have:=h.join
 unfold jnC at *
 rw[e1,e2,e3,e4,e5,l1,l2,l3,l4,r1,r2,r3,r4]
 exact this
def Hv(w w':World):Prop:=Below 0 w w'/\∀g e,Ar w g e->e≠63->w'.heap[g]? =w.heap[g]?
theorem Hv.cell{e:TypeId}{w':World}{o:Nat}{v:Value}(h:Hv w w')(hg:Ar w g e)(h1:e≠63)(hc:w.cell? ⟨g,o,none⟩=some v):w'.cell? ⟨g,o,none⟩=some v:=(cOb (w:=w) (a:=⟨g,o,none⟩) (h.2 g e hg h1)).trans hc
theorem U8{x:pl.PA}(h:JSt w0 w b T p x s y t L)(hb:Bwz w V)(hn:NSt w0 V X base hs ls)(hz:V.heap.size<=X.heap.size):Hv w X:=by
 refine⟨⟨hn.bl.os.trans h.bl.os.symm,hn.bl.tape.trans h.bl.tape.symm,hn.bl.output.trans h.bl.output.symm,Nat.le_trans hb.size hz,fun k hk=>absurd hk (Nat.not_lt_zero k)⟩,fun g e hg he=>?_⟩
 have h1:=hb.block g (AY hg)
 obtain⟨c,f,k⟩:=hg
 rw[k]
 exact hn.ko g _ (h1.trans k) rfl (.inl (fun c' f' e'=>by injection e' with _ e2 _;exact he e2))
theorem JSt.met{x:pl.PA}(h:JSt w0 V b T p x s y t L)(hT:calmC T)(side:Int)(qs:List Int)(hn:NSt w0 V X w0.heap.size (((Bv y side).m::(Bv y side).rs).map (·.1)) (partsB (Cp qs (Am s side))))(hz:V.heap.size<=X.heap.size):
 ∃y',JSt w0 X b T p x (A3 s side (Cp qs (Am s side))) y' t L:=by
 have hko:=hn.ko
 have hty:∀g e,Ar V g e->e≠63->X.heap[g]? =V.heap[g]? :=fun g e hg he=>by
  obtain⟨c,f,k⟩:=hg
  rw[k]
  exact hko g _ k rfl (.inl (fun c' f' e'=>by injection e' with _ e2 _;exact he e2))
 obtain⟨ess,ho⟩:=hn.op
 have hbx:X.heap[b]? =V.heap[b]? :=hty b T h.ty hT.t.e
 have hbox:=Gs h.box hbx
 have hcg:=CG.other h.cg hz (fun g hg=>hg.elim (fun k=>hty g _ k (by decide)) (fun k=>hty g _ k (by decide)))
 by_cases e:side=2
 ·have eb:Bv y side=y.r:=by unfold Bv;rw[if_pos e]
  have es:Am s side=s.R:=by unfold Am;rw[if_pos e]
  rw[eb]at ho hko
  rw[es]at ho
  rw[es]
  obtain⟨x',a1,a2,a3,a4,a5⟩:=Ry ho (A0 h.r.hds (fun g hg=>hty g _ (A8 h.r.hds hg) (by decide)))
  have hl:x'.rs.length=y.r.rs.length:=by have:=congrArg List.length a4;simpa using this
  unfold A3
  rw[if_pos e]
  refine⟨⟨y.l,x'⟩,R6 hbox rfl rfl rfl rfl rfl rfl rfl rfl rfl a3 a1 a2 hl,AH h.ty hbx,h.up,Rz h.l hz hko (fun p hp q hq=>h.ap p hp q hq),a5,fun p hp q hq=>?_,hcg,hn.bl⟩
  obtain⟨q',hq',e'⟩:=Oj a3 a4 hq
  rw[<-e']
  exact h.ap p hp q' hq'
 ·have eb:Bv y side=y.l:=by unfold Bv;rw[if_neg e]
  have es:Am s side=s.L:=by unfold Am;rw[if_neg e]
  rw[eb]at ho hko
  rw[es]at ho
  rw[es]
  obtain⟨x',a1,a2,a3,a4,a5⟩:=Ry ho (A0 h.l.hds (fun g hg=>hty g _ (A8 h.l.hds hg) (by decide)))
  have hl:x'.rs.length=y.l.rs.length:=by have:=congrArg List.length a4;simpa using this
  unfold A3
  rw[if_neg e]
  refine⟨⟨x',y.r⟩,R6 hbox rfl rfl rfl rfl rfl a3 a1 a2 hl rfl rfl rfl rfl,AH h.ty hbx,h.up,a5,Rz h.r hz hko (fun p hp q hq=>JZ (h.ap q hq p hp)),fun p hp q hq=>?_,hcg,hn.bl⟩
  obtain⟨p',hp',e'⟩:=Oj a3 a4 hp
  rw[<-e']
  exact h.ap p' hp' q hq
end jn
end Go.Proofs.YtdohnkkbkfhphaaGreat
