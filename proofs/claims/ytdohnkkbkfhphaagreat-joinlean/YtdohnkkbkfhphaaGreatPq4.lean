import Derived.RangeFuncNested
import Derived.RangeFuncBound
import Derived.Shelf.RegionOpen
import Derived.OwnWalkIn
import Derived.LoopNIn
import Derived.LoopIn
import Derived.Test.YtdohnkkbkfhphaaGreatPq3
set_option linter.all false
set_option maxHeartbeats 4000000
namespace Go.Proofs.YtdohnkkbkfhphaaGreat
open Go.Proofs.Tryz
namespace bf
open Go.ChangeShapes Go.WideShapes Go.ChangeAt Go.RowKit
variable {W W' : World} {B B' : Nat}
theorem Nd{m m':Nat}{P:Program}{f:FuncId}{args:Array Value}{R:Ending->World->Prop}(h:CallsIn Fence.wide m P f args W R):CallsIn Fence.wide m' P f args W R:=callsIn_wide.2 (callsIn_wide.1 h)
def SD(P:Program)(gf:Nat)(lb:Array Value)(xs:List (Array Value))(Kp:World->World->Prop)(w:World):Prop:=
 ∀(l:Nat) (J:Nat->World->Prop) (Jx:Unit->World->Prop) (W:World),Bwz w W->OwnFrom W.heap.size J->OwnFrom W.heap.size Jx->
  (∀k x W1,xs[k]? =some x->J k W1->YieldAt Fence.wide 0 P l x W1 fun e W'=>KeepsFrom W.heap.size W1 W'/\((e= .returned (.bool true)/\J (k+1) W'/\Kp W1 W')\/(e= .returned (.bool false)/\Jx () W')))->
  J 0 W->CallsIn Fence.wide 0 P gf (#[.func (.yield l) #[] #[]]++lb) W fun e W'=>(∃v,e= .returned v)/\(J xs.length W'\/Jx () W')
def leftAs(B:Nat)(Kp:World->World->Prop)(I:World->Prop)(Ix:Code->World->Prop)(W:World):Exit->Act->World->Prop
 | .normal,_,W'=>KeepsFrom B W W'/\Kp W W'/\I W'
 | .ret,_,W'=>KeepsFrom B W W'/\Ix .ret W'
 | .exit id,_,W'=>KeepsFrom B W W'/\Ix (.exit id) W'
 | .goto t,_,W'=>KeepsFrom B W W'/\Ix (.goto t) W'
 | .panic _,_,_=>False
 | .outgrown,_,_=>False
theorem EW(h:KeepsFrom B W W')(hB:B<=B'):KeepsFrom B' W W':=⟨h.size,fun k o hk=>h.same k o (Nat.le_trans hB hk)⟩
theorem EI{l:Nat}(W:World)(o:Obj)(hl:l<B):KeepsFrom B W (W.putObj l o):=⟨by simp,fun k o' hk h _=>(World.putObj_heap_other (by omega)).trans h⟩
theorem SF{β:Type}{I:β->World->Prop}(h:OwnFrom B I)(hB:B<=B'):OwnFrom B' I:=fun s W W' row hs hg hr=>h s W W' row hs hg (fun r e=>⟨Nat.le_trans hB (hr r e).1,(hr r e).2⟩)
theorem stays{k:Nat}{o:Obj}{row:Option Nat}(hg:W.grownBy W' row)(hr:∀r,row=some r->B<=r)(hk:k<B)(h:W.heap[k]? =some o):W'.heap[k]? =some o:=
 (hg.block k (Array.getElem?_eq_some_iff.1 h).1 (fun e=>by have:=hr k e.symm;omega)).trans h
section
variable {P : Program} {g : Operand} {ps : Array Tmp} {assign body : Code} {Q : Exit -> Act -> World -> Prop} {a : Act} {w : World} {gf : Nat} {lb : Array Value} {xs : List (Array Value)} {Kp : World -> World -> Prop} {w0 : World}
theorem Cq(hg:a.eval g= .func (.func gf) #[] lb)(eg:∀args w,(callFunc gf args).run P w= .ok (.enter gf args) w)(hit:SD P gf lb xs Kp w0)(hb0:Bwz w0 w)(hps:∀x∈xs,x.size=ps.size)
 (hKt:∀{A B C:World},Kp A B->Kp B C->Kp A C) (hKb:∀(W:World) (l:Nat) (o o':Obj),w.heap.size<=l->W.heap[l]? =some o->o.isCells=false->Kp W (W.putObj l o'))
 (I:Nat->World->Prop) (Ix:Code->World->Prop) (hI:OwnFrom w.heap.size I) (hIx:OwnFrom w.heap.size Ix) (h0:I 0 w) (Ax:Nat->Act->World->Prop) (hAx:∀k a',OwnFrom w.heap.size (fun(_:Unit) W=>Ax k a' W))
 (hassign:∀(l k:Nat) (x:Array Value) (W:World) (K:Act->World->Prop),xs[k]? =some x->I k W->(∀a' W',KeepsFrom w.heap.size W W'->Kp W W'->I k W'->Ax k a' W'->K a' W')->
  assign.wpIn (Fence.wide.inRound l) 0 P (Exit.then K (fun _ _ _=>False)) {tmps:=(ps.zip x).foldl (fun t (p,v)=>t.setIfInBounds p v) a.tmps,defers:=[]} W)
 (hbody:∀(l k:Nat) (x:Array Value) (a':Act) (W:World),xs[k]? =some x->w.heap.size<=l->(∃r,W.heap[l]? =some (.loop r))->I k W->Ax k a' W->body.wpIn (Fence.wide.inRound l) 0 P (leftAs w.heap.size Kp (I (k+1)) Ix W) a' W)
 (hdone:∀(D:Nat) (W:World),w.heap.size<=D->I xs.length W->W.heap[D]? =some (.deferred (some []))->Q .normal {a with defers:={target:=.collected D,args:=#[]}::a.defers} W)
 (hstop:∀(D:Nat) (c:Code) (W:World),w.heap.size<=D->Ix c W->W.heap[D]? =some (.deferred (some []))->c.wpIn Fence.wide 0 P Q {a with defers:={target:=.collected D,args:=#[]}::a.defers} W):
 (Code.rangeFunc g ps assign body).wpIn Fence.wide 0 P Q a w:=by
 refine wpIn_rangeFunc fun fn hfn=>?_
 obtain⟨N,hN⟩:∃N,w.heap.size=N:=⟨_,rfl⟩
 -- the loop's record, in each of its states
 obtain⟨rc,hrc⟩:∃rc:LoopState->Option Code->Loop,rc=fun s p=>{state:=s,pending:=p,fn:=fn,tmps:=a.tmps,params:=ps,assign:=assign,body:=body,defers:=w.heap.size}:=⟨_,rfl⟩
 have rec_ps:∀s p,(rc s p).params=ps:=fun s p=>by rw[hrc]
 obtain⟨V,hV⟩:∃V,(w.alloc (.deferred (some []))).alloc (.loop (rc .ready none))=V:=⟨_,rfl⟩
 have hVs:V.heap.size=N+2:=by rw[<-hV];simp[hN]
 have hVr:V.heap[N+1]? =some (.loop (rc .ready none)):=by
  have h:=World.alloc_heap_new (w.alloc (.deferred (some []))) (.loop (rc .ready none))
  rw[World.size_alloc,hN,hV]at h;exact h
 have hVd:V.heap[N]? =some (.deferred (some [])):=by
  rw[<-hV,<-hN];exact(Below.heap_alloc _ _ _ (by simp)).trans (World.alloc_heap_new w _)
 have hVw:Bwz w V:=by rw[<-hV];exact((Below.refl _ _).alloc (Nat.le_refl _) _).alloc (by simp) _
 have hVI:I 0 V:=by rw[<-hV];exact hI.alloc _ (hI.alloc _ h0)
 rw[hN]at hI hIx hAx hKb hbody hassign hdone hstop
 refine⟨N+1,[{target:=.collected N,args:=#[]}],V,{target:=.fn (.func gf) lb,args:=#[.func (.yield (N+1)) #[] #[]]},V,gf,#[.func (.yield (N+1)) #[] #[]]++lb,V,?_,?_,fun _ _=>trivial,?_,fun h=>by simp[Fence.wide]at h,?_⟩
 ·have h:=run_enterLoop_outer (P:=P) (w:=w) fn a.tmps ps assign body
  rw[<-hV,<-hN,hrc];exact h
 ·simp only[resolve,hg]
  simp[go_sem]
 ·simp[invoke,go_sem,eg]
 ·refine Nd ((hit (N+1)
   (fun k W=>I k W/\W.heap[N+1]? =some (.loop (rc .ready none))/\W.heap[N]? =some (.deferred (some [])))
   (fun _ W=> ∃c,Ix c W/\W.heap[N+1]? =some (.loop (rc .done (some c)))/\W.heap[N]? =some (.deferred (some [])))
   V (hb0.trans (hVw.mono hb0.size)) ?_ ?_ ?_ ⟨hVI,hVr,hVd⟩).mono ?_)
  ·rintro k W W' row ⟨h1,h2,h3⟩ hgr hr
   have hr':∀r,row=some r->N+2<=r:=fun r e=>by have:=(hr r e).1;omega
   exact⟨hI k W W' row h1 hgr (fun r e=>⟨by have:=hr' r e;omega,(hr r e).2⟩),stays hgr hr' (by omega) h2,stays hgr hr' (by omega) h3⟩
  ·rintro _ W W' row ⟨c,h1,h2,h3⟩ hgr hr
   have hr':∀r,row=some r->N+2<=r:=fun r e=>by have:=(hr r e).1;omega
   exact⟨c,hIx c W W' row h1 hgr (fun r e=>⟨by have:=hr' r e;omega,(hr r e).2⟩),stays hgr hr' (by omega) h2,stays hgr hr' (by omega) h3⟩
  ·-- a round
   rintro k x W hx ⟨h1,h2,h3⟩
   have hlt:N+1<W.heap.size:=(Array.getElem?_eq_some_iff.1 h2).1
   have hy:=run_yield (P:=P) (args:=x) h2 (by rw[rec_ps];exact hps x (List.mem_of_getElem? hx))
   refine⟨_,_,_,_,hy,roundIn_of_wpIn trivial ?_⟩
   have e1:(rc .ready none).tmps=a.tmps:=by rw[hrc]
   have e2:(rc .ready none).assign=assign:=by rw[hrc]
   have e3:(rc .ready none).body=body:=by rw[hrc]
   rw[rec_ps,e1,e2,e3]
   refine hassign (N+1) k x W _ hx h1 (fun a' W2 kf hk2 hi2 hax=>?_)
   have h2':=kf.same _ _ (by omega) h2 rfl
   have h3':=kf.same _ _ (by omega) h3 rfl
   have hst:(rc .ready none).state= .ready:=by rw[hrc]
   refine⟨_,run_beginRound h2' hst,?_⟩
   have hb:({rc .ready none with state:=.busy}:Loop)=rc .busy none:=by rw[hrc]
   rw[hb]
   obtain⟨X,hX⟩:∃X,W2.putObj (N+1) (.loop (rc .busy none))=X:=⟨_,rfl⟩
   have hlt2:N+1<W2.heap.size:=(Array.getElem?_eq_some_iff.1 h2').1
   have x1:X.heap[N+1]? =some (.loop (rc .busy none)):=by rw[<-hX];exact World.putObj_heap_same hlt2
   have x2:X.heap[N]? =some (.deferred (some [])):=by rw[<-hX];exact(World.putObj_heap_other (by omega)).trans h3'
   have x3:I k X:=by rw[<-hX];exact hI.putObj _ hi2 (by omega) h2' rfl
   have x4:Ax k a' X:=by rw[<-hX];exact(hAx k a').putObj (s:=()) _ hax (by omega) h2' rfl
   have x6:KeepsFrom (N+2) W X:=(EW kf (by omega)).trans (by rw[<-hX];exact EI _ _ (by omega))
   have x5:Kp W X:=hKt hk2 (by rw[<-hX];exact hKb _ _ _ _ (by omega) h2' rfl)
   rw[hX]
   clear hX
   -- behind the round
   have fin:∀(j:Option Code) (Y:World),KeepsFrom N X Y->
    (Instr.endRound (N+1) j).run P Y= .ok (.bool j.isNone) (Y.putObj (N+1) (.loop (rc (if j.isNone then .ready else .done) j)))/\Y.heap[N+1]? =some (.loop (rc .busy none))/\
    (Y.putObj (N+1) (.loop (rc (if j.isNone then .ready else .done) j))).heap[N+1]? =some (.loop (rc (if j.isNone then .ready else .done) j))/\
    (Y.putObj (N+1) (.loop (rc (if j.isNone then .ready else .done) j))).heap[N]? =some (.deferred (some [])):=fun j Y hk=>by
    have y1:=hk.same _ _ (by omega) x1 rfl
    have y2:=hk.same _ _ (by omega) x2 rfl
    have hend:=run_endRound (P:=P) j y1
    have e:({rc .busy none with state:=if j.isNone then .ready else .done,pending:=j}:Loop)=rc (if j.isNone then .ready else .done) j:=by rw[hrc]
    rw[e]at hend
    exact⟨hend,y1,World.putObj_heap_same (Array.getElem?_eq_some_iff.1 y1).1,(World.putObj_heap_other (by omega)).trans y2⟩
   refine wpIn_mono (hbody (N+1) k x a' X hx (by omega) ⟨_,x1⟩ x3 x4) ?_
   rintro e a3 Y hp
   cases e with
   |normal=>
    obtain⟨p1,p2,p3⟩:=hp
    obtain⟨q1,q2,q3,q4⟩:=fin none Y p1
    exact⟨_,_,q1,by rw[hVs];exact(x6.trans (EW p1 (by omega))).trans (EI _ _ (by omega)),.inl ⟨rfl,⟨hI.putObj _ p3 (by omega) q2 rfl,q3,q4⟩,hKt (hKt x5 p2) (hKb _ _ _ _ (by omega) q2 rfl)⟩⟩
   |ret=>
    obtain⟨p1,p3⟩:=hp
    obtain⟨q1,q2,q3,q4⟩:=fin (some .ret) Y p1
    exact⟨_,_,q1,by rw[hVs];exact(x6.trans (EW p1 (by omega))).trans (EI _ _ (by omega)),.inr ⟨rfl,.ret,hIx.putObj _ p3 (by omega) q2 rfl,q3,q4⟩⟩
   |exit id=>
    obtain⟨p1,p3⟩:=hp
    obtain⟨q1,q2,q3,q4⟩:=fin (some (.exit id)) Y p1
    exact⟨_,_,q1,by rw[hVs];exact(x6.trans (EW p1 (by omega))).trans (EI _ _ (by omega)),.inr ⟨rfl,.exit id,hIx.putObj _ p3 (by omega) q2 rfl,q3,q4⟩⟩
   |goto t=>
    obtain⟨p1,p3⟩:=hp
    obtain⟨q1,q2,q3,q4⟩:=fin (some (.goto t)) Y p1
    exact⟨_,_,q1,by rw[hVs];exact(x6.trans (EW p1 (by omega))).trans (EI _ _ (by omega)),.inr ⟨rfl,.goto t,hIx.putObj _ p3 (by omega) q2 rfl,q3,q4⟩⟩
   |panic ch=>exact hp.elim
   |outgrown=>exact hp.elim
  ·-- behind the iterator
   rintro e W ⟨⟨v,rfl⟩,(⟨h1,h2,h3⟩|⟨c,h1,h2,h3⟩)⟩
   ·refine⟨none,_,?_,hdone N _ (by omega) (hI.putObj (.loop (rc .exhausted none)) h1 (by omega) h2 rfl) ((World.putObj_heap_other (by omega)).trans h3)⟩
    have h:=run_endLoop (P:=P) h2 (by rw[hrc];simp)
    rw[hrc]at h⊢;exact h
   ·refine⟨some c,_,?_,hstop N c _ (by omega) (hIx.putObj (.loop (rc .exhausted (some c))) h1 (by omega) h2 rfl) ((World.putObj_heap_other (by omega)).trans h3)⟩
    have h:=run_endLoop (P:=P) h2 (by rw[hrc];simp)
    rw[hrc]at h⊢;exact h
end
end bf
namespace bf
open Go.ChangeShapes Go.WideShapes Go.ChangeAt Go.RowKit Go.Shelf
attribute [local go_sem] Oper.semAt_some
variable {Pr : Nat -> Obj -> Prop} {W W' : World} {b i o : Nat} {v : Value}
def Aj(Pr:Nat->Obj->Prop)(W W':World):Prop:=∀b o,W.heap[b]? =some o->o.isCells=true->Pr b o->W'.heap[b]? =some o
theorem Aj.refl(Pr:Nat->Obj->Prop)(W:World):Aj Pr W W:=fun _ _ h _ _=>h
theorem Aj.trans{A B C:World}(h:Aj Pr A B)(k:Aj Pr B C):Aj Pr A C:=fun b o h1 h2 h3=>k b o (h b o h1 h2 h3) h2 h3
def names(Pr:Nat->Obj->Prop)(W:World)(b:Nat):Prop:=∀o,W.heap[b]? =some o->Pr b o
theorem SG(hc:W.cell? ⟨b,o,none⟩=some v):∃x,W.heap[b]? =some x/\x.isCells=true:=by
 unfold World.cell? at hc
 cases ho:W.heap[b]? with
 |none=>simp[ho]at hc
 |some x=>exact⟨x,rfl,by cases x<;>simp_all [Obj.isCells]⟩
theorem Aj.block(h:Aj Pr W W')(hb:names Pr W b)(hc:W.cell? ⟨b,o,none⟩=some v):W'.heap[b]? =W.heap[b]? :=by
 obtain⟨x,h1,h2⟩:=SG hc
 rw[h b x h1 h2 (hb x h1),h1]
theorem Aj.cell(h:Aj Pr W W')(hb:names Pr W b)(hc:W.cell? ⟨b,o,none⟩=some v):W'.cell? ⟨b,o,none⟩=some v:=
 (World.cell?_of_block (w:=W) (a:=⟨b,o,none⟩) (h.block hb hc)).trans hc
theorem Aj.grown{V:World}{row:Option Nat}(h:Aj Pr V W)(hg:W.grownBy W' row)(hr:∀r,row=some r->∃o:Obj,W.heap[r]? =some o/\o.isCells=false):Aj Pr V W':=fun b o h1 h2 h3=>by
 have h4:=h b o h1 h2 h3
 refine(hg.block b (Array.getElem?_eq_some_iff.1 h4).1 (fun e=>?_)).trans h4
 obtain⟨o',h5,h6⟩:=hr b e.symm
 rw[h4]at h5;cases h5;rw[h2]at h6;cases h6
theorem Aj.put(W:World)(l:Nat)(o o':Obj)(h:W.heap[l]? =some o)(ho:o.isCells=false):Aj Pr W (W.putObj l o'):=fun b x h1 h2 _=>by
 by_cases e:b=l
 ·subst e;rw[h]at h1;cases h1;rw[ho]at h2;cases h2
 ·exact(World.putObj_heap_other e).trans h1
theorem Aj.alloc(W:World)(o:Obj):Aj Pr W (W.alloc o):=fun b x h1 _ _=>(Below.heap_alloc W o b (Array.getElem?_eq_some_iff.1 h1).1).trans h1
theorem Ej{n:Nat}(h:Below n W W')(hn:b<n)(hb:names Pr W b):names Pr W' b:=fun x hx=>hb x (by rw[<-h.block b hn];exact hx)
abbrev Hdr:=Option Addr×Nat×Nat
def hdV(h:Hdr):Value:=.slice h.1 h.2.1 h.2.2
def Hb(w:World)(a:Option Addr)(l:List Hdr):Prop:=
 ∀i,i<l.length->∃b off,a=some ⟨b,off,none⟩/\w.cell? ⟨b,off+i,none⟩=some (hdV (l.getD i (none,0,0)))
theorem Js(BX:Nat)(lim:Int)(m:Hdr)(ra:Option Addr)(rc:Nat)(rs:List Hdr)(Pr:Nat->Obj->Prop)(w:World)(hl:rs.length<=9223372036854775807)
 (h1:w.cell? ⟨BX,1,none⟩=some (hdV m)) (h2:w.cell? ⟨BX,2,none⟩=some (.slice ra rs.length rc)) (hr:Hb w ra rs) (hS:names Pr w BX) (hS2:∀x,0<rs.length->ra=some x->names Pr w x.block):
 SD Tryz.prog 180 #[.pointer (some ⟨BX,0,none⟩)] ((m::rs).map fun h=>#[hdV h]) (Aj Pr) w:=by
 intro l J Jx W hb hJ hJx hY h0
 obtain⟨m1,m2,m3⟩:=m
 have k1:=cell_later hb h1
 have k2:=cell_later hb h2
 have hr':Hb W ra rs:=fun i hi=>by obtain⟨b,o,e,x⟩:=hr i hi;exact⟨b,o,e,cell_later hb x⟩
 unfold hdV at k1
 dsimp only at k1
 have HY:Hid (∀k x W1,((((m1,m2,m3):Hdr)::rs).map fun h=>#[hdV h])[k]? =some x->J k W1->YieldAt Fence.wide 0 Tryz.prog l x W1 fun e W'=>KeepsFrom W.heap.size W1 W'/\((e= .returned (.bool true)/\J (k+1) W'/\Aj Pr W1 W')\/(e= .returned (.bool false)/\Jx () W'))):=hY
 have HR:Hid (Hb W ra rs):=hr'
 have HS:Hid (names Pr W BX/\∀x,0<rs.length->ra=some x->names Pr W x.block):=⟨Ej hb (World.block_lt_of_cell? _ _ h1) hS,fun x h0 hx=>by
  obtain⟨b,o,e,y⟩:=hr 0 h0
  rw[hx]at e;cases e
  exact Ej hb (World.block_lt_of_cell? _ _ y) (hS2 _ h0 hx)⟩
 have HL:Hid ((((((m1,m2,m3):Hdr)::rs).map fun h=>#[hdV h])).length=rs.length+1):=by show _=_;simp
 have hyz:=hY 0 #[.slice m1 m2 m3] W (by simp[hdV]) h0
 clear hY hr hr' hS hS2 h1 h2 hb
 obtain⟨n,hn⟩:∃n,rs.length=n:=⟨_,rfl⟩
 have HN:Hid (rs.length=n):=hn
 rw[hn]at k2 hl HL
 clear hn
 rw[HL.out]
 refine callsIn_of_wp func180 rfl trivial ?_ rfl
 simp only[ntmps180,List.size_toArray,List.length_cons,List.length_nil,Nat.reduceAdd,Nat.reduceSub,Array.replicate_succ,Array.replicate_zero,List.push_toArray,List.append_toArray,List.nil_append,List.cons_append]
 obtain⟨fn,tmps,assign,body,hy,hR⟩:=hyz
 gi_wp2
 refine⟨rfl,hR.mono ?_⟩
 rintro e W1 ⟨_,(⟨rfl,hJ1,hk1⟩|⟨rfl,hJx1⟩)⟩
 ·have c2:=hk1.cell HS.out.1 k2
  gi_wp2
  gi_loopw [13] (fun i wr=> ∃k:Nat,k<=n/\i= .int .i64 k/\J (k+1) wr/\Aj Pr W wr) (fun i _=>n - (intOf i).toNat)
  case atStart=>exact⟨0,Nat.zero_le _,rfl,hJ1,hk1⟩
  case round=>
   obtain⟨k,hk,rfl,hJk,hkk⟩:=hrel
   by_cases hlt:k<n
   ·obtain⟨b,o,e,x1⟩:=HR.out k (by rw[HN.out];exact hlt)
    subst e
    have q1:=hkk.cell (HS.out.2 _ (by rw[HN.out];omega) rfl) x1
    obtain⟨⟨z1,z2,z3⟩,hz⟩:∃z,rs.getD k (none,0,0)=z:=⟨_,rfl⟩
    have hyk:=HY.out (k+1) #[.slice z1 z2 z3] wr (by
     rw[List.map_cons,List.getElem?_cons_succ,List.getElem?_map,List.getElem?_eq_getElem (by rw[HN.out];exact hlt)]
     rw[List.getD_eq_getElem?_getD,List.getElem?_eq_getElem (by rw[HN.out];exact hlt)]at hz
     simp at hz
     simp[hz,hdV]) hJk
    rw[hz]at q1
    unfold hdV at q1
    dsimp only at q1
    clear hz x1
    obtain⟨fn2,tmps2,assign2,body2,hy2,hR2⟩:=hyk
    have i1:(0:Int)<=(k:Int):=by omega
    have i2:(k:Int)<(n:Int):=by omega
    gi_wp2
    refine⟨rfl,hR2.mono ?_⟩
    rintro e W2 ⟨_,(⟨rfl,hJ2,hk2⟩|⟨rfl,hJx2⟩)⟩
    ·gi_wp2
     go_roundw
     case rel=>exact⟨k+1,by omega,by go_num,hJ2,hkk.trans hk2⟩
     case measure=>simp[intOf];omega
    ·gi_wp2
     refine bodyPost_ret (results_none rfl _ _ _) rfl ?_
     exact⟨⟨_,rfl⟩,.inr hJx2⟩
   ·have hkn:k=n:=by omega
    subst hkn
    gi_wp2
    go_end0
    exact⟨⟨_,rfl⟩,.inl hJk⟩
 ·gi_wp2
  refine bodyPost_ret (results_none rfl _ _ _) rfl ?_
  exact⟨⟨_,rfl⟩,.inr hJx1⟩
structure EM where
 key:ByteArray
 time:Int
 seq:Int
 row:Hdr
 met:Bool
instance:Inhabited EM:=⟨⟨⟨#[]⟩,0,0,(none,0,0),false⟩⟩
def EM.val(e:EM):Value:=.agg #[.string e.key,.int .i64 e.time,.int .i64 e.seq,hdV e.row,.bool e.met]
def Do(w:World)(a:Option Addr)(l:List EM):Prop:=
 ∀i,i<l.length->∃b off,a=some ⟨b,off,none⟩/\w.cell? ⟨b,off+i * 5,none⟩=some (.string (l.getD i default).key)/\w.cell? ⟨b,off+i * 5+1,none⟩=some (.int .i64 (l.getD i default).time)/\
  w.cell? ⟨b,off+i * 5+1+1,none⟩=some (.int .i64 (l.getD i default).seq)/\w.cell? ⟨b,off+i * 5+1+1+1,none⟩=some (hdV (l.getD i default).row)/\w.cell? ⟨b,off+i * 5+1+1+1+1,none⟩=some (.bool (l.getD i default).met)
theorem BO{w w':World}{a:Option Addr}{l:List EM}(h:Do w a l)(hb:Bwz w w'):Do w' a l:=by
 intro i hi
 obtain⟨b,o,e,x1,x2,x3,x4,x5⟩:=h i hi
 exact⟨b,o,e,cell_later hb x1,cell_later hb x2,cell_later hb x3,cell_later hb x4,cell_later hb x5⟩
abbrev Part:=Hdr×List EM
def ems(p:List Part):List EM:=p.flatMap (·.2)
def DZ(p:List Part)(i:Nat):Nat:=(ems (p.take i)).length
theorem LP(p q:List Part):ems (p++q)=ems p++ems q:=by unfold ems;rw[List.flatMap_append]
theorem OC{p:List Part}(h:i<p.length):p=p.take i++(p[i]::p.drop (i+1)):=by
 rw[List.getElem_cons_drop];exact(List.take_append_drop i p).symm
theorem Lh{p:List Part}(h:i<p.length):DZ p (i+1)=DZ p i+(p[i]).2.length:=by
 unfold DZ
 rw[List.take_succ_eq_append_getElem h,LP,List.length_append]
 simp[ems]
theorem Jt(p:List Part):DZ p p.length=(ems p).length:=by unfold DZ;rw[List.take_length]
theorem Wb{p:List Part}{k:Nat}(h:i<p.length)(hk:k<(p[i]).2.length):(ems p)[DZ p i+k]? =some ((p[i]).2.getD k default):=by
 have e:ems p=ems (p.take i)++((p[i]).2++ems (p.drop (i+1))):=by
  have h1:ems p=ems (p.take i++(p[i]::p.drop (i+1))):=by rw[<-OC h]
  rw[h1,LP];rfl
 rw[e]
 unfold DZ
 rw[List.getElem?_append_right (by omega),Nat.add_sub_cancel_left,List.getElem?_append_left hk,List.getElem?_eq_getElem hk,List.getD_eq_getElem?_getD,List.getElem?_eq_getElem hk];rfl
theorem FK(v1 v2 v3:Value)(h1:v1.oneCell'=true)(h2:v2.oneCell'=true)(h3:v3.oneCell'=true)(w:World):
 Calls Tryz.prog 136 #[.agg #[v1,v2,v3]] w fun e w'=>e= .returned (.func (.func 180) #[] #[.pointer (some ⟨w.heap.size,0,none⟩)])/\w'=w.alloc (.cells #[v1,v2,v3] 29):=by
 go_enter func136,ntmps136
 go_wp2
 go_ret
 exact⟨rfl,rfl⟩
theorem FL(v1 v2 v3:Value)(h1:v1.oneCell'=true)(h2:v2.oneCell'=true)(h3:v3.oneCell'=true)(w:World):
 Calls Tryz.prog 113 #[.agg #[v1,v2,v3]] w fun e w'=>e= .returned (.func (.func 161) #[] #[.pointer (some ⟨w.heap.size,0,none⟩)])/\w'=w.alloc (.cells #[v1,v2,v3] 29):=by
 go_enter func113,ntmps113
 go_wp2
 go_ret
 exact⟨rfl,rfl⟩
structure boxAt(w:World)(BX:Nat)(lim:Int)(ra:Option Addr)(rc:Nat)(m:Part)(rs:List Part):Prop where
 lim:w.cell? ⟨BX,0,none⟩=some (.int .i64 lim)
 mem:w.cell? ⟨BX,1,none⟩=some (hdV m.1)
 runs:w.cell? ⟨BX,2,none⟩=some (.slice ra rs.length rc)
 hds:Hb w ra (rs.map (·.1))
 len:∀p∈m::rs,p.1.2.1=p.2.length/\p.2.length<=9223372036854775807
 ems:∀p∈m::rs,Do w p.1.1 p.2
 few:rs.length<=9223372036854775807
theorem SH(BX:Nat)(lim:Int)(ra:Option Addr)(rc:Nat)(m:Part)(rs:List Part)(Pr:Nat->Obj->Prop)(w:World)(h:boxAt w BX lim ra rc m rs)
 (hS:names Pr w BX) (hS2:∀x,0<rs.length->ra=some x->names Pr w x.block) (hS3:∀p∈m::rs,∀x,0<p.2.length->p.1.1=some x->names Pr w x.block)
 (hP1:∀b c f,w.heap.size<=b->Pr b (.cells c 29 f)) (hP2:∀b c f,w.heap.size<=b->Pr b (.cells c 110 f)):
 SD Tryz.prog 161 #[.pointer (some ⟨BX,0,none⟩)] ((ems (m::rs)).map fun e=>#[e.val]) (Aj Pr) w:=by
 intro l J Jx W hb hJ hJx hY h0
 have k0:=cell_later hb h.lim
 have k1:=cell_later hb h.mem
 have k2:=cell_later hb h.runs
 obtain⟨⟨m1,m2,m3⟩,ml⟩:=m
 unfold hdV at k1
 dsimp only at k1
 have lX:BX<W.heap.size:=World.block_lt_of_cell? _ _ k0
 obtain⟨n,hn⟩:∃n,rs.length=n:=⟨_,rfl⟩
 have HN:Hid (rs.length=n):=hn
 rw[hn]at k2
 clear hn
 obtain⟨xs,hxs⟩:=nM ((ems ((((m1,m2,m3):Hdr),ml)::rs)).map (fun e=>#[e.val]))
 have HX:Hid ((ems ((((m1,m2,m3):Hdr),ml)::rs)).map (fun e=>#[e.val])=xs):=hxs
 rw[hxs]at hY⊢
 clear hxs
 refine callsIn_of_wp_marks func161 rfl trivial ?_ rfl
 simp only[ntmps161,List.size_toArray,List.length_cons,List.length_nil,Nat.reduceAdd,Nat.reduceSub,Array.replicate_succ,Array.replicate_zero,List.push_toArray,List.append_toArray,List.nil_append,List.cons_append]
 gi_wp2_with (refine⟨trivial,rfl,?_⟩;gi_at_call 136;refine(callsIn_wide.2 (FK _ _ _ rfl rfl rfl _)).mono ?_;rintro e w' ⟨rfl,rfl⟩)
 have HI:Hid (boxAt w BX lim ra rc ((m1,m2,m3),ml) rs/\names Pr w BX/\(∀x,0<rs.length->ra=some x->names Pr w x.block)/\(∀p∈((m1,m2,m3),ml)::rs,∀x,0<p.2.length->p.1.1=some x->names Pr w x.block)):=⟨h,hS,hS2,hS3⟩
 have HP:Hid ((∀b c f,w.heap.size<=b->Pr b (.cells c 29 f))/\(∀b c f,w.heap.size<=b->Pr b (.cells c 110 f))):=⟨hP1,hP2⟩
 have HJ:Hid (OwnFrom W.heap.size J/\OwnFrom W.heap.size Jx):=⟨hJ,hJx⟩
 have HY:Hid (∀k x W1,xs[k]? =some x->J k W1->YieldAt Fence.wide 0 Tryz.prog l x W1 fun e W'=>KeepsFrom W.heap.size W1 W'/\((e= .returned (.bool true)/\J (k+1) W'/\Aj Pr W1 W')\/(e= .returned (.bool false)/\Jx () W'))):=hY
 have c2:((W.alloc (.cells #[.func (.yield l) #[] #[]] 110)).alloc (.cells #[.int .i64 lim,.slice m1 m2 m3,.slice ra n rc] 29)).cell? ⟨W.heap.size,0,none⟩=some (.func (.yield l) #[] #[]):=by go_simp
 have d1:((W.alloc (.cells #[.func (.yield l) #[] #[]] 110)).alloc (.cells #[.int .i64 lim,.slice m1 m2 m3,.slice ra n rc] 29)).cell? ⟨W.heap.size+1,1,none⟩=some (.slice m1 m2 m3):=by go_simp
 have d2:((W.alloc (.cells #[.func (.yield l) #[] #[]] 110)).alloc (.cells #[.int .i64 lim,.slice m1 m2 m3,.slice ra n rc] 29)).cell? ⟨W.heap.size+1,2,none⟩=some (.slice ra n rc):=by go_simp
 have hbV:Bwz W ((W.alloc (.cells #[.func (.yield l) #[] #[]] 110)).alloc (.cells #[.int .i64 lim,.slice m1 m2 m3,.slice ra n rc] 29)):=((Below.refl _ _).alloc (Nat.le_refl _) _).alloc (by simp) _
 have hsV:((W.alloc (.cells #[.func (.yield l) #[] #[]] 110)).alloc (.cells #[.int .i64 lim,.slice m1 m2 m3,.slice ra n rc] 29)).heap.size=W.heap.size+2:=by simp
 have nB:names Pr ((W.alloc (.cells #[.func (.yield l) #[] #[]] 110)).alloc (.cells #[.int .i64 lim,.slice m1 m2 m3,.slice ra n rc] 29)) (W.heap.size+1):=fun o ho=>by
  have h:=World.alloc_heap_new (W.alloc (.cells #[.func (.yield l) #[] #[]] 110)) (.cells #[.int .i64 lim,.slice m1 m2 m3,.slice ra n rc] 29)
  rw[World.size_alloc]at h
  rw[h]at ho;cases ho
  exact hP1 _ _ _ (by have:=hb.size;omega)
 have nY:names Pr ((W.alloc (.cells #[.func (.yield l) #[] #[]] 110)).alloc (.cells #[.int .i64 lim,.slice m1 m2 m3,.slice ra n rc] 29)) W.heap.size:=fun o ho=>by
  have h:=(Below.heap_alloc (W.alloc (.cells #[.func (.yield l) #[] #[]] 110)) (.cells #[.int .i64 lim,.slice m1 m2 m3,.slice ra n rc] 29) W.heap.size (by simp)).trans (World.alloc_heap_new W _)
  rw[h]at ho;cases ho
  exact hP2 _ _ _ hb.size
 have hJV:J 0 ((W.alloc (.cells #[.func (.yield l) #[] #[]] 110)).alloc (.cells #[.int .i64 lim,.slice m1 m2 m3,.slice ra n rc] 29)):=hJ.alloc _ (hJ.alloc _ h0)
 clear hY hJ hJx h hS hS2 hS3 hP1 hP2 k0 k1 k2 h0
 generalize (W.alloc (.cells #[.func (.yield l) #[] #[]] 110)).alloc (.cells #[.int .i64 lim,.slice m1 m2 m3,.slice ra n rc] 29)=V at *
 have hbw:Bwz w V:=hb.trans (hbV.mono hb.size)
 obtain⟨P,hP⟩:∃z:List Part,(((m1,m2,m3),ml)::rs)=z:=⟨_,rfl⟩
 have HPL:Hid (P.length=n+1):=by show _=_;rw[<-hP,List.length_cons,HN.out]
 have HPM:Hid (∀p∈P,p.1.2.1=p.2.length/\p.2.length<=9223372036854775807/\Do V p.1.1 p.2/\∀x,0<p.2.length->p.1.1=some x->names Pr V x.block):=fun p hp=>by
  rw[<-hP]at hp
  refine⟨(HI.out.1.len p hp).1,(HI.out.1.len p hp).2,BO (HI.out.1.ems p hp) hbw,fun x h0 hx=>?_⟩
  obtain⟨b,o,e,y,_⟩:=HI.out.1.ems p hp 0 h0
  rw[hx]at e;cases e
  exact Ej hbw (World.block_lt_of_cell? _ _ y) (HI.out.2.2.2 p hp _ h0 hx)
 have HXP:Hid ((((m1,m2,m3):Hdr)::rs.map (·.1)).map (fun h=>#[hdV h])=P.map fun p=>#[hdV p.1]):=by
  show _=_
  rw[<-hP];simp
 have HE:Hid ((ems P).map (fun e=>#[e.val])=xs):=by show _=_;rw[<-hP];exact HX.out
 have hrl:(rs.map (·.1)).length=n:=by rw[List.length_map,HN.out]
 have hit:=Js (W.heap.size+1) lim (m1,m2,m3) ra rc (rs.map (·.1)) Pr V (by rw[hrl,<-HN.out];exact HI.out.1.few) d1 (by rw[hrl];exact d2) (fun i hi=>by obtain⟨b,o,e,x⟩:=HI.out.1.hds i hi;exact⟨b,o,e,cell_later hbw x⟩) nB (fun x h0 hx=>by
  obtain⟨b,o,e,y⟩:=HI.out.1.hds 0 h0
  rw[hx]at e;cases e
  exact Ej hbw (World.block_lt_of_cell? _ _ y) (HI.out.2.2.1 _ (by simpa using h0) hx))
 rw[HXP.out]at hit
 refine Cq (gf:=180) (lb:=#[.pointer (some ⟨W.heap.size+1,0,none⟩)]) rfl (enters_of func180 (by kernel_rfl) rfl) hit (Below.refl _ _) (fun x hx=>by obtain⟨p,_,rfl⟩:=List.mem_map.1 hx;rfl) (fun h k=>Aj.trans h k) (fun W l o o' _ h ho=>Aj.put W l o o' h ho)
  (fun i X=>J (DZ P i) X/\Aj Pr V X) (fun c X=>c= .ret/\Jx () X)
  (fun i X X' row hs hg hr=>⟨(SF HJ.out.1 (by omega)) _ X X' row hs.1 hg hr,hs.2.grown hg (fun r e=>(hr r e).2)⟩)
  (fun c X X' row hs hg hr=>⟨hs.1,(SF HJ.out.2 (by omega)) _ X X' row hs.2 hg hr⟩)
  ⟨hJV,Aj.refl _ _⟩
  (fun i a' X=>a'={tmps:=#[.func (.yield l) #[] #[],.pointer (some ⟨BX,0,none⟩),.pointer (some ⟨W.heap.size,0,none⟩),hdV (P.getD i default).1,undef,undef,.agg #[.int .i64 lim,.slice m1 m2 m3,.slice ra n rc],.func (.func 180) #[] #[.pointer (some ⟨W.heap.size+1,0,none⟩)],hdV (P.getD i default).1,undef,undef,undef,undef,undef,undef,undef,undef,undef,undef,undef],defers:=[]})
  (fun i a' u X X' row hs hg hr=>hs) ?assign ?body ?done ?stop
 case assign=>
  intro l' k x X K hx hi hK
  obtain⟨hk,hxe⟩:=List.getElem?_eq_some_iff.1 hx
  rw[List.length_map]at hk
  rw[List.getElem_map]at hxe
  subst hxe
  have hd:P.getD k default=P[k]:=by rw[List.getD_eq_getElem?_getD,List.getElem?_eq_getElem hk];rfl
  have hK2:=fun W' h1 h2 h3=>hK _ W' h1 h2 h3 rfl
  rw[hd]at hK2
  clear hK hd hx
  obtain⟨⟨⟨z1,z2,z3⟩,zl⟩,hz⟩:∃z,P[k]=z:=⟨_,rfl⟩
  rw[hz]at hK2⊢
  unfold hdV at hK2⊢
  dsimp only at hK2⊢
  gi_wp2
  exact hK2 X (KeepsFrom.refl _ _) (Aj.refl _ _) hi
 case body=>
  intro l' i x a' X hx hl' hrec hIi hax
  obtain⟨hJi,hki⟩:=hIi
  obtain⟨hi,hxe⟩:=List.getElem?_eq_some_iff.1 hx
  rw[List.length_map]at hi
  have hd:P.getD i default=P[i]:=by rw[List.getD_eq_getElem?_getD,List.getElem?_eq_getElem hi];rfl
  rw[hd]at hax
  subst hax
  have hpm:=HPM.out P[i] (List.getElem_mem hi)
  have HAT:Hid (∀j,j<(P[i]).2.length->xs[DZ P i+j]? =some #[((P[i]).2.getD j default).val]):=fun j hj=>by
   rw[<-HE.out,List.getElem?_map,Wb hi hj];rfl
  have HNX:Hid (DZ P (i+1)=DZ P i+(P[i]).2.length):=Lh hi
  clear hx hxe hd
  obtain⟨⟨⟨z1,z2,z3⟩,zl⟩,hz⟩:∃z,P[i]=z:=⟨_,rfl⟩
  rw[hz]at hpm HAT HNX⊢
  dsimp only at hpm HAT HNX⊢
  obtain⟨hz2,hzl,hem,hnm⟩:=hpm
  subst hz2
  have HEM:Hid (Do V z1 zl/\∀x,0<zl.length->z1=some x->names Pr V x.block):=⟨hem,hnm⟩
  obtain⟨q,hq⟩:∃q,zl.length=q:=⟨_,rfl⟩
  have HQ:Hid (zl.length=q):=hq
  rw[hq]at hzl HAT HNX
  unfold hdV
  dsimp only
  rw[hq]
  clear hz hem hnm hq
  obtain⟨O,hO⟩:∃O,DZ P i=O:=⟨_,rfl⟩
  rw[hO]at hJi HAT HNX
  have lV:W.heap.size<X.heap.size:=by
   have:=World.block_lt_of_cell? _ _ (hki.cell nY c2);exact this
  gi_wp2
  gi_loopw [11] (fun t wr=> ∃j:Nat,j<=q/\t= .int .i64 j/\J (O+j) wr/\Aj Pr V wr/\Aj Pr X wr/\KeepsFrom V.heap.size X wr) (fun t _=>q - (intOf t).toNat)
  case atStart=>exact⟨0,Nat.zero_le _,rfl,hJi,hki,Aj.refl _ _,KeepsFrom.refl _ _⟩
  case round=>
   obtain⟨j,hj,rfl,hJj,hkj,hkx,hkf⟩:=hrel
   have y2:=hkj.cell nY c2
   have ly:W.heap.size<wr.heap.size:=World.block_lt_of_cell? _ _ y2
   by_cases hlt:j<q
   ·obtain⟨b,o,e,x1,x2,x3,x4,x5⟩:=HEM.out.1 j (by rw[HQ.out];exact hlt)
    subst e
    have hn:=HEM.out.2 _ (by rw[HQ.out];omega) rfl
    have q1:=hkj.cell hn x1
    have q2:=hkj.cell hn x2
    have q3:=hkj.cell hn x3
    have q4:=hkj.cell hn x4
    have q5:=hkj.cell hn x5
    have hat:=HAT.out j hlt
    obtain⟨⟨ek,et,es,⟨r1,r2,r3⟩,em⟩,he⟩:∃z,zl.getD j default=z:=⟨_,rfl⟩
    rw[he]at q1 q2 q3 q4 q5 hat
    unfold hdV at q4
    unfold EM.val hdV at hat
    dsimp only at q1 q2 q3 q4 q5 hat
    have lb:b<wr.heap.size:=World.block_lt_of_cell? _ _ q1
    have i1:(0:Int)<=(j:Int):=by omega
    have i2:(j:Int)<(q:Int):=by omega
    have hyk:=HY.out (O+j) _ (wr.alloc (.cells #[.string ek,.int .i64 et,.int .i64 es,.slice r1 r2 r3,.bool em] 63)) hat (HJ.out.1.alloc _ hJj)
    obtain⟨fn2,tmps2,assign2,body2,hy2,hR2⟩:=hyk
    clear he x1 x2 x3 x4 x5 hat
    gi_wp2
    refine⟨rfl,RoundIn.mono (F:=Fence.wide.inRound l') hR2 ?_⟩
    rintro e W2 ⟨hf2,(⟨rfl,hJ2,hk2⟩|⟨rfl,hJx2⟩)⟩
    ·have hk3:Aj Pr wr W2:=(Aj.alloc wr _).trans hk2
     have hf3:KeepsFrom V.heap.size X W2:=hkf.trans (((KeepsOthers.alloc _ _).from _).trans (EW hf2 (by omega)))
     gi_wp2
     go_roundw
     case rel=>exact⟨j+1,by omega,by go_num,hJ2,hkj.trans hk3,hkx.trans hk3,hf3⟩
     case measure=>simp[intOf];omega
    ·have hf3:KeepsFrom V.heap.size X W2:=hkf.trans (((KeepsOthers.alloc _ _).from _).trans (EW hf2 (by omega)))
     gi_wp2
     exact⟨hf3,rfl,hJx2⟩
   ·have hjq:j=q:=by omega
    subst hjq
    gi_wp2
    exact⟨hkf,hkx,by rw[HNX.out];exact hJj,hkj⟩
 case done=>
  rintro D X hD ⟨hJe,hke⟩ hK
  gi_wp2
  refine⟨by simp,.inl ⟨_,_,rfl,run_takeDeferred hK,?_⟩⟩
  have hJ2:=HJ.out.1.putObj (.deferred none) hJe (by omega) hK rfl
  rw[List.length_map,Jt,<-List.length_map (f:=fun e:EM=>#[e.val]),HE.out]at hJ2
  exact⟨_,results_none rfl _ _ _,⟨_,rfl⟩,.inl hJ2⟩
 case stop=>
  rintro D c X hD ⟨rfl,hJe⟩ hK
  gi_wp2
  refine⟨by simp,.inl ⟨_,_,rfl,run_takeDeferred hK,?_⟩⟩
  exact⟨_,results_none rfl _ _ _,⟨_,rfl⟩,.inr (HJ.out.2.putObj (.deferred none) hJe (by omega) hK rfl)⟩
end bf
namespace vl
variable {a b : UInt8}
theorem CW(l x y:List UInt8):Lib.compareBytes (l++x) (l++y)=Lib.compareBytes x y:=by
 induction l with
 |nil=>rfl
 |cons a l ih=>
  rw[List.cons_append,List.cons_append,Lib.compareBytes,if_neg (UInt8.lt_irrefl a),if_neg (UInt8.lt_irrefl a)]
  exact ih
theorem FM(x y:List UInt8)(h:a<b):Lib.compareBytes (a::x) (b::y)= -1:=by rw[Lib.compareBytes,if_pos h]
theorem FN(x y:List UInt8)(h:b<a):Lib.compareBytes (a::x) (b::y)=1:=by
 rw[Lib.compareBytes,if_neg (fun h'=>absurd (UInt8.lt_trans h h') (UInt8.lt_irrefl b)),if_pos h]
theorem fold_acc(l:List UInt8)(a:Nat):l.foldl (fun u b=>u * 256+b.toNat) a=a * 256 ^ l.length+Bm l:=by
 induction l generalizing a with
 |nil=>simp[Bm]
 |cons b l ih=>
  have e:Bm (b::l)=(b::l).foldl (fun u b=>u * 256+b.toNat) 0:=rfl
  rw[e,List.foldl_cons,List.foldl_cons,ih,ih (0 * 256+b.toNat),List.length_cons,Nat.pow_succ]
  rw[Nat.add_mul,Nat.mul_assoc,Nat.mul_comm 256,Nat.zero_mul,Nat.zero_add]
  omega
theorem Ju(b:UInt8)(l:List UInt8):Bm (b::l)=b.toNat * 256 ^ l.length+Bm l:=by
 have e:Bm (b::l)=l.foldl (fun u b=>u * 256+b.toNat) (0 * 256+b.toNat):=rfl
 rw[e,fold_acc];simp
theorem U7(l m x y:List UInt8)(h:l.length=m.length):
 Lib.compareBytes (l++x) (m++y)=if Bm l<Bm m then -1 else if Bm m<Bm l then 1 else Lib.compareBytes x y:=by
 induction l generalizing m with
 |nil=>
  cases m with
  |nil=>simp[Bm]
  |cons b m=>simp at h
 |cons a l ih=>
  cases m with
  |nil=>simp at h
  |cons b m=>
   have hl:l.length=m.length:=by simpa using h
   have b1:=F7 l
   have b2:=F7 m
   rw[List.cons_append,List.cons_append,Ju,Ju]
   rw[hl]at b1⊢
   by_cases h1:a<b
   ·have h1':a.toNat+1<=b.toNat:=UInt8.lt_iff_toNat_lt.1 h1
    have:=Nat.mul_le_mul_right (256 ^ m.length) h1'
    rw[Nat.add_mul]at this
    rw[FM _ _ h1,if_pos (by omega)]
   ·by_cases h2:b<a
    ·have h2':b.toNat+1<=a.toNat:=UInt8.lt_iff_toNat_lt.1 h2
     have:=Nat.mul_le_mul_right (256 ^ m.length) h2'
     rw[Nat.add_mul]at this
     rw[FN _ _ h2,if_neg (by omega),if_pos (by omega)]
    ·have h3:a=b:=UInt8.le_antisymm (UInt8.not_lt.1 h2) (UInt8.not_lt.1 h1)
     subst h3
     rw[Lib.compareBytes,if_neg h1,if_neg h1,ih m hl]
     simp only[Nat.add_lt_add_iff_left]
theorem FO(h:b≠0):(0:UInt8)<b:=by
 rcases Nat.eq_zero_or_pos b.toNat with h0|h0
 ·exact absurd (Hq h0) h
 ·exact UInt8.lt_iff_toNat_lt.2 h0
theorem QR(s t x y:List UInt8):
 Lib.compareBytes (Bh s++0::1::x) (Bh t++0::1::y)=if Lib.compareBytes s t=0 then Lib.compareBytes x y else Lib.compareBytes s t:=by
 induction s generalizing t with
 |nil=>
  cases t with
  |nil=>simp[Bh,Lib.compareBytes]
  |cons b t=>
   rw[C4]
   by_cases hb:b=0
   ·rw[if_pos hb];simp[Bh,Lib.compareBytes]
   ·have:=FO hb
    rw[if_neg hb];simp[Bh,Lib.compareBytes,this]
 |cons a s ih=>
  cases t with
  |nil=>
   rw[C4]
   by_cases ha:a=0
   ·rw[if_pos ha];simp[Bh,Lib.compareBytes]
   ·have:=FO ha
    have h2:¬a<0:=fun h=>absurd (UInt8.lt_trans this h) (UInt8.lt_irrefl 0)
    rw[if_neg ha];simp[Bh,Lib.compareBytes,this,h2]
  |cons b t=>
   rw[C4,C4]
   by_cases hab:a=b
   ·subst hab
    rw[List.append_assoc,List.append_assoc,CW,ih t,Lib.compareBytes,if_neg (UInt8.lt_irrefl a),if_neg (UInt8.lt_irrefl a)]
   ·by_cases h1:a<b
    ·have e:Lib.compareBytes (a::s) (b::t)= -1:=FM _ _ h1
     have hb:b≠0:=fun h=>by subst h;exact absurd (UInt8.lt_iff_toNat_lt.1 h1) (Nat.not_lt_zero _)
     rw[e,if_neg (show¬((-1:Int)=0) by decide),if_neg hb]
     by_cases ha:a=0
     ·rw[if_pos ha]
      exact FM _ _ (FO hb)
     ·rw[if_neg ha]
      exact FM _ _ h1
    ·have h2:b<a:=by
      rcases Nat.lt_trichotomy a.toNat b.toNat with h|h|h
      ·exact absurd (UInt8.lt_iff_toNat_lt.2 h) h1
      ·exact absurd (Hq h) hab
      ·exact UInt8.lt_iff_toNat_lt.2 h
     have e:Lib.compareBytes (a::s) (b::t)=1:=FN _ _ h2
     have ha:a≠0:=fun h=>by subst h;exact absurd (UInt8.lt_iff_toNat_lt.1 h2) (Nat.not_lt_zero _)
     rw[e,if_neg (show¬((1:Int)=0) by decide),if_neg ha]
     by_cases hb:b=0
     ·rw[if_pos hb]
      exact FN _ _ (FO ha)
     ·rw[if_neg hb]
      exact FN _ _ h2
theorem U8(c d:Cel):FY c d=if Cd c.k d.k=0 then(if Cd c.n d.n=0 then Lib.compareBytes c.s.data.toList d.s.data.toList else Cd c.n d.n)else Cd c.k d.k:=by
 unfold FY LQ A8 A8 A8 A8
 by_cases h1:Cd c.k d.k=0
 ·rw[if_pos h1,if_pos h1]
  by_cases h2:Cd c.n d.n=0
  ·rw[if_pos h2,if_pos h2]
   split
   ·rename_i h;exact h.symm
   ·rfl
  ·rw[if_neg h2,if_neg h2]
 ·rw[if_neg h1,if_neg h1]
theorem QS{c d:Cel}(hc:c.ok)(hd:d.ok)(wc:c.wf)(wd:d.wf)(x y:List UInt8):
 Lib.compareBytes (Cr c++x) (Cr d++y)=if FY c d=0 then Lib.compareBytes x y else FY c d:=by
 rw[U8]
 rcases encC_cases hc with⟨rfl,e⟩|⟨rfl,e⟩|⟨rfl,e⟩|⟨n,rfl,e⟩|⟨s,rfl,hs,e⟩<;>
 rcases encC_cases hd with⟨rfl,e'⟩|⟨rfl,e'⟩|⟨rfl,e'⟩|⟨m,rfl,e'⟩|⟨t,rfl,ht,e'⟩<;>
 simp only[e,e',List.cons_append,List.nil_append]
 all_goals try (rw[FM _ _ (by decide)];rfl)
 all_goals try (rw[FN _ _ (by decide)];rfl)
 ·exact CW [0] x y
 ·exact CW [1,0] x y
 ·have:=CW [1] (0::x) (1::y)
  simp only[List.cons_append,List.nil_append]at this
  rw[this,FM _ _ (by decide)];rfl
 ·have:=CW [1] (1::x) (0::y)
  simp only[List.cons_append,List.nil_append]at this
  rw[this,FN _ _ (by decide)];rfl
 ·exact CW [1,1] x y
 ·obtain⟨⟨n1,n2⟩,_⟩:=wc
  obtain⟨⟨m1,m2⟩,_⟩:=wd
  dsimp only at n1 n2 m1 m2⊢
  have:=CW [2] (be8 (n+9223372036854775808).toNat 8++x) (be8 (m+9223372036854775808).toNat 8++y)
  simp only[List.cons_append,List.nil_append]at this
  rw[this,U7 _ _ _ _ (by rw[Ek,Ek]),FV _ (by omega),FV _ (by omega)]
  have e0:Cd 2 2=0:=by decide
  rw[e0,if_pos rfl]
  unfold Cd
  by_cases h1:n<m
  ·rw[if_pos (by omega),if_pos h1];rfl
  ·rw[if_neg (by omega),if_neg h1]
   by_cases h2:m<n
   ·rw[if_pos (by omega),if_pos h2];rfl
   ·rw[if_neg (by omega),if_neg h2];rfl
 ·have:=CW [3] (Bh s.data.toList++[0,1]++x) (Bh t.data.toList++[0,1]++y)
  simp only[List.cons_append,List.nil_append,List.append_assoc]at this⊢
  rw[this,QR]
  rfl
theorem Li(a b:List Cel)(ha:∀c∈a,c.ok/\c.wf)(hb:∀c∈b,c.ok/\c.wf):Lib.compareBytes (encR a) (encR b)=AW a b:=by
 induction a generalizing b with
 |nil=>
  cases b with
  |nil=>rfl
  |cons d b=>
   have e:encR (d::b)=Cr d++encR b:=rfl
   rw[e]
   have:=Hr (hb d (List.mem_cons_self ..)).1
   cases h:Cr d with
   |nil=>exact absurd h this
   |cons z zs=>rfl
 |cons c a ih=>
  have ec:encR (c::a)=Cr c++encR a:=rfl
  have hc:=ha c (List.mem_cons_self ..)
  cases b with
  |nil=>
   rw[ec]
   cases h:Cr c with
   |nil=>exact absurd h (Hr hc.1)
   |cons z zs=>rfl
  |cons d b=>
   have ed:encR (d::b)=Cr d++encR b:=rfl
   have hd:=hb d (List.mem_cons_self ..)
   rw[ec,ed,QS hc.1 hd.1 hc.2 hd.2,ih b (fun x hx=>ha x (List.mem_cons_of_mem _ hx)) (fun x hx=>hb x (List.mem_cons_of_mem _ hx)),AW]
end vl
namespace vl
open Go.ChangeShapes Go.WideShapes Go.ChangeAt Go.RowKit
def R4:List Cel:=[⟨2, -1,⟨#[]⟩⟩,⟨3,0,⟨#[97,0]⟩⟩,⟨1,1,⟨#[]⟩⟩,⟨0,0,⟨#[]⟩⟩]
end vl
end Go.Proofs.YtdohnkkbkfhphaaGreat
