import Derived.Test.YtdohnkkbkfhphaaGreatPq22
import Derived.Test.YtdohnkkbkfhphaaGreatPq23
set_option linter.all false
set_option maxHeartbeats 8000000
set_option maxRecDepth 100000
namespace Go.Proofs.YtdohnkkbkfhphaaGreat
open Go.Proofs.Tryz
namespace gr
open Go.ChangeShapes Go.WideShapes Go.ChangeAt Go.RowKit
variable {P : Program} {ops : Array Oper} {Q : Exit -> Act -> World -> Prop} {S : World -> Prop} {a a' : Act} {w : World} {md : Region.Mode} {fuel : Nat} {listed : Array Bool} {oi : Oper}
theorem B8{id:Nat}(N:Nat)(hn:ops.size=N)(hm:P.follows .mixedOrders=true)(hS:S w.drew)
 (h:S w.drew->wpAnyH P .any ops Q S N (Array.replicate N false) a w.drew):(Code.region id ops true).wp P Q a w:=
 wp_region_held_drew hm hS (by rw[hn];exact h)
theorem A5(i:Nat)(d:Option Tmp)(hS:S w)(h:wpAnyH P md ops Q S fuel (listed.setIfInBounds i true) a' w)
 (hi:ops[i]? =some oi:=by exact rfl) (hk:(Region.noSelect ops&&(Region.free md ops listed i&&(Region.ready md ops listed).contains i))=true:=by kernel_rfl) (hd:oi.dst=d:=by exact rfl) (hw:Region.wanted oi (yielded ops a.tmps)=false:=by exact rfl) (ha:a.put d undef=a':=by(simp only[Act.put,sI,sZ,sS];exact rfl))
 (hQ:∀c a w,Q (.panic c) (a.put oi.dst undef) w->Q (.panic c) a w:=by exact fun _ _ _ h=>h):wpAnyH P md ops Q S (fuel+1) listed a w:=by
 rw[Bool.and_eq_true,Bool.and_eq_true]at hk
 exact wpAnyH_take hi hk.1 hk.2.1 hk.2.2 hQ (Or.inr ⟨hw,rfl⟩) hS (by rw[hd,ha];exact h)
theorem Ag{v:Value}(i:Nat)(d:Option Tmp)(hS:S w)(h:wpAnyH P md ops Q S fuel (listed.setIfInBounds i true) a' w)
 (hi:ops[i]? =some oi:=by exact rfl) (hk:(Region.noSelect ops&&(Region.free md ops listed i&&(Region.ready md ops listed).contains i))=true:=by kernel_rfl) (hd:oi.dst=d:=by exact rfl) (hw:Region.wanted oi (yielded ops a.tmps)=true:=by exact rfl) (hy:∀w,S w->(execOp a.eval oi).run P w= .ok (.value v) w:=by(intro w' hSw;(try dsimp only at hSw);first|(go_simp;done)|(go_simp;with_reducible rfl))) (ha:a.put d v=a':=by(simp only[Act.put,sI,sZ,sS];exact rfl))
 (hQ:∀c a w,Q (.panic c) (a.put oi.dst v) w->Q (.panic c) a w:=by exact fun _ _ _ h=>h):wpAnyH P md ops Q S (fuel+1) listed a w:=by
 rw[Bool.and_eq_true,Bool.and_eq_true]at hk
 exact wpAnyH_take hi hk.1 hk.2.1 hk.2.2 hQ (Or.inl ⟨hw,hy⟩) hS (by rw[hd,ha];exact h)
end gr
namespace jn
variable {P : Program} {a : Act} {w : World} {K : Act -> World -> Prop} {Q : Exit -> Act -> World -> Prop} {l n : Nat} {ops : Array Oper}
theorem WY{o:Oper}(hd:∀c,o.op≠ .defer c)(h:o.wp P a w K Q):o.wpIn (Fence.wide.inRound l) n P a w K Q:=by
 refine⟨fun f _=>trivial,?_⟩
 rw[Oper.semAt_eq _ _ _ hd]
 unfold Oper.wp at h
 generalize (execOp a.eval o).run P w=r at *
 cases r with
 |ok x w'=>
  cases x<;>simp only[Oper.upon,Oper.uponIn]at h⊢ <;>
   first
    |exact h
    |exact⟨fun e=>by simp[Fence.wide]at e,CallsIn.inRound l (callsIn_wide.2 h)⟩
    |exact⟨fun e=>by simp[Fence.wide]at e,fun c cs _=>let ⟨v,w',r,s⟩:=h c cs;⟨v,w',r,stepsIn_wide.2 s⟩⟩
    |exact h.elim
 |halt x w'=>cases x<;>simp only[Oper.upon,Oper.uponIn]at h⊢ <;>exact h
theorem UX{K':Act->World->Prop}{i:Nat}(hnd:∀(i:Nat) (o:Oper),ops[i]? =some o->∀c,o.op≠Op.defer c)(hnl:¬LetsOut Q)(hK:∀a w,K a w->K' a w)(h:wpOp P ops Q i K a w):wpOpIn (Fence.wide.inRound l) n P ops Q i K' a w:=by
 unfold wpOp at h
 unfold wpOpIn
 cases ho:ops[i]? with
 |none=>simp only[ho]at h⊢;exact hK _ _ h
 |some o=>
  simp only[ho]at h⊢
  split
  ·rename_i hw
   simp only[hw,if_true]at h
   rcases h with h|h
   ·exact Oper.wpIn_mono hK (WY (hnd i o ho) h)
   ·exact absurd h.2 hnl
  ·rename_i hw
   simp only[hw]at h
   exact⟨fun f _=>trivial,hK _ _ h⟩
theorem T6{P:Program}{md:Region.Mode}{ops:Array Oper}{Q:Exit->Act->World->Prop}{l n:Nat}(hnd:∀(i:Nat) (o:Oper),ops[i]? =some o->∀c,o.op≠Op.defer c)(hnl:¬LetsOut Q):∀(fuel:Nat) (listed:Array Bool) (a:Act) (w:World),wpAny P md ops Q fuel listed a w->wpAnyIn (Fence.wide.inRound l) n P md ops Q fuel listed a w
 |0,_,_,_,h=>h
 |fuel+1,_,_,_,h=>⟨h.1,fun i hi=>UX hnd hnl (fun a' w' h'=>T6 hnd hnl fuel _ a' w' h') (h.2 i hi)⟩
theorem T7{S:World->Prop}{id:Nat}(N:Nat)(hn:ops.size=N)(hm:P.follows .mixedOrders=true)(hnd:ops.toList.all (fun o=>match o.op with| .defer _=>false|_=>true)=true)(hnl:¬LetsOut Q)(hS:S w.drew)
 (h:S w.drew->wpAnyH P .any ops Q S N (Array.replicate N false) a w.drew):(Code.region id ops true).wpIn (Fence.wide.inRound l) n P Q a w:=by
 refine wpIn_region_any hm ?_
 rw[hn]
 refine T6 (fun i o ho c e=>?_) hnl _ _ _ _ (wpAny_of_held _ _ _ _ (h hS))
 have hm:o∈ops.toList:=by
  obtain⟨h1,h2⟩:=Array.getElem?_eq_some_iff.1 ho
  rw[<-h2];simp
 have:=List.all_eq_true.1 hnd o hm
 rw[e]at this
 cases this
end jn
namespace jn
open Go.ChangeShapes Go.WideShapes Go.ChangeAt Go.RowKit Go.Shelf Go.Maps
open vl bf
attribute [local go_sem] Oper.semAt_some
theorem Ry{l:List Ent}{k:Nat}(h:k<l.length):(l.take (k+1)).map (·.seq)=(l.take k).map (·.seq)++[(l.getD k default).seq]:=GK h
theorem Rz(l:List Int)(s:Int):decide ((0:Int)<((l.count s:Nat):Int))=decide (s∈l):=by
 by_cases h:s∈l
 ·have:=List.count_pos_iff.2 h
  rw[decide_eq_true h,decide_eq_true (by omega)]
 ·have:l.count s=0:=List.count_eq_zero.2 h
  rw[decide_eq_false h,this];rfl
theorem JM(b:Nat)(T:TypeId)(p:pl.Pln)(x:pl.PA)(s:Jn)(y:JX)(t:Value)(L:List CO)(side:Int)(hh:Hdr)(es:List EM)(l:List Ent)(w0 w:World)(h:JSt w0 w b T p x s y t L)(hT:calmC T)(ok:okB (Ae s side))(hs:∀z∈Ab (Ae s side),pl.i64 z.seq)(hlen:hh.2.1=l.length)(hat:Do w hh.1 es)(hels:es.length=l.length)(hsqs:∀k,k<l.length->(es.getD k default).seq=(l.getD k default).seq)(hl:l.length<=1000000)(hq:∀z∈l,pl.i64 z.seq):
 Calls Tryz.prog 272 #[.pointer (some ⟨b,0,none⟩),.int .i64 side,hdV hh] w fun e w'=>e= .returned (.tuple #[])/\∃y',JSt w0 w' b T p x (Au s side (BC (l.map (·.seq)) (Ae s side))) y' t L/\GY w w':=by
 have KB:Hid (∀w1,Calls Tryz.prog 144 #[.pointer (some ⟨b,13,none⟩),.int .i64 side] w1 fun e w'=>e= .returned (.pointer (some ⟨b,13+Ap side,none⟩))/\w'=w1):=fun w1=>Em b 13 side w1
 have HJ:Hid (JSt w0 w b T p x s y t L):=h
 have HOK:Hid (okB (Ae s side)/\∀z∈Ab (Ae s side),pl.i64 z.seq):=⟨ok,hs⟩
 have HQ:Hid (∀k,k<l.length->pl.i64 (l.getD k default).seq):=fun k hk=>hq _ (Bb hk)
 obtain⟨h1,h2,h3⟩:=hh
 dsimp only at hlen hat
 have HE:Hid (Do w h1 es/\es.length=l.length/\∀k,k<l.length->(es.getD k default).seq=(l.getD k default).seq):=⟨hat,hels,hsqs⟩
 obtain⟨ln,hln⟩:=nM l.length
 have HLN:Hid (l.length=ln):=hln
 rw[hln]at hl hlen
 subst hlen
 clear h ok hs hat hels hsqs hq hln
 unfold hdV
 dsimp only
 have hmk:=@run_makeMap Tryz.prog
 refine(callsIn_wide (n:=0)).1 ?_
 refine callsIn_of_wp_marks func272 rfl trivial ?_ rfl
 simp only[ntmps272,List.size_toArray,List.length_cons,List.length_nil,Nat.reduceAdd,Nat.reduceSub,Array.replicate_succ,Array.replicate_zero,List.push_toArray,List.append_toArray,List.nil_append,List.cons_append]
 gi_wp2
 gi_loopw [14] (fun i wr=> ∃k:Nat,k<=h2/\i= .int .i64 k/\Db wr w.heap.size k ((l.take k).map (·.seq))/\wr.cell? ⟨w.heap.size+1,0,none⟩=some (.map (some w.heap.size))/\Hid (An wr (w.heap.size+1) 187)/\Bwz w wr) (fun i _=>h2 - (intOf i).toNat)
 case atStart=>exact⟨0,Nat.zero_le _,rfl,BK (NA w) (bR.alloc nR _),by go_simp,(by have:=World.alloc_heap_new (w.alloc (.map #[] 0)) (.cells #[.map (some w.heap.size)] 187);rw[World.size_alloc]at this;exact⟨_,_,this⟩),(bR.alloc nR _).alloc (by simp) _⟩
 case round=>
  obtain⟨k,hk,rfl,hcm,hmc,HMT,hnx⟩:=hrel
  by_cases hlt:k<h2
  ·have hkl:k<l.length:=by rw[HLN.out];exact hlt
   obtain⟨gb,off,ea,x1,x2,x3,x4,x5⟩:=HE.out.1 k (by rw[HE.out.2.1];exact hkl)
   subst ea
   have q1:=cLz hnx x1
   have q2:=cLz hnx x2
   have q3:=cLz hnx x3
   have q4:=cLz hnx x4
   have q5:=cLz hnx x5
   clear x1 x2 x3 x4 x5
   have hse:(es.getD k default).seq=(l.getD k default).seq:=HE.out.2.2 k hkl
   have hqk:=HQ.out k hkl
   rw[<-hse]at hqk
   have HSN:Hid ((l.take (k+1)).map (·.seq)=(l.take k).map (·.seq)++[(es.getD k default).seq]):=by
    show _=_
    rw[hse];exact Ry hkl
   obtain⟨⟨ek,et,es1,⟨r1,r2,r3⟩,em⟩,hz⟩:∃z,es.getD k default=z:=⟨_,rfl⟩
   rw[hz]at q1 q2 q3 q4 q5 hqk HSN
   unfold hdV at q4
   dsimp only at q1 q2 q3 q4 q5 hqk HSN
   have i1:(0:Int)<=(k:Int):=by omega
   have i2:(k:Int)<(h2:Int):=by omega
   have hcm2:=BK hcm ((Below.refl wr.heap.size wr).alloc nR (.cells #[.string ek,.int .i64 et,.int .i64 es1,.slice r1 r2 r3,.bool em] 63))
   have hk0:=Dw hcm2 hqk
   have hcl:=List.count_le_length (a:=es1) (l:=(l.take k).map (·.seq))
   rw[lMp,List.length_take]at hcl
   obtain⟨X1,hup,q0,hg1⟩:=JK hcm2 hqk (by unfold maxLen;omega) (by rw[lMp,List.length_take];omega)
   have HMo:Hid (∃o:Obj,wr.heap[w.heap.size]? =some o/\o.isCells=false):=Ho hcm
   have HQ0:Hid (Db X1 w.heap.size (k+1) ((l.take (k+1)).map (·.seq))):=by
    show Db _ _ _ _
    rw[HSN.out];exact q0
   obtain⟨c,hc⟩:=nM (((l.take k).map (·.seq)).count es1)
   rw[hc]at hk0 hup hcl
   have hwr:IntKind.i64.wrap ((c:Int)+1)=(c:Int)+1:=by rw[ch.Bu];omega
   have lw:w.heap.size+1<wr.heap.size:=bLt _ _ hmc
   have hmx:X1.cell? ⟨w.heap.size+1,0,none⟩=some (.map (some w.heap.size)):=(cOb (w:=wr) (a:=⟨w.heap.size+1,0,none⟩) ((hg1.block (w.heap.size+1) (by rw[World.size_alloc];omega) (fun e=>by injection e with e;omega)).trans (Below.heap_alloc _ _ _ lw))).trans hmc
   have HMX:Hid (An X1 (w.heap.size+1) 187):=AD HMT.out ((hg1.block (w.heap.size+1) (by rw[World.size_alloc];omega) (fun e=>by injection e with e;omega)).trans (Below.heap_alloc _ _ _ lw))
   have HBX:Hid (Bwz w X1):=⟨hg1.os.trans hnx.os,hg1.tape.trans hnx.tape,hg1.output.trans hnx.output,Nat.le_trans hnx.size (Nat.le_trans (Nat.le_of_lt (by rw[World.size_alloc];exact Nat.lt_succ_self _)) hg1.size),fun g hgl=>((hg1.block g (by rw[World.size_alloc];have:=hnx.size;omega) (fun e=>by injection e with e;omega)).trans (Below.heap_alloc _ _ _ (by have:=hnx.size;omega))).trans (hnx.block g hgl)⟩
   clear hz hcm hcm2 q0 hc hse hg1
   gi_wp2
   exact⟨⟨k+1,by omega,by go_num,HQ0.out,hmx,HMX,HBX.out⟩,by simp[intOf];omega⟩
  ·have hkn:k=h2:=by omega
   have hend:(l.take k).map (·.seq)=l.map (·.seq):=by rw[hkn,<-HLN.out,List.take_length]
   rw[hend]at hcm
   have HCM:Hid (Db wr w.heap.size k (l.map (·.seq))):=hcm
   have hkf:¬((k:Int)<(h2:Int)):=by omega
   have HJR:Hid (JSt w0 wr b T p x s y t L):=HJ.out.below hnx
   obtain⟨HC0,HC1,HC2⟩:=DO HJR.out.box.join side
   have hob:OB wr w0.heap.size (Bj y side) (Ae s side):=by
    unfold Bj Ae
    split
    ·exact HJR.out.r
    ·exact HJR.out.l
   have HOB:Hid (OB wr w0.heap.size (Bj y side) (Ae s side)):=hob
   have hlt2:w.heap.size+1<wr.heap.size:=bLt _ _ hmc
   obtain⟨kk,hkk⟩:=nM (13+Ap side)
   rw[hkk]at KB HC0 HC1 HC2
   obtain⟨lim,hlim⟩:=nM ((Ae s side).lim)
   rw[hlim]at HC0
   obtain⟨BX',hBX⟩:=nM (Bj y side)
   rw[hBX]at HC1 HC2 HOB
   obtain⟨ra',rc',⟨⟨m1,m2,m3⟩,ml⟩,rs⟩:=BX'
   dsimp only at HC1 HC2
   obtain⟨n',hn'⟩:=nM rs.length
   have HN:Hid (rs.length=n'):=hn'
   rw[hn']at HC2
   have HBXe:Hid (Bj y side=⟨ra',rc',((m1,m2,m3),ml),rs⟩):=hBX
   clear hcm hob hn' hkk hlim hBX hkn hend hk
   have lb:b<wr.heap.size:=HJR.out.box.lt
   gi_wp2_with (refine⟨trivial,rfl,?_⟩;first
    |(gi_at_call 144;refine(callsIn_wide.2 (KB.out _)).mono ?_;rintro e w' ⟨rfl,rfl⟩)
    |(gi_at_call 136;refine(callsIn_wide.2 (FK _ _ _ rfl rfl rfl _)).mono ?_;rintro e w' ⟨rfl,rfl⟩))
   have V1:(w'.alloc (.cells #[.int .i64 lim,.slice m1 m2 m3,.slice ra' n' rc'] 29)).cell? ⟨w'.heap.size,1,none⟩=some (.slice m1 m2 m3):=by go_simp
   have V2:(w'.alloc (.cells #[.int .i64 lim,.slice m1 m2 m3,.slice ra' n' rc'] 29)).cell? ⟨w'.heap.size,2,none⟩=some (.slice ra' n' rc'):=by go_simp
   have V8:Bwz w' (w'.alloc (.cells #[.int .i64 lim,.slice m1 m2 m3,.slice ra' n' rc'] 29)):=bR.alloc nR _
   have T2:An (w'.alloc (.cells #[.int .i64 lim,.slice m1 m2 m3,.slice ra' n' rc'] 29)) w'.heap.size 29:=⟨_,_,World.alloc_heap_new w' _⟩
   have VM:=cLz V8 hmc
   have TM:=Af HMT.out V8
   generalize (w'.alloc (.cells #[.int .i64 lim,.slice m1 m2 m3,.slice ra' n' rc'] 29))=V at *
   have HJV:Hid (JSt w0 V b T p x s y t L):=HJR.out.below V8
   have HBV:Hid (Bwz w V):=hnx.trans (V8.mono hnx.size)
   have HCV:Hid (Db V w.heap.size k (l.map (·.seq))):=BK HCM.out V8
   have HMV:Hid (w.heap.size<V.heap.size/\w0.heap.size<=V.heap.size):=⟨Qk HCV.out,HJV.out.bl.size⟩
   have HOV:Hid (OB V w0.heap.size ⟨ra',rc',((m1,m2,m3),ml),rs⟩ (Ae s side)):=HOB.out.below V8
   obtain⟨P,hP⟩:∃z:List Part,(((m1,m2,m3),ml)::rs)=z:=⟨_,rfl⟩
   have HPP:Hid ((((m1,m2,m3),ml)::rs)=P):=hP
   obtain⟨HS,hHS⟩:∃z:List Hdr,P.map (·.1)=z:=⟨_,rfl⟩
   have HHS:Hid (P.map (·.1)=HS):=hHS
   have hit:=Gu HOB.out.at V8 w'.heap.size (Na HS) V1 (by rw[HN.out];exact V2) (EV T2 (by decide)) (fun a h0 ha=>EV (A7 HOV.out.hds (by dsimp only at ha⊢;rw[ha];rfl)) (by decide))
   obtain⟨PS,hPS⟩:=nM (partsB (Ae s side))
   have HPS:Hid (partsB (Ae s side)=PS):=hPS
   have HPL:Hid (PS.length=P.length):=by show _=_;rw[<-hPS,<-hP];have:=HOV.out.rlen;dsimp only at this;simp[partsB,this]
   have HSP:Hid (∀i,i<PS.length->(PS.getD i []).length<=9223372036854775807):=fun i hi=>by
    have:=(HOK.out.1.small).1 (PS.getD i []) (by rw[hPS];exact Bb hi)
    omega
   have HSQ:Hid (∀i j,i<PS.length->j<(PS.getD i []).length->pl.i64 ((PS.getD i []).getD j default).seq):=fun i j hi hj=>HOK.out.2 _ (by unfold Ab;rw[hPS];exact List.mem_flatten.2 ⟨PS.getD i [],Bb hi,Bb hj⟩)
   obtain⟨qs,hqs⟩:=nM (l.map (·.seq))
   have HQS:Hid (l.map (·.seq)=qs):=hqs
   rw[hqs]at HCV
   have HST0:Hid (NSt w0 V V w0.heap.size HS (BV (metE qs) PS 0)):=by
    show NSt _ _ _ _ _ _
    rw[<-hPS,<-hHS,<-hP];exact QP HOV.out HJV.out.bl
   dsimp only at hit
   rw[hP]at hit
   have hHL:HS.length=P.length:=by rw[<-hHS,lMp]
   clear hPS hP hHS hqs V1 V2 T2 HCM HJR HOB hmc HMT KB HC0 HC1 HC2
   refine Cq (gf:=180) (lb:=#[.pointer (some ⟨w'.heap.size,0,none⟩)]) rfl (enters_of func180 (by kernel_rfl) rfl) hit bR (fun x hx=>by obtain⟨p,_,rfl⟩:=List.mem_map.1 hx;rfl) (fun h k=>Aj.trans h k) (fun W l o o' _ h ho=>Aj.put W l o o' h ho)
    (fun i X=>NSt w0 V X w0.heap.size HS (BV (metE qs) PS i)/\Db X w.heap.size k qs) (fun c X=>False)
    (fun i X X' row hs hg hr=>⟨hs.1.row (by have:=HMV.out.2;omega) hg hr,Iv hs.2 hg (fun e=>by have:=(hr _ e.symm).1;have:=HMV.out.1;omega)⟩)
    (fun c X X' row hs hg hr=>hs)
    ⟨HST0.out,HCV.out⟩
    (fun i a' X=>a'={tmps:=#[.pointer (some ⟨b,0,none⟩),.int .i64 side,.slice h1 h2 h3,undef,undef,undef,.pointer (some ⟨w.heap.size+1,0,none⟩),undef,u8,hdV (P.getD i default).1,undef,.map (some w.heap.size),.slice h1 h2 h3,.int .i64 h2,.int .i64 k,.bool false,u16,u17,u18,u19,u20,u21,u22,u23,.pointer (some ⟨b,0,none⟩),.pointer (some ⟨b,0,none⟩),.pointer (some ⟨b,13,none⟩),.int .i64 side,.pointer (some ⟨b,kk,none⟩),.pointer (some ⟨b,kk,none⟩),.agg #[.int .i64 lim,.slice m1 m2 m3,.slice ra' n' rc'],.func (.func 180) #[] #[.pointer (some ⟨w'.heap.size,0,none⟩)],hdV (P.getD i default).1,undef,undef,undef,undef,undef,undef,undef,undef,undef,undef,undef,undef,undef,undef,undef,undef,undef,undef,undef,undef,undef,undef,undef,undef,undef],defers:=[]})
    (fun i a' u X X' row hs hg hr=>hs) ?assign ?body ?done ?stop
   case assign=>
    intro l' k1 x1 X K hx hi hK
    obtain⟨hk,hxe⟩:=List.getElem?_eq_some_iff.1 hx
    rw[lMp]at hk
    rw[List.getElem_map]at hxe
    subst hxe
    have hd:P.getD k1 default=P[k1]:=by rw[gDe,gEe hk];rfl
    have hK2:=fun W' h1 h2 h3=>hK _ W' h1 h2 h3 rfl
    rw[hd]at hK2
    clear hK hd hx
    obtain⟨⟨⟨z1,z2,z3⟩,zl⟩,hz⟩:∃z,P[k1]=z:=⟨_,rfl⟩
    rw[hz]at hK2⊢
    unfold hdV at hK2⊢
    dsimp only at hK2⊢
    gi_wp2
    exact hK2 X (KeepsFrom.refl _ _) (Aj.refl _ _) hi
   case body=>
    intro l' i x1 a' X hx hl' hrec hIi hax
    obtain⟨hIi,hcX⟩:=hIi
    obtain⟨hi,hxe⟩:=List.getElem?_eq_some_iff.1 hx
    rw[lMp]at hi
    have hd:P.getD i default=P[i]:=by rw[gDe,gEe hi];rfl
    have hHd:HS.getD i hd0=(P[i]).1:=by rw[<-HHS.out,gDe,List.getElem?_map,gEe hi];rfl
    rw[hd]at hax
    subst hax
    have hlen:=hIi.hlen (by rw[hHL];exact hi) (by rw[HPL.out,hHL])
    have hsp:=HSP.out i (by rw[HPL.out];exact hi)
    clear hx hxe hd
    obtain⟨⟨⟨z1,z2,z3⟩,zl⟩,hz⟩:∃z,P[i]=z:=⟨_,rfl⟩
    rw[hz]at hHd⊢
    rw[hHd]at hlen
    dsimp only at hHd hlen⊢
    obtain⟨q,hq⟩:∃q,(PS.getD i []).length=q:=⟨_,rfl⟩
    have HQL:Hid ((PS.getD i []).length=q):=hq
    rw[hq]at hlen hsp
    subst hlen
    have HHD:Hid (HS.getD i hd0=(z1,z2,z3)):=hHd
    have HI1:Hid (i<HS.length):=by show _<_;rw[hHL];exact hi
    have HI2:Hid (i<PS.length):=by show _<_;rw[HPL.out];exact hi
    have HI3:Hid (PS.length=HS.length):=by show _=_;rw[HPL.out,hHL]
    have HM0:Hid (NSt w0 V X w0.heap.size HS (BV (metE qs) PS i)):=hIi
    have HC0:Hid (Db X w.heap.size k qs):=hcX
    unfold hdV
    dsimp only
    clear hz hq hHd hIi hi hcX
    gi_wp2
    gi_loopw [35] (fun t wr=> ∃j:Nat,j<=z2/\t= .int .i64 j/\NSt w0 V wr w0.heap.size HS (doneD (metE qs) PS i j)/\Db wr w.heap.size k qs/\Aj (Na HS) X wr/\KeepsFrom V.heap.size X wr) (fun t _=>z2 - (intOf t).toNat)
    case atStart=>exact⟨0,Nat.zero_le _,rfl,by rw[OA HI2.out];exact HM0.out,HC0.out,Aj.refl _ _,KeepsFrom.refl _ _⟩
    case round=>
     obtain⟨j,hj,rfl,hmj,hcj,hkx,hkf⟩:=hrel
     have HMJ:Hid (NSt w0 V wr w0.heap.size HS (doneD (metE qs) PS i j)):=hmj
     have c6:=hmj.ko.cell (EV TM (by decide)) VM
     by_cases hjl:j<z2
     ·have hj2:j<(PS.getD i []).length:=by rw[HQL.out];exact hjl
      obtain⟨g,e,hg,x3,x5,x6,hes,hem⟩:=hmj.read HI1.out HI3.out hj2
      rw[HHD.out]at hg
      injection hg with hg1 hg2
      clear hg2
      have HG:Hid ((HS.getD i hd0).1=some ⟨g,0,none⟩):=by show _=_;rw[HHD.out];exact hg1
      have hsq:=HSQ.out i j HI2.out hj2
      rw[hes]at hsq
      have hlk:=Dw hcj hsq
      have HPUT:Hid (∀Y,Bwz wr Y->NSt w0 V (Y.setCell ⟨g,j * 5+4,none⟩ (.bool (e.met||decide (e.seq∈qs)))) w0.heap.size HS (doneD (metE qs) PS i (j+1))/\Aj (Na HS) Y (Y.setCell ⟨g,j * 5+4,none⟩ (.bool (e.met||decide (e.seq∈qs))))):=fun Y hb=>(HMJ.out.below hb).put nR HI1.out HI3.out hj2 HG.out (by rw[hem];exact cLz hb x5) (by rw[hem,hes])
      have HTG:Hid (An wr g 63):=by
       obtain⟨ess,ho⟩:=hmj.op
       have hok:=ho.oe i HI1.out
       refine A7 hok.own ?_
       rw[HHD.out,hg1];rfl
      have HCS:Hid (∀Y v,Bwz wr Y->Db (Y.setCell ⟨g,j * 5+4,none⟩ v) w.heap.size k qs):=fun Y v hb=>L3 (BK hcj hb) (heap_setCell_other _ _ _ _ (fun e2=>by
       dsimp only at e2
       obtain⟨o,h1,h2⟩:=Ho hcj
       obtain⟨c,f,h3⟩:=HTG.out
       rw[e2,h3]at h1
       cases h1
       cases h2))
      have hg1':=hg1.symm
      subst hg1'
      obtain⟨ek,et,es1,⟨r1,r2,r3⟩,em⟩:=e
      dsimp only at hlk HPUT x3 x5 x6 hsq
      have lg:g<wr.heap.size:=bLt _ _ x3
      have i1:(0:Int)<=(j:Int):=by omega
      have i2:(j:Int)<(z2:Int):=by omega
      have hmx:Tryz.prog.follows .mixedOrders=true:=by kernel_rfl
      obtain⟨B,hB⟩:=nM (decide (es1∈qs))
      have hgt:∀t,binOp .gtr t (.int .i64 ((qs.count es1:Nat):Int)) (.int .i64 0)=pure (.bool B):=pl.EA B (by rw[<-hB,<-Rz])
      rw[hB]at HPUT
      obtain⟨cn,hcn⟩:=nM (qs.count es1)
      rw[hcn]at hlk hgt
      have HLK:Hid (∀Y,Db Y w.heap.size k qs->(Instr.lookup 187 (.map (some w.heap.size)) (.int .i64 es1) false).run Tryz.prog Y= .ok (.int .i64 cn) Y):=fun Y hc=>by
       have:=Dw hc hsq
       rw[hcn]at this
       exact this
      have HCJ:Hid (Db wr w.heap.size k qs):=hcj
      have HGM:Hid (g≠w.heap.size+1):=tyAt_apart HTG.out (AD TM (hmj.ko.block (EV TM (by decide)) VM)) (by decide)
      clear hmj hg1 hj2 HG hes hem hcj hB hcn HTG
      have HS0:Hid (∀Y,Bwz wr Y->Y.cell? ⟨g,j * 5+2,none⟩=some (.int .i64 es1)/\Y.cell? ⟨w.heap.size+1,0,none⟩=some (.map (some w.heap.size))/\(Instr.lookup 187 (.map (some w.heap.size)) (.int .i64 es1) false).run Tryz.prog Y= .ok (.int .i64 cn) Y):=fun Y hb=>⟨cLz hb x3,cLz hb c6,HLK.out _ (BK HCJ.out hb)⟩
      have HS1:Hid (∀Y v,Bwz wr Y->(Y.setCell ⟨g,j * 5+4,none⟩ v).cell? ⟨g,j * 5+2,none⟩=some (.int .i64 es1)/\(Y.setCell ⟨g,j * 5+4,none⟩ v).cell? ⟨w.heap.size+1,0,none⟩=some (.map (some w.heap.size))/\(Instr.lookup 187 (.map (some w.heap.size)) (.int .i64 es1) false).run Tryz.prog (Y.setCell ⟨g,j * 5+4,none⟩ v)= .ok (.int .i64 cn) (Y.setCell ⟨g,j * 5+4,none⟩ v)):=fun Y v hb=>⟨(World.cell?_setCell_other _ _ _ _ (fun e2=>by injection e2 with _ e2;omega)).trans (cLz hb x3),(World.cell?_setCell_other _ _ _ _ (fun e2=>by injection e2 with e2 _;exact HGM.out e2)).trans (cLz hb c6),HLK.out _ (HCS.out Y v hb)⟩
      clear hlk
      cases em with
      |true=>
       rw[Bool.true_or]at HPUT
       gi_wp2
       refine T7 20 rfl hmx (by kernel_rfl) (fun⟨_,_,h⟩=>h) (S:=fun w'=>w'.cell? ⟨g,j * 5+2,none⟩=some (.int .i64 es1)/\w'.cell? ⟨w.heap.size+1,0,none⟩=some (.map (some w.heap.size))/\(Instr.lookup 187 (.map (some w.heap.size)) (.int .i64 es1) false).run Tryz.prog w'= .ok (.int .i64 cn) w') (HS0.out _ bR.drew) (fun hHz=>?_)
       refine tkz 0 38 hHz ?_;refine tkz 1 39 hHz ?_;refine tkz 2 40 hHz ?_;refine tkz 3 41 hHz ?_;refine tkz 4 42 hHz ?_;refine tkz 5 43 hHz ?_
       refine wpAnyH_ready (rs:=[6]) (by kernel_rfl) (by simp) ?_
       refine AllReadyH.cons rfl (fun K hK=>?_) AllReadyH.nil
       go_simp
       refine hK.out _ _ hHz (fun hHz=>?_)
       clear hK K
       try simp only[Act.put,sI,sZ,sS]
       refine tkz 7 45 hHz ?_;refine sk 8 46 hHz ?_;refine sk 9 47 hHz ?_;refine sk 10 48 hHz ?_;refine sk 11 49 hHz ?_;refine sk 12 50 hHz ?_;refine sk 13 51 hHz ?_;refine sk 14 52 hHz ?_;refine sk 15 53 hHz ?_;refine tkz 16 54 hHz ?_;refine tkz 17 55 hHz ?_;refine tkz 18 56 hHz ?_
       refine wpAnyH_ready (rs:=[19]) (by kernel_rfl) (by simp) ?_
       refine AllReadyH.cons rfl (fun K hK=>?_) AllReadyH.nil
       go_simp
       refine hK.out _ _ (HS1.out _ _ bR.drew) (fun hHz=>?_)
       clear hK K
       refine wpAnyH_done (by kernel_rfl) ?_ _
       gi_wp2
       exact⟨⟨j+1,by omega,by go_num,(HPUT.out _ bR).1.below bR.drew,BK (HCS.out _ _ bR) bR.drew,hkx.trans ((HPUT.out _ bR).2.trans (JJ bR.drew)),hkf.trans (((KeepsOthers.setCell _ _ _).from _).trans (Bs bR.drew))⟩,by simp[intOf];omega⟩
      |false=>
       rw[Bool.false_or]at HPUT
       gi_wp2
       refine T7 20 rfl hmx (by kernel_rfl) (fun⟨_,_,h⟩=>h) (S:=fun w'=>w'.cell? ⟨g,j * 5+2,none⟩=some (.int .i64 es1)/\w'.cell? ⟨w.heap.size+1,0,none⟩=some (.map (some w.heap.size))/\(Instr.lookup 187 (.map (some w.heap.size)) (.int .i64 es1) false).run Tryz.prog w'= .ok (.int .i64 cn) w') (HS0.out _ bR.drew) (fun hHz=>?_)
       refine tkz 0 38 hHz ?_;refine tkz 1 39 hHz ?_;refine tkz 2 40 hHz ?_;refine tkz 3 41 hHz ?_;refine tkz 4 42 hHz ?_;refine tkz 5 43 hHz ?_
       refine wpAnyH_ready (rs:=[6]) (by kernel_rfl) (by simp) ?_
       refine AllReadyH.cons rfl (fun K hK=>?_) AllReadyH.nil
       go_simp
       refine hK.out _ _ hHz (fun hHz=>?_)
       clear hK K
       try simp only[Act.put,sI,sZ,sS]
       refine tkz 7 45 hHz ?_;refine tkz 8 46 hHz ?_;refine tkz 9 47 hHz ?_;refine tkz 10 48 hHz ?_;refine tkz 11 49 hHz ?_;refine tkz 12 50 hHz ?_;refine tkz 13 51 hHz ?_;refine tkz 14 52 hHz ?_;refine tkz 15 53 hHz ?_;refine tkz 16 54 hHz ?_;refine tkz 17 55 hHz ?_;refine tkz 18 56 hHz ?_
       refine wpAnyH_ready (rs:=[19]) (by kernel_rfl) (by simp) ?_
       refine AllReadyH.cons rfl (fun K hK=>?_) AllReadyH.nil
       go_simp
       refine hK.out _ _ (HS1.out _ _ bR.drew) (fun hHz=>?_)
       clear hK K
       refine wpAnyH_done (by kernel_rfl) ?_ _
       gi_wp2
       exact⟨⟨j+1,by omega,by go_num,(HPUT.out _ bR).1.below bR.drew,BK (HCS.out _ _ bR) bR.drew,hkx.trans ((HPUT.out _ bR).2.trans (JJ bR.drew)),hkf.trans (((KeepsOthers.setCell _ _ _).from _).trans (Bs bR.drew))⟩,by simp[intOf];omega⟩
     ·have hje:j=z2:=by omega
      have HMN:Hid (NSt w0 V wr w0.heap.size HS (BV (metE qs) PS (i+1))/\Db wr w.heap.size k qs):=by
       refine⟨?_,hcj⟩
       rw[<-QO HI2.out,HQL.out,<-hje];exact hmj
      have hjn:¬((j:Int)<(z2:Int)):=by omega
      clear hmj hcj
      gi_wp2
      exact⟨hkf,hkx,HMN.out⟩
   case done=>
    rintro D X hD hme hK
    have HME:Hid (NSt w0 V X w0.heap.size HS (BV (metE qs) PS P.length)):=by
     show NSt _ _ _ _ _ _
     rw[lMp]at hme;exact hme.1
    clear hme
    gi_wp2
    refine⟨by simp,.inl ⟨_,_,rfl,run_takeDeferred hK,?_⟩⟩
    have hn:=HME.out.rec_put hK rfl (by have:=HMV.out.2;omega) (.deferred none)
    rw[<-HPL.out,<-HHS.out,<-HPP.out,<-HPS.out,O9]at hn
    refine⟨.tuple #[],(by simp[results,results272,go_sem]),rfl,?_⟩
    rw[HQS.out]
    have hzz:V.heap.size<=(X.putObj D (.deferred none)).heap.size:=by have h1:=(Array.getElem?_eq_some_iff.1 hK).1;simp;omega
    obtain⟨y',hy'⟩:=JSt.met HJV.out hT side qs (by rw[HBXe.out];exact hn) hzz
    exact⟨y',hy',S9 HJ.out HBV.out hn hzz⟩
   case stop=>
    rintro D c X hD h hK
    exact h.elim
theorem Ph(b:Nat)(T:TypeId)(p:pl.Pln)(x:pl.PA)(s:Jn)(y:JX)(t:Value)(L:List CO)(side:Int)(hh:Hdr)(es:List EM)(l:List Ent)(base:Nat)(w0 w:World)(h:JSt w0 w b T p x s y t L)(hT:calmC T)(ok:okB (Ae s side))(hs:∀z∈Ab (Ae s side),pl.i64 z.seq)(ho:OE w base (hdV hh) es l)(hl:l.length<=1000000)(hq:∀z∈l,pl.i64 z.seq):
 Calls Tryz.prog 272 #[.pointer (some ⟨b,0,none⟩),.int .i64 side,hdV hh] w fun e w'=>e= .returned (.tuple #[])/\∃y',JSt w0 w' b T p x (Au s side (BC (l.map (·.seq)) (Ae s side))) y' t L/\GY w w':=
 have hp:=Cf (p:=(hh,es)) ho
 JM b T p x s y t L side hh es l w0 w h hT ok hs (by rw[<-ho.len];exact hp.1.1) hp.2 ho.len (fun k hk=>(ho.rows k hk).seq) hl hq
end jn
end Go.Proofs.YtdohnkkbkfhphaaGreat
