import Derived.Test.YtdohnkkbkfhphaaGreatPq18
import Derived.Deep.Onto
import Derived.Test.YtdohnkkbkfhphaaGreatPq17
set_option linter.all false
set_option maxHeartbeats 8000000
set_option maxRecDepth 100000
namespace Go.Proofs.YtdohnkkbkfhphaaGreat
open Go.Proofs.Tryz
namespace ch
open Go.ChangeShapes Go.WideShapes Go.ChangeAt Go.RowKit Go.Maps Go.WideMaps
open vl
variable {w w' w1 w2 : World} {C base g n size : Nat} {e : TypeId} {v : Value} {xs : List Value} {o row : Option Nat}
theorem Jh:(Tryz.prog.info? 177).map (fun i=>(i.zero,i.size,i.bytes))=some (some (.agg #[.slice none 0 0,.int .i64 0]),2,32):=by kernel_rfl
theorem EH(r:List Cel)(k:ByteArray)(w:World)(h:rowOk r)(hk:encR r=k.data.toList)(hl:k.size<=maxLen):
 Calls Tryz.prog 134 #[.string k] w fun e w'=>(∃ad cap,e= .returned (.slice ad r.length cap)/\AM w' w.heap.size (.slice ad r.length cap) r)/\Bwz w w':=by
 obtain⟨n,hn⟩:∃n,r.length=n:=⟨_,rfl⟩
 have KB:=Np k r w hl h hk
 rw[hn]at KB⊢
 clear hn
 go_enter func134,ntmps134
 go_wp2_with fail
 refine KB.mono ?_
 rintro e w1 ⟨⟨ad,cap,rfl,ho⟩,hb⟩
 go_wp2
 go_ret
 exact⟨⟨ad,cap,rfl,ho⟩,hb⟩
theorem own_below(h:w.ownsRow base e size v n xs)(hb:Bwz w w'):w'.ownsRow base e size v n xs:=by
 refine⟨h.1,?_⟩
 rcases h.2 with h0|⟨g,cap,cur,hv,h1,hg,h2⟩
 ·exact .inl h0
 ·have hlt:g<w.heap.size:=by
   rcases Nat.lt_or_ge g w.heap.size with hlt|hge
   ·exact hlt
   ·rw[Array.getElem?_eq_none hge]at hg;cases hg
  exact .inr ⟨g,cap,cur,hv,h1,by rw[hb.block g hlt];exact hg,h2⟩
def flat(l:List (Value×Int)):List Value:=l.flatMap fun p=>[p.1,.int .i64 p.2]
theorem Ib(l:List (Value×Int))(x:Value)(n:Int):flat (l++[(x,n)])=flat l++[x,.int .i64 n]:=by
 unfold flat;rw[List.flatMap_append];simp
theorem Sz{ops:Array Oper}{o:Oper}{a:Act}{K:Act->World->Prop}{Q:Exit->Act->World->Prop}{E:Prop}(hgd:o.guard=none)(s x:Operand)
 (hop:o.op= .call {callee:=.builtin .append,args:=#[s,x],argTypes:=#[74,74]})
 (base:Nat) (v:Value) (l:List (Value×Int)) (n:Int) (ad:Option Addr) (rl cap:Nat) (w1:World) (ln:Nat) (hln:l.length=ln) (ho:w1.ownsRow base 177 2 v ln (flat l)) (hl:ln<=1000000) (hb:base<=w1.heap.size)
 (hs:a.eval s=v) (hx:a.eval x= .slice (some ⟨w1.heap.size,0,none⟩) 1 1)
 (h:∀g cap2 w2,w2.ownsRow base 177 2 (.slice (some ⟨g,0,none⟩) (ln+1) cap2) (ln+1) (flat (l++[(.slice ad rl cap,n)]))->(w1.alloc (.cells #[.slice ad rl cap,.int .i64 n] 177)).grownBy w2 v.ownBlock->(v.ownBlock=some g\/g=w1.heap.size+1)->g<w2.heap.size->K (a.put o.dst (.slice (some ⟨g,0,none⟩) (ln+1) cap2)) w2):
 if Region.wanted o (yielded ops a.tmps)=true then Oper.wp Tryz.prog o a (w1.alloc (.cells #[.slice ad rl cap,.int .i64 n] 177)) K Q else E:=by
 obtain⟨i0,hi,hz0,hz1,hz2⟩:=info_parts Jh
 refine step_append_lies _ hgd s x 74 hop base 177 i0 (.agg #[.slice none 0 0,.int .i64 0]) 2 32 underlying74 hi hz0 hz1 hz2 rfl (by decide) v ln (flat l) hs
  (ho.alloc _) ⟨w1.heap.size,0,none⟩ 1 1 [.slice ad rl cap,.int .i64 n] hx rfl (cell_two_new _ _ _ _) (by intro u hu;simp at hu;rcases hu with rfl|rfl<;>rfl) (by decide) (by unfold maxLen;omega) (by omega) (by simp;omega) (w1.heap.size+1) (by simp) ?_
 intro g cap2 w2 h2 h3 h4 h5
 exact h g cap2 w2 (by rw[Ib];exact h2) h3 h4 h5
theorem MU{o:Obj}(hg:(w1.alloc o).grownBy w2 row)(hc:w1.cell? ⟨C,0,none⟩=some v)(hne:row≠some C):w2.cell? ⟨C,0,none⟩=some v:=by
 have hlt:=bLt _ _ hc
 refine hg.cell ?_ (fun h=>hne h.symm)
 rw[World.cell?_alloc_lt]
 ·exact hc
 ·exact hlt
theorem Ji{o:Obj}(hg:(w1.alloc o).grownBy w2 row)(hc:w1.cell? ⟨C,0,none⟩=some v)(hne:row≠some C)(hf:w1.frozen? ⟨C,0,none⟩=false):w2.frozen? ⟨C,0,none⟩=false:=by
 have hlt:=bLt _ _ hc
 have hlt':C<w1.heap.size:=hlt
 rw[hg.frozen_far ⟨C,0,none⟩ (by simp;omega) (fun h=>hne h.symm)]
 have hb:=((Below.refl w1.heap.size w1).alloc nR o).frozen (p:=⟨C,0,none⟩) hlt'
 exact hb.trans hf
theorem S0(C base:Nat)(k:ByteArray)(n:Int)(v:Value)(l:List (Value×Int))(r:List Cel)(w:World)(hc:w.cell? ⟨C,0,none⟩=some v)(hf:w.frozen? ⟨C,0,none⟩=false)
 (ho:w.ownsRow base 177 2 v l.length (flat l)) (hCv:v.ownBlock≠some C) (hl:l.length<=1000000) (hb:base<=w.heap.size) (hr:rowOk r) (hk:encR r=k.data.toList) (hkl:k.size<=maxLen):
 Calls Tryz.prog 133 #[.string k,.int .i64 n,.pointer (some ⟨C,0,none⟩)] w fun e w'=>e= .returned (.tuple #[])/\∃w1 w2 ad cap g cap2,
  Below w.drew.heap.size w.drew w1/\AM w1 w.heap.size (.slice ad r.length cap) r/\w2.ownsRow base 177 2 (.slice (some ⟨g,0,none⟩) (l.length+1) cap2) (l.length+1) (flat (l++[(.slice ad r.length cap,n)]))/\
  (w1.alloc (.cells #[.slice ad r.length cap,.int .i64 n] 177)).grownBy w2 v.ownBlock/\(v.ownBlock=some g\/g=w1.heap.size+1)/\w'=w2.setCell ⟨C,0,none⟩ (.slice (some ⟨g,0,none⟩) (l.length+1) cap2):=by
 have hclt:=bLt _ _ hc
 have HF:=EH r k w.drew hr hk hkl
 obtain⟨rl,hrl⟩:∃x,r.length=x:=⟨_,rfl⟩
 have HRL:Hid (r.length=rl):=hrl
 rw[hrl]at HF
 obtain⟨ln,hln⟩:∃x,l.length=x:=⟨_,rfl⟩
 have HLN:Hid (l.length=ln):=hln
 rw[hln]at ho hl
 obtain⟨i0,hi,hz0,hz1,hz2⟩:=info_parts Jh
 have HI:Hid (Tryz.prog.info? 177=some i0/\i0.zero=some (.agg #[.slice none 0 0,.int .i64 0])/\i0.size=2/\i0.bytes=32):=⟨hi,hz0,hz1,hz2⟩
 have HFF:Hid (Calls Tryz.prog 134 #[.string k] w.drew fun e w'=>(∃ad cap,e= .returned (.slice ad rl cap)/\AM w' w.drew.heap.size (.slice ad rl cap) r)/\Below w.drew.heap.size w.drew w'):=HF
 have HO:Hid (w.drew.ownsRow base 177 2 v ln (flat l)):=ho.drew
 clear HF hrl hln hi hz0 hz1 hz2 ho
 go_enter func133,ntmps133
 go_wp2
 go_region_law (first
  |(refine Sz (by rfl) (.tmp 5) (.tmp 10) (by rfl) base v l n ad rl cap w1 ln HLN.out HO1.out hl (Nat.le_trans hb hb1.size) (by rfl) (by rfl) ?_;intro g cap2 w2 hown2 hgrow2 hat2 hlt2;have hc2:w2.cell? ⟨C,0,none⟩=some v:=MU hgrow2 hc1 hCv;have hf2:w2.frozen? ⟨C,0,none⟩=false:=Ji hgrow2 hc1 hCv ((hb1.frozen (p:=⟨C,0,none⟩) hclt).trans hf))
  |(go_simp;go_at_call 134;refine HFF.out.mono ?_;rintro e w1 ⟨⟨ad,cap,rfl,hov⟩,hb1⟩;have hc1:w1.cell? ⟨C,0,none⟩=some v:=cLz hb1 hc;have hc1a:∀o,(w1.alloc o).cell? ⟨C,0,none⟩=some v:=fun o=>cLz (bR.alloc nR o) hc1;have HO1:Hid (w1.ownsRow base 177 2 v ln (flat l)):=own_below HO.out hb1))
 all_goals
  go_wp2
  go_end0
  refine⟨rfl,w1,w2,ad,cap,g,cap2,hb1,?_,?_,?_,hat2,?_⟩
  ·rw[HRL.out];exact hov
  ·rw[HLN.out,HRL.out];exact hown2
  ·rw[HRL.out];exact hgrow2
  ·rw[HLN.out]
theorem A2(h:w.ownsRow base e size v n xs)(hb:∀g,v.ownBlock=some g->w'.heap[g]? =w.heap[g]?):w'.ownsRow base e size v n xs:=by
 refine⟨h.1,?_⟩
 rcases h.2 with h0|⟨g,cap,cur,hv,h1,hg,h2⟩
 ·exact .inl h0
 ·exact .inr ⟨g,cap,cur,hv,h1,by rw[hb g (by rw[hv];rfl)];exact hg,h2⟩
structure fr(C:Nat)(o:Option Nat)(w w':World):Prop where
 os:w'.os=w.os
 tape:w'.tape=w.tape
 output:w'.output=w.output
 size:w.heap.size<=w'.heap.size
 block:∀b,b<w.heap.size->b≠C->o≠some b->w'.heap[b]? =w.heap[b]?
theorem S1{B:Nat}{a:World}(h:Below B a w)(k:fr C o w w')(hC:B<=C)(ho:∀b,o=some b->B<=b)(hB:B<=w.heap.size):Below B a w':=
 h.trans ⟨k.os,k.tape,k.output,k.size,fun b hb=>k.block b (by omega) (by omega) (fun e=>by have:=ho b e;omega)⟩
theorem S2(h:Bwz w w'):fr C o w w':=⟨h.os,h.tape,h.output,h.size,fun b hb _ _=>h.block b hb⟩
theorem MV{o2:Option Nat}(h:fr C o w w1)(k:fr C o2 w1 w2)(ho:o2=o\/∃g,o2=some g/\w.heap.size<=g):fr C o w w2:=
 ⟨k.os.trans h.os,k.tape.trans h.tape,k.output.trans h.output,Nat.le_trans h.size k.size,fun b hb hC hne=>by
  have h1:=h.block b hb hC hne
  rw[<-h1]
  refine k.block b (Nat.lt_of_lt_of_le hb h.size) hC ?_
  rcases ho with rfl|⟨g,rfl,hg⟩
  ·exact hne
  ·intro e;cases e;omega⟩
theorem Uz(h:fr C o w w'){p:Addr}(hp:p.block<w.heap.size)(hC:p.block≠C)(ho:o≠some p.block):w'.cell? p=w.cell? p:=cOb (w:=w) (h.block p.block hp hC ho)
structure VS(w:World)(C base:Nat)(v:Value)(out:List Cnt):Prop where
 cell:w.cell? ⟨C,0,none⟩=some v
 frz:w.frozen? ⟨C,0,none⟩=false
 apart:v.ownBlock≠some C
 low:base<=w.heap.size
 rows:∃l:List (Value×Int),l.length=out.length/\w.ownsRow base 177 2 v l.length (flat l)/\∀i,i<out.length->
  (l.getD i (.bool false,0)).2=(out.getD i default).n/\∃ad cap,(l.getD i (.bool false,0)).1= .slice ad (out.getD i default).r.length cap/\AM w base (.slice ad (out.getD i default).r.length cap) (out.getD i default).r/\
   ∀g,(Value.slice ad (out.getD i default).r.length cap).ownBlock=some g->g≠C/\v.ownBlock≠some g
theorem AG(h:w.ownsRow base e size v n xs)(hg:v.ownBlock=some g):base<=g/\g<w.heap.size:=World.ownsRow.lt h g hg
theorem GT{α:Type}(l:List α)(x d:α)(i:Nat)(h:i<l.length):(l++[x]).getD i d=l.getD i d:=by
 simp only[gDe,List.getElem?_append_left h]
theorem GU{α:Type}(l:List α)(x d:α)(i:Nat)(h:i=l.length):(l++[x]).getD i d=x:=by
 subst h;simp[gDe]
theorem U0{out:List Cnt}{l:List (Value×Int)}{r:List Cel}{n:Int}{ad:Option Addr}{cap cap2:Nat}(h:VS w C base v out)
 (hll:l.length=out.length) (hlo:w.ownsRow base 177 2 v l.length (flat l)) (hlr:∀i,i<out.length->
 (l.getD i (.bool false,0)).2=(out.getD i default).n/\∃ad cap,(l.getD i (.bool false,0)).1= .slice ad (out.getD i default).r.length cap/\AM w base (.slice ad (out.getD i default).r.length cap) (out.getD i default).r/\
  ∀g,(Value.slice ad (out.getD i default).r.length cap).ownBlock=some g->g≠C/\v.ownBlock≠some g)
 (hb1:Below w.drew.heap.size w.drew w1) (hov:AM w1 w.heap.size (.slice ad r.length cap) r) (hown2:w2.ownsRow base 177 2 (.slice (some ⟨g,0,none⟩) (l.length+1) cap2) (l.length+1) (flat (l++[(.slice ad r.length cap,n)])))
 (hg2:(w1.alloc (.cells #[.slice ad r.length cap,.int .i64 n] 177)).grownBy w2 v.ownBlock) (hat:v.ownBlock=some g\/g=w1.heap.size+1):
 VS (w2.setCell ⟨C,0,none⟩ (.slice (some ⟨g,0,none⟩) (l.length+1) cap2)) C base (.slice (some ⟨g,0,none⟩) (l.length+1) cap2) (out++[⟨r,n⟩])/\fr C v.ownBlock w (w2.setCell ⟨C,0,none⟩ (.slice (some ⟨g,0,none⟩) (l.length+1) cap2)):=by
 have hClt:C<w.heap.size:=bLt _ _ h.cell
 have hs1:w.heap.size<=w1.heap.size:=hb1.size
 have hs2:w1.heap.size+1<=w2.heap.size:=by have:=hg2.size;simpa using this
 have hc1:w1.cell? ⟨C,0,none⟩=some v:=cLz hb1 h.cell
 have hf1:w1.frozen? ⟨C,0,none⟩=false:=(hb1.frozen (p:=⟨C,0,none⟩) hClt).trans h.frz
 have hc2:=MU hg2 hc1 h.apart
 have hf2:=Ji hg2 hc1 h.apart hf1
 have hvlt:∀b,v.ownBlock=some b->base<=b/\b<w.heap.size:=fun b hb=>AG hlo hb
 have hgC:g≠C:=by
  rcases hat with h1|h1
  ·intro e;subst e;exact h.apart h1
  ·omega
 have hblk:∀b,b<w1.heap.size->b≠C->v.ownBlock≠some b->(w2.setCell ⟨C,0,none⟩ (.slice (some ⟨g,0,none⟩) (l.length+1) cap2)).heap[b]? =w1.heap[b]? :=fun b hb hne ho=>by
  rw[Below.heap_setCell _ _ _ b hne,hg2.block b (by simp;omega) (fun e=>ho e.symm)]
  exact Below.heap_alloc _ _ b hb
 have hfr:fr C v.ownBlock w (w2.setCell ⟨C,0,none⟩ (.slice (some ⟨g,0,none⟩) (l.length+1) cap2)):=by
  have hb0:=(((hb1.mono (Nat.zero_le _)).alloc (Nat.zero_le _) (.cells #[.slice ad r.length cap,.int .i64 n] 177)).grown hg2 (Nat.zero_le _) (fun _ _=>Nat.zero_le _)).setCell (p:=⟨C,0,none⟩) (Nat.zero_le _) (.slice (some ⟨g,0,none⟩) (l.length+1) cap2)
  exact⟨hb0.os,hb0.tape,hb0.output,hb0.size,fun b hb hne ho=>(hblk b (by omega) hne ho).trans (hb1.block b hb)⟩
 refine⟨⟨World.cell?_setCell_same _ _ _ hc2,by rw[World.frozen?_setCell];exact hf2,fun e=>hgC (by cases e;rfl),Nat.le_trans h.low hfr.size,?_⟩,hfr⟩
 refine⟨l++[(.slice ad r.length cap,n)],by rw[lAp,lAp,hll];rfl,?_,?_⟩
 ·rw[lAp]
  refine A2 hown2 (fun b hb=>?_)
  have:b=g:=by cases hb;rfl
  subst this
  exact Below.heap_setCell _ _ _ b hgC
 ·intro i hi
  rw[lAp]at hi
  by_cases hlt:i<out.length
  ·rw[GT out _ _ i hlt,GT l _ _ i (by omega)]
   obtain⟨e1,ad',cap',e2,e3,e4⟩:=hlr i hlt
   refine⟨e1,ad',cap',e2,?_,?_⟩
   ·refine A2 e3 (fun b hb=>?_)
    obtain⟨n1,n2⟩:=e4 b hb
    exact hfr.block b (AG e3 hb).2 n1 n2
   ·intro b hb
    obtain⟨n1,n2⟩:=e4 b hb
    refine⟨n1,fun e=>?_⟩
    have hbg:g=b:=by cases e;rfl
    subst hbg
    rcases hat with h1|h1
    ·exact n2 h1
    ·have:=(AG e3 hb).2;omega
  ·have hie:i=out.length:=by simp at hi;omega
   rw[GU out _ _ i hie,GU l _ _ i (by omega)]
   refine⟨rfl,ad,cap,rfl,?_,?_⟩
   ·refine A2 (World.ownsRow.mono hov h.low) (fun b hb=>?_)
    have hbb:=AG hov hb
    exact hblk b hbb.2 (by omega) (fun e=>by have:=(hvlt b e).2;omega)
   ·intro b hb
    have hbb:=AG hov hb
    refine⟨by omega,fun e=>?_⟩
    have hbg:g=b:=by cases e;rfl
    subst hbg
    rcases hat with h1|h1
    ·have:=(hvlt g h1).2;omega
    ·omega
end ch
namespace ch
open Go.ChangeShapes Go.WideShapes Go.ChangeAt Go.RowKit Go.Maps Go.WideMaps Go.Sort
open vl
variable {w w' : World} {C base cap : Nat} {v : Value} {kv : KV} {out : List Cnt}
theorem QJ(l:List UInt8):encStr l= .string ⟨l.toArray⟩:=rfl
theorem GV{e:TypeId}{size:Nat}{n:Nat}{xs:List Value}(h:w.ownsRow base e size v n xs):∃ad cap,v= .slice ad n cap/\(0<n->∃g,ad=some ⟨g,0,none⟩):=by
 rcases h.2 with⟨rfl,h0⟩|⟨g,cap,cur,rfl,_⟩
 ·exact⟨none,0,by rw[h0],fun h=>absurd h0 (by omega)⟩
 ·exact⟨_,_,rfl,fun _=>⟨g,rfl⟩⟩
theorem S3{g:Nat}(h:w.ownsRow base 9 1 (.slice (some ⟨g,0,none⟩) kv.length cap) kv.length ((kv.map (·.1)).map encStr))(i:Nat)(hi:i<kv.length):w.cell? ⟨g,i,none⟩=some (.string ⟨(kv.getD i ([],0)).1.toArray⟩):=by
 have h1:=World.ownsRow.cells h (g:=g) rfl i (.string ⟨(kv.getD i ([],0)).1.toArray⟩) (by
  simp only[List.map_map,List.getElem?_map,gEe hi,Option.map_some,Function.comp,gDe,Option.getD_some,QJ])
 have e:(⟨g,0,none⟩:Addr).add i=⟨g,i,none⟩:=by unfold Addr.add;split<;>simp_all
 rw[e]at h1
 exact h1
theorem GW(v:List Cnt):(AB v).length=v.length:=by simp[AB]
theorem U1(v:List Cnt)(i:Nat)(hi:i<v.length):(AB v).getD i ([],0)=(encR (v.getD i default).r,(v.getD i default).n):=by
 simp[AB,gDe,hi]
theorem U2(hr:rising kv)(i:Nat)(hi:i<kv.length):Dl kv (kv.getD i ([],0)).1=(kv.getD i ([],0)).2:=by
 induction kv generalizing i with
 |nil=>exact absurd hi (Nat.not_lt_zero i)
 |cons p r ih=>
  cases i with
  |zero=>simp[Dl]
  |succ i=>
   have h1:=List.pairwise_cons.1 hr
   have hi':i<r.length:=by simpa using hi
   have e:(p::r).getD (i+1) ([],0)=r.getD i ([],0):=rfl
   rw[e]
   have hmem:r.getD i ([],0)∈r:=by simp[gDe,hi']
   have hne:¬p.1=(r.getD i ([],0)).1:=fun e=>by
    have h2:=h1.1 _ hmem
    rw[e,CY]at h2
    exact absurd (of_decide_eq_true h2) (List.lt_irrefl _)
   have h3:=ih h1.2 i hi'
   unfold Dl at h3⊢
   rw[List.find?_cons_of_neg (by simpa using hne)]
   exact h3
theorem U3{B nn:Nat}{o:Option Nat}(h:CA w B nn kv)(k:fr C o w w')(hC:B≠C)(ho:o≠some B):CA w' B nn kv:=by
 have hlt:=IV h
 obtain⟨es,clock,h1,h2,h3,h4⟩:=h
 exact⟨es,clock,by rw[k.block B hlt hC ho];exact h1,h2,h3,h4⟩
theorem S4(h:VS w C base v out)(hb:Bwz w w'):VS w' C base v out:=by
 have hClt:C<w.heap.size:=bLt _ _ h.cell
 obtain⟨l,h1,h2,h3⟩:=h.rows
 refine⟨cLz hb h.cell,(hb.frozen (p:=⟨C,0,none⟩) hClt).trans h.frz,h.apart,Nat.le_trans h.low hb.size,l,h1,own_below h2 hb,fun i hi=>?_⟩
 obtain⟨e1,ad,cap,e2,e3,e4⟩:=h3 i hi
 exact⟨e1,ad,cap,e2,own_below e3 hb,e4⟩
theorem S5(v:List Cnt)(k:Nat)(h:k<v.length)(r:List Cel)(n:Int)(e:v.getD k default=⟨r,n⟩):v.take (k+1)=v.take k++[⟨r,n⟩]:=by rw[VQ v k h,e]
theorem QK(B nn:Nat)(out:List Cnt)(C base:Nat)(v0:Value)(w:World)(hm:CA w B nn (AB out))(hr:rising (AB out))(hok:∀c∈out,rowOk c.r)(hlen:out.length<=100000)
 (hv:VS w C base v0 []) (hBC:B≠C) (hBv:v0.ownBlock≠some B):
 Calls Tryz.prog 132 #[.map (some B),.func (.func 133) #[] #[.pointer (some ⟨C,0,none⟩)]] w fun e w'=>e= .returned (.tuple #[])/\∃v,VS w' C base v out/\fr C v0.ownBlock w w':=by
 have HM:Hid (CA w B nn (AB out)):=hm
 have HR:Hid (rising (AB out)):=hr
 have HV:Hid (VS w C base v0 []):=hv
 have HOK:Hid (∀c∈out,rowOk c.r):=hok
 have hBlt:=IV hm
 have hClt:C<w.heap.size:=bLt _ _ hv.cell
 clear hm hr hv hok
 have hkl:=GW out
 obtain⟨n,hn⟩:∃n,out.length=n:=⟨_,rfl⟩
 have HN:Hid (out.length=n):=hn
 have HKN:Hid ((AB out).length=n):=by show(AB out).length=n;rw[hkl,hn]
 rw[hn]at hlen
 clear hkl hn
 go_enter func132,ntmps132
 go_wp2_with fail
 refine(TO B _).mono ?_
 rintro e w' ⟨rfl,rfl⟩
 go_wp2_with fail
 refine(Pu B nn (AB out) w HM.out HR.out (by rw[HKN.out];omega)).mono ?_
 rintro e w1 ⟨⟨v,rfl,hrow⟩,hb1⟩
 obtain⟨ks,kc,hv,hks⟩:=GV hrow
 rw[HKN.out]at hv hks
 subst hv
 have HRW:Hid (w1.ownsRow (w.heap.size+1) 9 1 (.slice ks n kc) (AB out).length (((AB out).map (·.1)).map encStr)):=hrow
 have hbw:Bwz w w1:=(bR.alloc nR _).trans (hb1.mono (by omega))
 have hs1:w.heap.size+1<=w1.heap.size:=by have:=hb1.size;simpa using this
 clear hrow
 have hnov:∀b,v0.ownBlock=some b->b<w.heap.size:=fun b hb=>by
  obtain⟨l,_,h2,_⟩:=HV.out.rows
  exact(AG h2 hb).2
 have HNV:Hid (∀b,v0.ownBlock=some b->b<w.heap.size):=hnov
 have HV1:Hid (VS w1 C base v0 []):=S4 HV.out hbw
 have HM1:Hid (CA w1 B nn (AB out)):=BL HM.out hbw
 clear hnov
 go_wp2
 go_loopw [10] (fun i wr=> ∃(k:Nat) (v:Value),k<=n/\i= .int .i64 k/\VS wr C base v (out.take k)/\fr C v0.ownBlock w1 wr/\(v.ownBlock=v0.ownBlock\/∃g,v.ownBlock=some g/\w1.heap.size<=g)) (fun i _=>n - (intOf i).toNat)
 case atStart=>exact⟨0,v0,by omega,rfl,HV1.out,⟨rfl,rfl,rfl,Nat.le_refl _,fun _ _ _ _=>rfl⟩,.inl rfl⟩
 case round=>
  obtain⟨k,v,hk,rfl,hvs,hfr,hvo⟩:=hrel
  have HVS:Hid (VS wr C base v (out.take k)):=hvs
  have HFR:Hid (fr C v0.ownBlock w1 wr):=hfr
  have HVO:Hid (v.ownBlock=v0.ownBlock\/∃g,v.ownBlock=some g/\w1.heap.size<=g):=hvo
  clear hvs hfr hvo
  by_cases hlt:k<n
  ·obtain⟨gk,hgk⟩:=hks (by omega)
   subst hgk
   have hko:k<out.length:=by rw[HN.out];exact hlt
   have hkk:k<(AB out).length:=by rw[HKN.out];exact hlt
   have hrow2:=HRW.out
   rw[<-HKN.out]at hrow2
   have hgb:=AG hrow2 (g:=gk) rfl
   have hcw:=S3 hrow2 k hkk
   have hcr:wr.cell? ⟨gk,k,none⟩=some (.string ⟨((AB out).getD k ([],0)).1.toArray⟩):=(Uz HFR.out (p:=⟨gk,k,none⟩) hgb.2 (show gk≠C by omega) (fun e=>by have:=HNV.out gk e;omega)).trans hcw
   have HCM:Hid (CA wr B nn (AB out)):=U3 HM1.out HFR.out hBC hBv
   have HG:=U2 HR.out k hkk
   have hrk:rowOk (out.getD k default).r:=HOK.out _ (by simp[gDe,hko])
   rw[U1 out k hko]at hcr HG
   dsimp only at hcr HG
   obtain⟨⟨r,m⟩,hcv⟩:∃c,out.getD k default=c:=⟨_,rfl⟩
   have HT:Hid (out.take (k+1)=out.take k++[⟨r,m⟩]):=S5 out k hko r m hcv
   rw[hcv]at hcr HG hrk
   dsimp only at hcr HG hrk
   have HRK:Hid (rowOk r):=hrk
   have hel:=Hf r (fun c hc=>(hrk.2 c hc).1)
   have hr8:=hrk.1
   obtain⟨key,hkey⟩:∃x,(⟨(encR r).toArray⟩:ByteArray)=x:=⟨_,rfl⟩
   have HKE:Hid (encR r=key.data.toList):=by show encR r=key.data.toList;rw[<-hkey]
   have HKL:Hid (key.size<=maxLen):=by
    show key.size<=maxLen
    rw[<-Bz,<-HKE.out];unfold maxLen;omega
   rw[hkey]at hcr
   have HGG:Hid (Dl (AB out) key.data.toList=m):=by show Dl (AB out) key.data.toList=m;rw[<-HKE.out];exact HG
   clear hcv hkey HG hrk hel hr8 hcw hrow2
   obtain⟨l,hll,hlo,hlr⟩:=HVS.out.rows
   have HLL:Hid (l.length=(out.take k).length):=hll
   have HLO:Hid (wr.ownsRow base 177 2 v l.length (flat l)):=hlo
   have HLR:Hid (∀i,i<(out.take k).length->(l.getD i (.bool false,0)).2=((out.take k).getD i default).n/\∃ad cap,(l.getD i (.bool false,0)).1= .slice ad ((out.take k).getD i default).r.length cap/\AM wr base (.slice ad ((out.take k).getD i default).r.length cap) ((out.take k).getD i default).r/\∀g,(Value.slice ad ((out.take k).getD i default).r.length cap).ownBlock=some g->g≠C/\v.ownBlock≠some g):=hlr
   have hl6:l.length<=1000000:=by rw[hll,List.length_take,HN.out];omega
   have HL6:Hid (l.length<=1000000):=hl6
   clear hll hlo hlr hl6
   have i1:(0:Int)<=(k:Int):=by omega
   have i2:(k:Int)<(n:Int):=by omega
   go_wp2_with (first
    |(at_lookup;refine wpList_lookup_own_int _ rfl (.tmp 16) (.tmp 17) 115 rfl 9 3 .i64 law underlying115 underlying3 (JY _) B nn _ rfl HCM.out _ (.string key.data.toList) rfl (keyOf_string_mk underlying9 HKL.out) ?_;intro c hat hwc;have hc:c=m:=(Ff hat).trans HGG.out;clear hat;subst hc)
    |(go_at_call 133;refine(S0 C base key _ v l r wr HVS.out.cell HVS.out.frz HLO.out HVS.out.apart HL6.out HVS.out.low HRK.out HKE.out HKL.out).mono ?_;rintro e w9 ⟨rfl,w2,w3,ad,cap,g,cap2,hb2,hov2,hown3,hgrow3,hat3,rfl⟩))
   have HST:=U0 HVS.out HLL.out HLO.out HLR.out hb2 hov2 hown3 hgrow3 hat3
   have hsw:=HFR.out.size
   have hs2:wr.heap.size<=w2.heap.size:=hb2.size
   go_roundw
   case rel=>exact⟨k+1,_,by omega,by go_num,by rw[HT.out];exact HST.1,MV HFR.out HST.2 HVO.out,by
    rcases hat3 with h1|h1
    ·rcases HVO.out with h2|⟨g',h2,h3⟩
     ·exact .inl (by rw[<-h2,h1];rfl)
     ·exact .inr ⟨g,rfl,by rw[h1]at h2;cases h2;exact h3⟩
    ·exact .inr ⟨g,rfl,by omega⟩⟩
   case measure=>simp[intOf];omega
  ·have HT:Hid (out.take k=out):=List.take_of_length_le (by rw[HN.out];omega)
   go_wp2
   go_end0
   exact⟨rfl,v,by have h:=HVS.out;rw[HT.out]at h;exact h,MV (S2 hbw) HFR.out (.inl rfl)⟩
theorem U4(l:List (Value×Int))(i:Nat)(hli:i<l.length):(flat l)[i * 2]? =some (l.getD i (.bool false,0)).1/\(flat l)[i * 2+1]? =some (.int .i64 (l.getD i (.bool false,0)).2):=by
 induction l generalizing i with
 |nil=>exact absurd hli (Nat.not_lt_zero i)
 |cons p r ih=>
  have e:flat (p::r)=p.1:: .int .i64 p.2::flat r:=rfl
  rw[e]
  cases i with
  |zero=>exact⟨rfl,rfl⟩
  |succ i=>
   have:=ih i (by simpa using hli)
   rw[show(i+1) * 2=i * 2+1+1 by omega]
   simpa using this
theorem addr_add(g j:Nat):((⟨g,0,none⟩:Addr).add j)=⟨g,0+j,none⟩:=by unfold Addr.add;split<;>simp_all
theorem U5{ad:Option Addr}(h:VS w C base (.slice ad out.length cap) out):viewAt w ad out:=by
 intro i hi
 obtain⟨l,hll,hlo,hlr⟩:=h.rows
 obtain⟨e1,ra,rc,e2,e3,_⟩:=hlr i hi
 rcases hlo.2 with⟨hv,h0⟩|⟨g,cap',cur,hv,h1,hg,h2⟩
 ·rw[hll]at h0;omega
 ·injection hv with ha _ _
  subst ha
  have hc:=World.ownsRow.cells hlo (g:=g) rfl
  have hli:i<l.length:=by omega
  have f0:=U4 l i hli
  have hadd:=addr_add g
  refine⟨g,0,ra,rc,rfl,?_,Fu e3,?_⟩
  ·have:=hc _ _ f0.1;rw[hadd,e2]at this;exact this
  ·have:=hc _ _ f0.2;rw[hadd,e1]at this;exact this
theorem Wa(h:VS w C base v out):∃ad cap,v= .slice ad out.length cap:=by
 obtain⟨l,hll,hlo,hlr⟩:=h.rows
 obtain⟨ad,cap,hv,_⟩:=GV hlo
 exact⟨ad,cap,by rw[hv,hll]⟩
end ch
namespace ch
open Go.ChangeShapes Go.WideShapes Go.ChangeAt Go.RowKit Go.Maps Go.WideMaps
open vl
variable {i n : Nat}
theorem ob{b c x:Nat}(h:(Value.slice (some ⟨b,0,none⟩) n c).ownBlock=some x):x=b:=by cases h;rfl
theorem S6(B nn:Nat)(out:List Cnt)(w:World)(hm:CA w B nn (AB out))(hr:rising (AB out))(hok:∀c∈out,rowOk c.r)(hlen:out.length<=100000):
 Calls Tryz.prog 73 #[.map (some B)] w fun e w'=>(∃ad cap,e= .returned (.slice ad out.length cap)/\viewAt w' ad out)/\Bwz w w':=by
 obtain⟨i0,hi,hz0,hz1,hz2⟩:=info_parts Jh
 obtain⟨wm,hmk,hown,hgr⟩:=run_make_own (P:=Tryz.prog) w w.heap.size 74 177 i0 (.agg #[.slice none 0 0,.int .i64 0]) 2 underlying74 hi hz0 hz1 .i64 .i64 out.length (by rw[hz2];omega) (by unfold maxLen;omega) nR
 have hbm:Bwz w wm:=bR.grown hgr nR (fun k hk=>by cases hk)
 have hvlt:w.heap.size<wm.heap.size:=(AG hown (g:=w.heap.size) rfl).2
 have hBlt:=IV hm
 have HVS:Hid (VS (wm.alloc (.cells #[.slice (some ⟨w.heap.size,0,none⟩) 0 out.length] 74)) wm.heap.size w.heap.size (.slice (some ⟨w.heap.size,0,none⟩) 0 out.length) []):=by
  refine⟨by go_simp,by go_simp,fun e=>by have:=ob e;omega,by simp;omega,[],rfl,own_below hown (bR.alloc nR _),fun i hi=>absurd hi (Nat.not_lt_zero i)⟩
 have HM2:Hid (CA (wm.alloc (.cells #[.slice (some ⟨w.heap.size,0,none⟩) 0 out.length] 74)) B nn (AB out)):=CU (BL hm hbm) _
 have KE:Hid (Calls Tryz.prog 132 #[.map (some B),.func (.func 133) #[] #[.pointer (some ⟨wm.heap.size,0,none⟩)]] (wm.alloc (.cells #[.slice (some ⟨w.heap.size,0,none⟩) 0 out.length] 74))
  fun e w'=>e= .returned (.tuple #[])/\∃v,VS w' wm.heap.size w.heap.size v out/\fr wm.heap.size (Value.slice (some ⟨w.heap.size,0,none⟩) 0 out.length).ownBlock (wm.alloc (.cells #[.slice (some ⟨w.heap.size,0,none⟩) 0 out.length] 74)) w'):=
  QK B nn out wm.heap.size w.heap.size _ _ HM2.out hr hok hlen HVS.out (by omega) (fun e=>by have:=ob e;omega)
 have HM:Hid (CA w B nn (AB out)):=hm
 have hsz:Hid (Maps.size (toD (AB out))=out.length):=by show Maps.size (toD (AB out))=out.length;rw[Hu,GW]
 obtain⟨n,hn⟩:∃n,out.length=n:=⟨_,rfl⟩
 rw[hn]at hmk KE hsz hlen⊢
 have HN:Hid (out.length=n):=hn
 clear hi hz0 hz1 hz2 hown hgr hm hr hok HVS HM2 hn
 go_enter func73,ntmps73
 go_wp2_with (first
  |(at_len;refine wpList_len_own _ rfl (.tmp 4) 115 rfl 9 3 underlying115 _ B nn _ rfl HM.out ?_;rw[hsz.out])
  |(go_at_call 132;refine KE.out.mono ?_;rintro e w2 ⟨rfl,v,hvs,hfr⟩;have hcv:=hvs.cell))
 obtain⟨ad,cap,hv⟩:=Wa hvs
 rw[HN.out]at hv
 subst hv
 go_ret
 exact⟨⟨ad,cap,rfl,U5 (cap:=cap) (by rw[HN.out];exact hvs)⟩,S1 (hbm.alloc hbm.size _) hfr (by omega) (fun b hb=>by have:=ob hb;omega) (by simp;omega)⟩
structure Chg where
 k:Int
 r:List Cel
instance:Inhabited Chg:=⟨⟨0,[]⟩⟩
def Df(w:World)(a:Option Addr)(l:List Chg):Prop:=
 ∀i,i<l.length->∃b off ra rc,a=some ⟨b,off,none⟩/\w.cell? ⟨b,off+i * 2,none⟩=some (.int .i64 (l.getD i default).k)/\w.cell? ⟨b,off+i * 2+1,none⟩=some (.slice ra (l.getD i default).r.length rc)/\vl.rowAt w ra (l.getD i default).r
def Gn(l:List Chg):Prop:=∀c∈l,Co c.r/\c.r.length<=9223372036854775807/\(-9223372036854775808<=c.k/\c.k<=9223372036854775807)
theorem S7{l:List Chg}(h:Gn l)(k:Nat)(hk:k<l.length):Co (l.getD k default).r/\(l.getD k default).r.length<=9223372036854775807/\(-9223372036854775808<=(l.getD k default).k/\(l.getD k default).k<=9223372036854775807):=
 h _ (by simp[gDe,hk])
theorem ET{w w':World}{a:Option Addr}{l:List Chg}(h:Df w a l)(hb:Bwz w w'):Df w' a l:=by
 intro i hi
 obtain⟨b,o,ra,rc,e,x1,x2,x3⟩:=h i hi
 exact⟨b,o,ra,rc,e,cLz hb x1,cLz hb x2,Ac x3 hb⟩
def Bi(l:List Chg)(i:Nat):Bool:=
 if (l.getD i default).k=3 then decide (i+1<l.length)&&decide ((l.getD (i+1) default).k=4)else if (l.getD i default).k=4 then decide (0<i)&&decide ((l.getD (i - 1) default).k=3)else true
def E5(l:List Chg)(i:Nat):Int:=
 if (l.getD i default).k<1\/4<(l.getD i default).k then 4 else if AE (l.getD i default).r=0 then(if Bi l i then 0 else 6)else AE (l.getD i default).r
def first(f:Nat->Int):Nat->Int
 |0=>0
 |n+1=>if first f n=0 then f n else first f n
theorem Jj{f:Nat->Int}(h:∀i,i<n->f i=0):first f n=0:=by
 induction n with
 |zero=>rfl
 |succ n ih=>rw[first,ih (fun i hi=>h i (by omega)),if_pos rfl,h n (by omega)]
theorem S8{f:Nat->Int}{k:Nat}(n:Nat)(h:∀i,i<k->f i=0)(hk:f k≠0)(hkn:k<n):first f n=f k:=by
 induction n with
 |zero=>exact absurd hkn (Nat.not_lt_zero k)
 |succ n ih=>
  rw[first]
  by_cases e:k=n
  ·subst e;rw[Jj h,if_pos rfl]
  ·rw[ih (by omega),if_neg hk]
def AL(l:List Chg):Int:=if 4096<l.length then 2 else first (E5 l) l.length
def Jk(l:List Chg)(i:Nat):Prop:=1<=(l.getD i default).k/\(l.getD i default).k<=4/\AE (l.getD i default).r=0/\Bi l i=true
theorem MW{l:List Chg}(h:E5 l i=0):Jk l i:=by
 unfold E5 at h
 split at h
 ·cases h
 ·rename_i h1
  split at h
  ·rename_i h2
   split at h
   ·rename_i h3;exact⟨by omega,by omega,h2,h3⟩
   ·cases h
  ·contradiction
theorem Lf{l:List Chg}(h:Jk l i):E5 l i=0:=by
 obtain⟨h1,h2,h3,h4⟩:=h
 unfold E5
 rw[if_neg (by omega),if_pos h3,if_pos h4]
def Cg(l:List Chg):Prop:=l.length<=4096/\∀i,i<l.length->Jk l i
theorem U6{l:List Chg}(h:Cg l):AL l=0:=by
 have:=h.1
 unfold AL
 rw[if_neg (by omega),Jj (fun i hi=>Lf (h.2 i hi))]
def EU(w:World)(ad:Option Addr)(l:List Chg):Prop:=
 ∀i,i<l.length->∃g,ad=some ⟨g,0,none⟩/\w.cell? ⟨g,i,none⟩=some (.string ⟨(encR (l.getD i default).r).toArray⟩)
theorem Aa{a b:Bool}(h:a=b):Ending.returned (.bool a)= .returned (.bool b):=by rw[h]
def Ds(k:Int):Int:=if k=1\/k=4 then 1 else -1
theorem MX(k:Int)(w:World):Calls Tryz.prog 72 #[.int .i64 k] w fun e w'=>e= .returned (.int .i64 (Ds k))/\w'=w:=by
 by_cases h1:k=1
 ·subst h1
  go_enter func72,ntmps72
  go_wp2
  go_ret
  exact⟨rfl,rfl⟩
 ·have h1':(k==1)=false:=by simpa using h1
  by_cases h2:k=4
  ·subst h2
   go_enter func72,ntmps72
   go_wp2
   go_ret
   exact⟨rfl,rfl⟩
  ·have h2':(k==4)=false:=by simpa using h2
   have e:Ds k= -1:=by unfold Ds;rw[if_neg (by omega)]
   rw[e]
   go_enter func72,ntmps72
   go_wp2
   go_ret
   exact⟨rfl,rfl⟩
theorem O6(a:Option Addr)(cap:Nat)(l:List Chg)(i:Nat)(w:World)(hv:Df w a l)(hw:Gn l)(hl:l.length<=1000000)(hi:i<l.length):
 Calls Tryz.prog 131 #[.slice a l.length cap,.int .i64 i] w fun e w'=>e= .returned (.bool (Bi l i))/\Bwz w w':=by
 obtain⟨b,o,ra,rc,e,x1,x2,x3⟩:=hv i hi
 subst e
 have HP:Hid (Bi l i=if (l.getD i default).k=3 then decide (i+1<l.length)&&decide ((l.getD (i+1) default).k=4)else if (l.getD i default).k=4 then decide (0<i)&&decide ((l.getD (i - 1) default).k=3)else true):=rfl
 have HV:Hid (∀j,j<l.length->w.cell? ⟨b,o+j * 2,none⟩=some (.int .i64 (l.getD j default).k)):=fun j hj=>by
  obtain⟨b',o',ra',rc',e',y1,y2,y3⟩:=hv j hj
  cases e'
  exact y1
 obtain⟨k,hk⟩:∃k,(l.getD i default).k=k:=⟨_,rfl⟩
 rw[hk]at x1 HP
 clear hk hv x2 x3
 obtain⟨n,hn⟩:∃n,l.length=n:=⟨_,rfl⟩
 rw[hn]at hl hi HP HV⊢
 clear hn
 have i1:(0:Int)<=(i:Int):=by omega
 have i2:(i:Int)<(n:Int):=by omega
 have hwi:IntKind.i64.wrap ((i:Int)+1)=(i:Int)+1:=by rw[Bu];omega
 by_cases h3:k=3
 ·subst h3
  by_cases h4:i+1<n
  ·have y1:=HV.out (i+1) h4
   obtain⟨k2,hk2⟩:∃k,(l.getD (i+1) default).k=k:=⟨_,rfl⟩
   rw[hk2]at y1 HP
   have h4':(i:Int)+1<(n:Int):=by omega
   have hd:decide (k2=4)=(k2==4):=by rw[Bool.eq_iff_iff];simp
   have HE:Hid (Bi l i=(k2==4)):=by show Bi l i=_;rw[HP.out,if_pos rfl,decide_eq_true h4,hd];rfl
   clear HP hk2 hd
   go_enter func131,ntmps131
   go_wp2
   go_ret
   exact⟨Aa HE.out.symm,by first|exact bR|exact bR.drew⟩
  ·have h4':¬(i:Int)+1<(n:Int):=by omega
   have HE:Hid (Bi l i=false):=by show Bi l i=_;rw[HP.out,if_pos rfl,decide_eq_false h4];rfl
   clear HP
   go_enter func131,ntmps131
   go_wp2
   go_ret
   exact⟨Aa HE.out.symm,by first|exact bR|exact bR.drew⟩
 ·have h3':(k==3)=false:=by simpa using h3
  by_cases h4:k=4
  ·subst h4
   by_cases h5:0<i
   ·obtain⟨j,rfl⟩:∃j,i=j+1:=⟨i - 1,by omega⟩
    have y1:=HV.out j (by omega)
    have hj0:(j+1:Nat) - 1=j:=by omega
    rw[hj0]at HP
    obtain⟨k2,hk2⟩:∃k,(l.getD j default).k=k:=⟨_,rfl⟩
    rw[hk2]at y1 HP
    have hd:decide (k2=3)=(k2==3):=by rw[Bool.eq_iff_iff];simp
    have HE:Hid (Bi l (j+1)=(k2==3)):=by show Bi l (j+1)=_;rw[HP.out,if_neg (by decide),if_pos rfl,decide_eq_true h5,hd];rfl
    have hj1:(0:Int)<((j:Int)+1):=by omega
    have hj2:((j:Int))<(n:Int):=by omega
    have hj3:(0:Int)<=(j:Int):=by omega
    have hwj1:IntKind.i64.wrap ((j:Int)+1 - 1)=(j:Int):=by rw[Bu];omega
    have hwj2:IntKind.i64.wrap (j:Int)=(j:Int):=by rw[Bu];omega
    clear HP hk2 hd
    go_enter func131,ntmps131
    go_wp2
    go_ret
    exact⟨Aa HE.out.symm,by first|exact bR|exact bR.drew⟩
   ·have h5':i=0:=by omega
    subst h5'
    have HE:Hid (Bi l 0=false):=by show Bi l 0=_;rw[HP.out,if_neg (by decide),if_pos rfl,decide_eq_false h5];rfl
    clear HP
    simp only[Nat.zero_mul,Nat.add_zero]at x1
    go_enter func131,ntmps131
    go_wp2
    go_ret
    exact⟨Aa HE.out.symm,by first|exact bR|exact bR.drew⟩
  ·have h4':(k==4)=false:=by simpa using h4
   have HE:Hid (Bi l i=true):=by show Bi l i=_;rw[HP.out,if_neg h3,if_neg h4]
   clear HP
   go_enter func131,ntmps131
   go_wp2
   go_ret
   exact⟨Aa HE.out.symm,by first|exact bR|exact bR.drew⟩
end ch
namespace jn
open Go.RowKit
open vl bf
def leP(a b:Ent):Bool:= !decide (ltP b a)
def C6(l:List Ent):List Ent:=l.mergeSort leP
theorem AU(l:List Ent):(C6 l).Perm l:=List.mergeSort_perm l leP
theorem QL(a b c:Ent)(h1:leP a b=true)(h2:leP b c=true):leP a c=true:=by
 unfold leP at *
 simp only[Bool.not_eq_true',decide_eq_false_iff_not]at *
 intro h
 rcases ltP_tri a b with k|k|k
 ·rcases ltP_tri b c with j|j|j
  ·exact BH _ (B4 (B4 k j) h)
  ·exact BH _ (B4 (J9 k j) h)
  ·exact h2 j
 ·exact h2 (J9 h k)
 ·exact h1 k
theorem QM(a b:Ent):(leP a b||leP b a)=true:=by
 unfold leP
 by_cases h:ltP b a
 ·have:¬ltP a b:=fun k=>BH _ (B4 k h)
  simp[h,this]
 ·simp[h]
theorem GX(l:List Ent):Kf (C6 l):=fun i j hij hj hlt=>by
 have hs:=List.pairwise_mergeSort (le:=leP) QL QM l
 have hi:i<(C6 l).length:=by omega
 have:=List.pairwise_iff_getElem.1 hs i j hi hj hij
 rw[getD_at hj,getD_at hi]at hlt
 unfold leP at this
 simp only[Bool.not_eq_true',decide_eq_false_iff_not]at this
 exact this hlt
theorem Jl{l l':List Ent}(hp:l'.Perm l)(hb:Kf l')(hn:(l.map AS).Nodup):l'=C6 l:=by
 have hn':(l'.map AS).Nodup:=(DN hp).2 hn
 have hs:((C6 l).map AS).Nodup:=(DN (AU l)).2 hn
 exact MH (hp.trans (AU l).symm) (GM hb hn') (GM (GX l) hs)
def AO(side:Int)(own other:List Cel):List Cel:=if side=2 then other++own else own++other
def BW(mode side:Int):Bool:=if mode=2 then side==1 else if mode=3 then side==2 else mode==4
def AH(p:pl.Pln)(side:Int)(row:List Cel):List Cel:=AO side row (bt.Cs (pl.A1 p (3 - side)).length)
def Cu(b:Buf)(key:ByteArray)(fr tO:Int):List Ent:=C6 ((Ab b).filter fun y=>decide (y.key=key)&&decide (fr<=y.time)&&decide (y.time<=tO))
def metE(qs:List Int)(y:Ent):Ent:=if y.seq∈qs then {y with met:=true}else y
def BC(qs:List Int)(b:Buf):Buf:=⟨b.lim,b.mem.map (metE qs),b.runs.map (·.map (metE qs))⟩
def Au(s:Jn)(side:Int)(b:Buf):Jn:=if side=2 then⟨s.L,b,s.lm,s.rm,s.seq⟩else⟨b,s.R,s.lm,s.rm,s.seq⟩
def Dg(p:pl.Pln)(v:Ev):Int:=if p.kind=1 then(if v.side=1 then v.time+p.low else v.time - p.high)else v.time - v.time % p.size
def toJ(p:pl.Pln)(v:Ev):Int:=if p.kind=1 then(if v.side=1 then v.time+p.high else v.time - p.low)else v.time - v.time % p.size+p.size - 1
def partners(p:pl.Pln)(s:Jn)(v:Ev):List Ent:=if pl.hasB p v.side v.row=true then Cu (Ae s (3 - v.side)) (pl.Am p v.side v.row) (Dg p v) (toJ p v)else []
def BZ(p:pl.Pln)(s:Jn)(v:Ev):List ch.Chg:=
 (partners p s v).flatMap (fun e=>if BW p.mode (3 - v.side)=true/\e.met=false then [⟨3,AH p (3 - v.side) e.row⟩,⟨4,AO v.side v.row e.row⟩]else [⟨1,AO v.side v.row e.row⟩])
 ++if (partners p s v).isEmpty=true/\BW p.mode v.side=true then [⟨1,AH p v.side v.row⟩]else []
def B6(p:pl.Pln)(s:Jn)(v:Ev):Jn:=Au s (3 - v.side) (BC ((partners p s v).map (·.seq)) (Ae s (3 - v.side)))
def BN(p:pl.Pln)(s:Jn)(v:Ev):List Ent:=if pl.hasB p v.side v.row=true then Cu s.R (pl.Am p v.side v.row) (-1099511627776) v.time else []
def FH(p:pl.Pln)(s:Jn)(v:Ev):List ch.Chg:=match (BN p s v).getLast? with
 |some e=>[⟨1,AO v.side v.row e.row⟩]
 |none=>if BW p.mode 1=true then [⟨1,AH p v.side v.row⟩]else []
def VG(s:Jn)(key:ByteArray)(e:Ent):Option Ent:=((Cu s.R key (-1099511627776) 1099511627776).filter fun y=>decide (y.time<=e.time)).getLast?
def CN(p:pl.Pln)(s:Jn)(v:Ev):List Ent:=(if pl.hasB p v.side v.row=true then Cu s.L (pl.Am p v.side v.row) v.time 1099511627776 else []).filter fun e=>match VG s (pl.Am p v.side v.row) e with
 |some o=>decide (o.time<=v.time)
 |none=>true
def FI(p:pl.Pln)(s:Jn)(v:Ev):List ch.Chg:=(CN p s v).flatMap fun e=>match VG s (pl.Am p v.side v.row) e with
 |some o=>[⟨3,AO 1 e.row o.row⟩,⟨4,AO v.side v.row e.row⟩]
 |none=>if BW p.mode 1=true then [⟨3,AH p 1 e.row⟩,⟨4,AO v.side v.row e.row⟩]else [⟨1,AO v.side v.row e.row⟩]
def C7(b:Buf)(y:Ent):Buf:=Fl b (C6 (b.mem++[y]))
def Cm(p:pl.Pln)(s:Jn)(v:Ev)(met:Bool):Jn:=
 let t:=if pl.hasB p v.side v.row=true/\Ay p s v.side<v.time then Au s v.side (C7 (Ae s v.side) ⟨pl.Am p v.side v.row,v.time,s.seq,v.row,met⟩)else s
 ⟨t.L,t.R,t.lm,t.rm,t.seq+1⟩
def C8(p:pl.Pln)(s:Jn):Jn:=⟨BU (Ci (Ay p s 1)) s.L,BU (Ci (Ay p s 2)) s.R,s.lm,s.rm,s.seq⟩
def lastOf(s:Jn)(key:ByteArray)(low:Int):Int:=match ((C6 (Ab s.R)).filter fun y=>decide (y.key=key)&&decide (y.time<=low)).getLast? with
 |some y=>y.seq
 |none=>0
def Bq(s:Jn):Int:=min s.lm s.rm
def Jm(s:Jn):Jn:=⟨s.L,BU (fun y=>decide (Bq s<y.time)||decide (lastOf s y.key (Bq s)=y.seq)) s.R,s.lm,s.rm,s.seq⟩
def Av(p:pl.Pln)(s:Jn):Jn:=if p.kind=3 then Jm (C8 p s)else C8 p s
def E6(p:pl.Pln)(s:Jn)(v:Ev):Jn×List ch.Chg:=
 if p.kind=3 then
  if v.side=1 then(Cm p s v (!(BN p s v).isEmpty),FH p s v)
  else(Cm p (Au s 1 (BC ((CN p s v).map (·.seq)) s.L)) v false,FI p s v)
 else(Cm p (B6 p s v) v (!(partners p s v).isEmpty),BZ p s v)
noncomputable def stepJ(p:pl.Pln)(s:Jn)(v:Ev):Int×Jn×List ch.Chg:=
 if B7 p s≠0 then(B7 p s,j0,[])else if Az p s v≠0 then(Az p s v,j0,[])
 else if v.kind=2 then(0,Av p (AY s v.side v.time),[])else(0,E6 p s v)
noncomputable def playJ(p:pl.Pln):Jn->List Ev->Nat->Jn×List ch.Chg×List Int
 |s,[],_=>(s,[],[])
 |s,v::l,i=>if (stepJ p s v).1≠0 then let r:=playJ p s l (i+1);(r.1,r.2.1,(i:Int)::r.2.2)
  else let r:=playJ p (stepJ p s v).2.1 l (i+1);(r.1,(stepJ p s v).2.2++r.2.1,r.2.2)
end jn
end Go.Proofs.YtdohnkkbkfhphaaGreat
