import Derived.Test.YtfkihidbnfkbaaaGreatDoorRows
import Derived.ProofKit
import Derived.OpenShut
import Derived.WalkSpells
import Derived.Deep.RegionHeld3
import Derived.WalkLawsBesides
import Derived.Shelf.Small.Strs
import Derived.Deep.DrawnRows
import Derived.RangeFuncNested
import Derived.Shelf.SlLaysF0
import Derived.Shelf.SlIter.Nil
import Derived.Shelf.SortM.Plain
import Derived.Shelf.SortM.SortNone
set_option linter.all false
set_option maxHeartbeats 2000000
set_option maxRecDepth 100000
open Go.ChangeShapes Go.WideShapes Go.ChangeAt Go.RowKit Go.Shelf Go.Maps Go.Sort List
open List renaming length->ϲ
namespace Go.Proofs.YtfkihidbnfkbaaaGreatDoor
def AC:=@if_neg
def AE:=@if_pos
def At:=@Nat.zero_le
def B0:=@Nat.le_trans
def BP:=@decide_eq_false
def Bk:=@congrArg
def Bx:=@List.append_assoc
def CA:=@Nat.not_lt_zero
def CB:=@Go.heap_setCell_other
def CD:=@Go.bodyPost_ret
def D0:=@Go.World.size_alloc
def DA:=@List.length_take
def DB:=@decide_eq_true
def DE:=@Go.World.alloc_heap_new
def DH:=@Go.RowKit.Below.alloc
def DM:=@Go.callsIn_wide
def DP:=@List.length_cons
def DQ:=@List.map_append
def DS:=@List.mem_map
def Do:=@Go.cell_kept
def E0:=@List.mem_cons_self
def E3:=@List.mem_cons
def EQ:=@List.mem_cons_of_mem
def Fd:=@of_decide_eq_true
def Fk:=@List.mem_append
def Fm:=@Nat.lt_succ_iff_lt_or_eq
def Fr:=@Nat.zero_add
def Ft:=@Go.wpList_store_mid
def G3:=@Bool.and_eq_true
def GE:=@List.getElem_mem
def GS:=@Array.getElem?_eq_some_iff
def GT:=@Go.wpAnyH_done
def HU:=@Nat.le_refl
def IB:=@Go.Proofs.enters_of
def IR:=@Go.info_parts
def JR:=@Go.World.cell?_setCell_same
def JT:=@List.getElem?_eq_some_iff
def JV:=@List.nil_append
def K5:=@beq_eq_false_iff_ne
def KD:=@Go.RowKit.Below.drew
def KI:=@List.take_of_length_le
def KX:=@Go.World.ownsRow_nil
def KY:=@List.cons_append
def KZ:=@Go.RowKit.Below.setCell
def L7:=@List.getElem?_map
def LE:=@Go.RowKit.Below.heap_alloc
def LT:=@List.getElem_of_mem
def M1:=@List.take_succ_eq_append_getElem
def M2:=@List.mem_singleton
def NE:=@Nat.lt_of_lt_of_le
def NK:=@Go.below_drewN
def NS:=@List.length_nil
def Nd:=@List.append_nil
def Ok:=@List.take_length
def P3:=@List.map_cons
def PJ:=@Bool.eq_iff_iff
def PP:=@List.take_append_drop
def PS:=@Nat.le_succ
def Pc:=@Go.AllReadyIn.cons
def Pl:=@Go.CallsIn.inRound
def RC:=@List.length_drop
def RK:=@Go.RowKit.Below.refl
def RM:=@Go.run_takeDeferred
def RN:=@Nat.lt_or_ge
def RT:=@Go.World.ownsRow.cells
def RW:=@Go.IntKind.wrap_i64
def Rg:=@Go.KeepsOthers.setCell
def S0:=@Go.wpAnyIn_ready
def S5:=@Go.AllReadyIn.nil
def SK:=@Int.eq_ofNat_of_zero_le
def SM:=@Int.toNat_natCast
def SN:=@List.flatMap_append
def SW:=@List.not_mem_nil
def Sh:=@decide_eq_true_eq
def St:=@List.size_toArray
def Th:=@List.mem_flatten
def Ts:=@Go.World.putObj_heap_other
def UV:=@beq_iff_eq
def Vc:=@Go.wpList_append_own
def WD:=@Go.World.ownsRow.alloc
def WF:=@List.pairwise_cons
def Wf:=@Go.World.rangeAt_setCells_same
def aA:=@List.pairwise_iff_getElem
def aB:=@Go.World.ownsRow.lt
def aC:=@Go.run_underlying
def aD:=@Go.World.frozen?_setCell
def aE:=@Nat.add_zero
def aF:=@Go.Lib.toList_data
def aG:=@Go.World.frozen?_of_block
def aH:=@List.flatMap_cons
def aI:=@Option.some.inj
def aJ:=@Go.wp_region_held_drew
def aK:=@List.nodup_append
def aL:=@List.length_eq_zero_iff
def aM:=@List.getElem?_append_left
def aN:=@List.drop_of_length_le
def aO:=@of_decide_eq_false
def aP:=@List.getElem_map
def aQ:=@List.flatten_cons
def aR:=@List.map_map
def aS:=@Go.wpAnyH_take
def aT:=@List.all_eq_true
def aU:=@Array.replicate_succ
def aV:=@Array.replicate_zero
def aW:=@List.push_toArray
def aX:=@List.append_toArray
def aY:=@Go.frozen_kept
def aZ:=@List.length_filter_le
def bA:=@Bool.not_eq_true'
def bB:=@List.getElem?_append_right
def bC:=@Go.Sem.run_bind
def bD:=@Go.Result.andThen_ok
def bE:=@if_true
def bF:=@Option.getD_some
def bG:=@Prod.mk.injEq
def bH:=@Go.callsIn_of_wp_marks
def bI:=@List.length_set
def bJ:=@Go.World.cell?_setCell_other
def bK:=@if_false
def bL:=@Nat.add_mul
def bM:=@BitVec.toNat_ofInt
def bN:=@ByteArray.ext
def bO:=@Go.DataW.trod_int
def bP:=@List.any_eq_true
def bQ:=@Go.KeepsOthers.alloc
def bS:=@Array.length_toList
def bU:=@Nat.zero_mul
def bV:=@List.length_singleton
def bW:=@List.cons.injEq
def bX:=@UInt8.lt_iff_toNat_lt
def bY:=@List.getElem_take
def bZ:=@Array.getElem?_eq_none
def cB:=@List.getD_cons_succ
def cD:=@Option.isSome_iff_exists
def cE:=@List.flatten_append
def cF:=@List.mem_filter
def cH:=@Go.bodyPost_end
def cI:=@Go.World.cell?_setCell_same'
def cJ:=@List.mem_of_mem_take
def cK:=@Go.wpList_lookup_own_int
def cM:=@List.drop_eq_getElem_cons
def cO:=@Go.World.putObj_heap_same
def cP:=@decide_eq_false_iff_not
def cQ:=@Nat.mul_one
def cR:=@List.getElem?_eq_none
def cS:=@List.any_eq_false
def cT:=@Option.map_some
def cU:=@Nat.add_assoc
def cV:=@Go.KeepsFrom.refl
def cW:=@Nat.sub_self
def cX:=@Bool.or_eq_true
def cY:=@Nat.mul_le_mul_right
def cZ:=@List.count_append
def dA:=@Go.Sem.run_pure
def dB:=@List.filter_eq_self
def dC:=@List.getElem?_set_ne
def dD:=@Go.World.there_setCells
def dE:=@Bool.false_eq_true
def dF:=@Int.emod_eq_of_lt
def dG:=@List.foldl_cons
def dH:=@UInt8.lt_irrefl
def dI:=@Go.AllReadyH.cons
def dJ:=@Or.inr
def dK:=@Or.inl
def dM:=@and_assoc
def dN:=@Int.natCast_add
def dP:=@Nat.eq_zero_or_pos
def dQ:=@Go.plainElem_int
def dR:=@List.count_cons
def dS:=@Nat.one_mul
def dT:=@BitVec.toNat_xor
def dU:=@ByteArray.data_extract
def dV:=@Nat.pow_le_pow_right
def dW:=@List.getElem?_set_self
def dX:=@Array.ext'
def dY:=@ByteArray.size_extract
def dZ:=@Int.emod_nonneg
def dn:=@Int.emod_lt_of_pos
def eA:=@Go.bounds_i64
def eB:=@List.drop_succ_cons
def eD:=@List.mem_of_getElem?
def eE:=@List.all_eq_false
def eF:=@Go.World.ownsRow_made
def eG:=@Go.World.ownsRow.drew
def eH:=@Go.Calls.quiet_of_same
def eI:=@List.mem_flatMap
def eJ:=@List.nodup_nil
def eK:=@Bool.eq_false_or_eq_true
def eL:=@Array.append_empty
def eM:=@List.filter_append
def eO:=@List.pairwise_append
def eQ:=@List.pairwise_singleton
def eR:=@List.Perm.refl
def eS:=@List.count_le_length
def eU:=@Go.wpAnyIn_done
def eV:=@List.flatten_nil
def eW:=@List.nodup_cons
def eX:=@List.Pairwise.nil
def eY:=@List.pairwise_map
def eZ:=@Array.ext
def fA:=@Decidable.not_not
def fB:=@List.length_take_le'
def fC:=@Nat.min_eq_left
def fD:=@List.length_pos_iff
def fE:=@List.eq_nil_of_length_eq_zero
def fF:=@bne_iff_ne
def fG:=@bne_eq_false_iff_eq
def fH:=@Bool.not_eq_false'
def fI:=@List.isEmpty_iff
def fJ:=@List.isEmpty_eq_false_iff
def fK:=@UInt8.not_lt
def fM:=@UInt8.toNat_inj
def fN:=@List.length_take_le
def fO:=@Go.results_none
def fP:=@Go.wpList_mapUpdate_own
def fQ:=@Go.WalkArith.wf_i64
def fR:=@Go.wpAnyH_ready
def fS:=@Go.AllReadyH.nil
def fT:=@List.getElem?_eq_getElem
def fU:=@decide_eq_true_iff
def fV:=@Bool.false_or
def fW:=@Array.size_append
def fX:=@Go.run_make_own
def fY:=@Array.getElem?_modify
def fZ:=@Array.size_modify
def fp:=@List.count_pos_iff
def fq:=@Nat.add_sub_cancel_left
def fu:=@Go.roundsIn_succ
def fw:=@Go.RowKit.cell?_setCell_some
def fx:=@Go.cell_two_new
def fy:=@Array.getElem_modify
def fz:=@List.getElem_drop
def gA:=@Nat.mod_lt
def gB:=@List.foldl_append
def gC:=@UInt8.toNat_ofNat'
def gD:=@Array.toList_extract
def gE:=@Go.leaves_cons
def gF:=@Nat.testBit_lt_two_pow
def gG:=@List.append_eq_nil_iff
def gH:=@List.cons_lt_cons_iff
def gI:=@List.lt_irrefl
def gJ:=@Go.World.grownBy.refl
variable {w : World} {a : Addr} {v : Value} {fuel i n : Nat} {P : Program} {md : Region.Mode} {ops : Array Oper} {Q : Exit -> Act -> World -> Prop} {S : World -> Prop} {listed : Array Bool} {b : Act} {oi : Oper}
abbrev vI(n:Int):Value:=.int .i64 n
abbrev vS(a:Option Addr)(n c:Nat):Value:=.slice a n c
abbrev ce(w:World)(b o:Nat)(v:Value):Prop:=w.cell? ⟨b,o,none⟩=some v
abbrev CT:=Calls Tryz.prog
abbrev Ϣ(w v:World):Prop:=Below w.heap.size w v
def cLz{c:World}(d:Ϣ w c)(h:w.cell? a=some v):c.cell? a=some v:=cell_later d h
instance:Coe World Nat:=⟨λw=>w.heap.size⟩
instance:Coe Nat Addr:=⟨λb=>⟨b,0,none⟩⟩
def nM{α:Type}(a:α):∃z,a=z:=⟨a,rfl⟩
def ϡ(p:Prop):Prop:=p
def ϡ.o{p:Prop}(h:ϡ p):p:=h
def hV0{p:Prop}(h:p):ϡ p:=h
def bT{a b c:World}(h:Below a.heap.size a b)(k:Below b.heap.size b c):Below a.heap.size a c:=h.trans (k.mono h.size)
def rD{P:Program}{md:Region.Mode}{ops:Array Oper}{Q:Exit->Act->World->Prop}{S:World->Prop}{fuel:Nat}{listed:Array Bool}{a:Act}{w:World}{o:Oper}(i:Nat)(h:∀c:Act->World->Prop,Shut (∀a w,S w->(S w->wpAnyH P md ops Q S fuel (listed.setIfInBounds i true) a w)->c a w)->if Region.wanted o (yielded ops a.tmps)=true then Oper.wp P o a w c Q else c (a.put o.dst undef) w)(e:Region.ready md ops listed=[i]:=by kernel_rfl)(d:ops[i]? =some o:=by exact rfl):wpAnyH P md ops Q S (fuel+1) listed a w:=fR e (by simp) (dI d h fS)
structure Mmz{α:Sort _}(a:α) where
instance{α:Sort _}{a:α}:CoeOut (Mmz a) α:=⟨λ_=>a⟩
instance{p:Prop}:CoeSort (Mmz p) Prop:=⟨λ_=>p⟩
instance{p:Type}:CoeSort (Mmz p) Type:=⟨λ_=>p⟩
def Δ(w:World)(b o:Nat)(v:Value):Mmz (w.cell? ⟨b,o,none⟩=some v:Prop):=⟨⟩
def Ξ(w:World)(b o:Nat):Mmz (w.frozen? ⟨b,o,none⟩=false:Prop):=⟨⟩
def τ(l:Int)(a:Option Addr)(b c:Nat)(d:Option Addr)(e f:Nat):Mmz (#[.int .i64 l,.slice a b c,.slice d e f]:Array Value):=⟨⟩
def φ(k:ByteArray)(t s:Int)(a:Option Addr)(b c:Nat)(m:Bool):Mmz (#[.string k,.int .i64 t,.int .i64 s,.slice a b c,.bool m]:Array Value):=⟨⟩
def ψ(w:World)(v:Value):Mmz (λe w'=>e= .returned v/\Below w.heap.size w w':Ending->World->Prop):=⟨⟩
def χ(n:Nat)(l:Array Value)(w:World)(Q:Ending->World->Prop):Mmz (Calls Tryz.prog n l w Q:Prop):=⟨⟩
def ω(b:Nat):Mmz (.pointer (some ⟨b,0,none⟩):Value):=⟨⟩
def ϊ(w:World)(l:Array Value)(t:TypeId):Mmz (w.alloc (.cells l t):World):=⟨⟩
def ϋ(b:Nat):Mmz (some ⟨b,0,none⟩:Option Addr):=⟨⟩
def ό(w:World)(b o:Nat)(v:Value):Mmz (w.setCell ⟨b,o,none⟩ v:World):=⟨⟩
def ύ:Mmz (9223372036854775807:Nat):=⟨⟩
def ώ:Mmz (.slice none 0 0:Value):=⟨⟩
def Ϗ:Mmz (.int .i64 0:Value):=⟨⟩
def ϐ:Mmz (.string ⟨#[]⟩:Value):=⟨⟩
def ϑ:Mmz (.bool false:Value):=⟨⟩
def ϒ(w:World)(b:Nat)(o:Nat)(v0 v1 v2 v3 v4:Value):Mmz (w.cell? ⟨b,o,none⟩=some v0/\w.cell? ⟨b,o+1,none⟩=some v1/\w.cell? ⟨b,o+1+1,none⟩=some v2/\w.cell? ⟨b,o+1+1+1,none⟩=some v3/\w.cell? ⟨b,o+1+1+1+1,none⟩=some v4:Prop):=⟨⟩
def ϕ(w:World)(b:Nat)(v0 v1 v2 v3 v4:Value)(R:Prop):Mmz (w.cell? ⟨b,0,none⟩=some v0/\w.cell? ⟨b,1,none⟩=some v1/\w.cell? ⟨b,2,none⟩=some v2/\w.cell? ⟨b,3,none⟩=some v3/\w.cell? ⟨b,4,none⟩=some v4/\R:Prop):=⟨⟩
def ϖ(w:World)(b:Nat)(v0 v1 v2 v3 v4:Value):Mmz (w.cell? ⟨b,0,none⟩=some v0/\w.cell? ⟨b,1,none⟩=some v1/\w.cell? ⟨b,2,none⟩=some v2/\w.cell? ⟨b,3,none⟩=some v3/\w.cell? ⟨b,4,none⟩=some v4:Prop):=⟨⟩
def ϗ(w:World)(b:Nat)(v0 v1 v2:Value):Mmz (w.cell? ⟨b,0,none⟩=some v0/\w.cell? ⟨b,1,none⟩=some v1/\w.cell? ⟨b,2,none⟩=some v2:Prop):=⟨⟩
def Ϙ(w:World)(b:Nat)(v0 v1 v2:Value)(R:Prop):Mmz (w.cell? ⟨b,0,none⟩=some v0/\w.cell? ⟨b,1,none⟩=some v1/\w.cell? ⟨b,2,none⟩=some v2/\R:Prop):=⟨⟩
def ϙ(w:World)(b:Nat)(o:Nat)(v0 v1 v2:Value):Mmz (w.cell? ⟨b,o,none⟩=some v0/\w.cell? ⟨b,o+1,none⟩=some v1/\w.cell? ⟨b,o+1+1,none⟩=some v2:Prop):=⟨⟩
def Ϛ(w:World)(b:Nat)(o:Nat)(v0 v1 v2:Value)(R:Prop):Mmz (w.cell? ⟨b,o,none⟩=some v0/\w.cell? ⟨b,o+1,none⟩=some v1/\w.cell? ⟨b,o+1+1,none⟩=some v2/\R:Prop):=⟨⟩
def ϛ(w:World)(b:Nat)(v0 v1 v2 v3 v4 v5 v6 v7 v8:Value):Mmz (w.cell? ⟨b,0,none⟩=some v0/\w.cell? ⟨b,1,none⟩=some v1/\w.cell? ⟨b,2,none⟩=some v2/\w.cell? ⟨b,3,none⟩=some v3/\w.cell? ⟨b,4,none⟩=some v4/\w.cell? ⟨b,5,none⟩=some v5/\w.cell? ⟨b,6,none⟩=some v6/\w.cell? ⟨b,7,none⟩=some v7/\w.cell? ⟨b,8,none⟩=some v8:Prop):=⟨⟩
def Ϝ(w:World)(b:Nat)(v0 v1 v2 v3 v4 v5 v6 v7 v8 v9 v10 v11 v12:Value):Mmz (w.cell? ⟨b,0,none⟩=some v0/\w.cell? ⟨b,1,none⟩=some v1/\w.cell? ⟨b,2,none⟩=some v2/\w.cell? ⟨b,3,none⟩=some v3/\w.cell? ⟨b,4,none⟩=some v4/\w.cell? ⟨b,5,none⟩=some v5/\w.cell? ⟨b,6,none⟩=some v6/\w.cell? ⟨b,7,none⟩=some v7/\w.cell? ⟨b,8,none⟩=some v8/\w.cell? ⟨b,9,none⟩=some v9/\w.cell? ⟨b,10,none⟩=some v10/\w.cell? ⟨b,11,none⟩=some v11/\w.cell? ⟨b,12,none⟩=some v12:Prop):=⟨⟩
def ϝ(w:World)(b:Nat)(v0 v1 v2 v3:Value):Mmz (w.cell? ⟨b,0,none⟩=some v0/\w.cell? ⟨b,1,none⟩=some v1/\w.cell? ⟨b,2,none⟩=some v2/\w.cell? ⟨b,3,none⟩=some v3:Prop):=⟨⟩
def Ϟ(w:World)(b:Nat)(o:Nat)(v0 v1 v2 v3 v4:Value)(R:Prop):Mmz (w.cell? ⟨b,o,none⟩=some v0/\w.cell? ⟨b,o+1,none⟩=some v1/\w.cell? ⟨b,o+1+1,none⟩=some v2/\w.cell? ⟨b,o+1+1+1,none⟩=some v3/\w.cell? ⟨b,o+1+1+1+1,none⟩=some v4/\R:Prop):=⟨⟩
def ϟ:Mmz (World:Type):=⟨⟩
def Ϡ:Mmz (Option Addr:Type):=⟨⟩
def ϣ{p:Prop}(h:p:=by omega):p:=h
def Ϥ{p:Prop}(h:p:=by decide):p:=h
def ϥ{p:Prop}(h:p:=by simp):p:=h
def Ϧ{p:Prop}(h:p:=by kernel_rfl):p:=h
def ϧ{p:Prop}(h:p:=by go_simp):p:=h
def Ϩ{p:Prop}(h:p:=by(simp;omega)):p:=h
def ϩ{p:Prop}(h:p:=by(dsimp only;omega)):p:=h
def Ϫ{p:Prop}(h:p:=by(simp<;>omega)):p:=h
def ϫ{p:Prop}(h:p:=by trivial):p:=h
def Ϭ{p:Prop}(h:p:=by simp[Value.oneCell']):p:=h
def ϭ{p:Prop}(h:p:=by(unfold maxLen;omega)):p:=h
def bR:Below n w w:=RK _ _
def nR:n<=n:=HU _
def Ϯ{w:World}{o:Obj}:Below w.heap.size w (w.alloc o):=bR.alloc nR _
def sI{α:Type}(l:List α)(i:Nat)(a:α):l.toArray.setIfInBounds i a=(l.set i a).toArray:=setIfInBounds_toArray l i a
theorem sZ{α:Type}(x:α)(xs:List α)(a:α):(x::xs).set 0 a=a::xs:=rfl
theorem sSz{α:Type}(x:α)(xs:List α)(n:Nat)(a:α):(x::xs).set (n+1) a=x::xs.set n a:=rfl
def hIz{p:Prop}(h:p):ϡ p:=h
def gDe{α:Type}{l:List α}{a:α}:l.getD i a=l[i]?.getD a:=getD_eq_getElem?_getD
def gEe{α:Type}{l:List α}(h:i<ϲ l):l[i]? =some l[i]:=fT h
def bLt(w:World)(a:Addr){u:Value}(h:w.cell? a=some u):a.block<w.heap.size:=World.block_lt_of_cell? w a h
def lAp{α:Type}{xs c:List α}:ϲ (xs++c)=ϲ xs+ϲ c:=length_append
def cOb{w':World}(h:w'.heap[a.block]? =w.heap[a.block]?):w'.cell? a=w.cell? a:=World.cell?_of_block h
def lMp{α β:Type}{xs:List α}(f:α->β):ϲ (List.map f xs)=ϲ xs:=length_map f
theorem sk{a:Act}(i:Nat)(d:Nat)(j:S w)(h:wpAnyH P md ops Q S fuel (listed.setIfInBounds i true) b w)
    (l:ops[i]? =some oi:=by exact rfl) (e:(Region.noSelect ops&&(Region.free md ops listed i&&(Region.ready md ops listed).contains i))=true:=by kernel_rfl) (k:oi.dst=some d:=by exact rfl) (m:Region.wanted oi (yielded ops a.tmps)=false:=by exact rfl) (ha:a.put (some d) undef=b:=by(simp only[Act.put,sI,sZ,sSz];exact rfl))
    (f:∀c a w,Q (.panic c) (a.put oi.dst undef) w->Q (.panic c) a w:=by exact λ_ _ _ h=>h):wpAnyH P md ops Q S (fuel+1) listed a w:=by
  rw[G3,G3]at e;exact aS l e.1 e.2.1 e.2.2 f (dJ ⟨m,rfl⟩) j (by rw[k,ha];exact h)
theorem tkz{a:Act}(i:Nat)(d:Nat)(j:S w)(h:wpAnyH P md ops Q S fuel (listed.setIfInBounds i true) b w)
    (m:ops[i]? =some oi:=by exact rfl) (e:(Region.noSelect ops&&(Region.free md ops listed i&&(Region.ready md ops listed).contains i))=true:=by kernel_rfl) (l:oi.dst=some d:=by exact rfl) (o:Region.wanted oi (yielded ops a.tmps)=true:=by exact rfl) (hy:∀w,S w->(execOp a.eval oi).run P w= .ok (.value v) w:=by(intro p k;(try dsimp only at k);first|(go_simp;done)|(go_simp;with_reducible rfl))) (ha:a.put (some d) v=b:=by(simp only[Act.put,sI,sZ,sSz];exact rfl))
    (f:∀c a w,Q (.panic c) (a.put oi.dst v) w->Q (.panic c) a w:=by exact λ_ _ _ h=>h):wpAnyH P md ops Q S (fuel+1) listed a w:=by
  rw[G3,G3]at e;exact aS m e.1 e.2.1 e.2.2 f (dK ⟨o,hy⟩) j (by rw[l,ha];exact h)
end Go.Proofs.YtfkihidbnfkbaaaGreatDoor
namespace Go.Proofs
def Tryz.lays106_ren:Go.Shelf.Ren:=⟨fun|106=>283|213=>296|265=>302|n=>n,fun|9=>9|3=>3|n=>n,fun|n=>n⟩
def Tryz.lays106:Go.Proofs.Lays.n106 Tryz.prog Tryz.lays106_ren:={
 mixed:=by kernel_rfl
 f106:=Tryz.func283.trans (congrArg some (by kernel_rfl))
 f213:=Tryz.func296.trans (congrArg some (by kernel_rfl))
 f265:=Tryz.func302.trans (congrArg some (by kernel_rfl))
 t3:=Tryz.underlying3
 a3:=Tryz.isAgg3
 z3:=Tryz.sizeOf3
 v3:=Tryz.zeroValue3
 t9:=Tryz.underlying9
 a9:=Tryz.isAgg9
 z9:=Tryz.sizeOf9
 v9:=Tryz.zeroValue9}
end Go.Proofs
namespace Go.Proofs.YtfkihidbnfkbaaaGreatDoor.vl
open Go.Proofs.Tryz
def Ks(a b:ByteArray)(w:World):
 Calls Tryz.prog 283 #[.string a,.string b] w λe c=>e= .returned (.int .i64 (Lib.compareBytes a.data.toList b.data.toList))/\c=w:=
 Any.strings_Compare Tryz.lays106 a b w
def Ad{k:IntKind}{a b:Int}(h:a=b):Ending.returned (.int k a)= .returned (.int k b):=by rw[h]
def CN(a b:Int):Int:=if a<b then -1 else if b<a then 1 else 0
def Kt(a b:Int)(w:World):
 Calls Tryz.prog 263 #[.int .i64 a,.int .i64 b] w λe c=>e= .returned (.int .i64 (CN a b))/\c=w:=by
 go_enter func263,ntmps263;go_wp2
 all_goals
  go_ret;exact⟨Ad (by unfold CN;omega),rfl⟩
def Gi(a b:Int)(w:World):
 Calls Tryz.prog 193 #[.int .i64 a,.int .i64 b] w λe c=>e= .returned (.int .i64 (CN a b))/\c=w:=by
 go_enter func193,ntmps193;go_wp2
 all_goals
  go_ret;exact⟨Ad (by unfold CN;omega),rfl⟩
def AY:List Int->Int
 |[]=>0
 |x::r=>if x=0 then AY r else x
theorem Iy(zs:List Int)(k:Nat)(h:∀i,i<k->zs[i]?.getD 0=0):AY zs=AY (zs.drop k):=by
 induction zs generalizing k with
 |nil=>simp
 |cons x r ih=>
  cases k with
  |zero=>rfl
  |succ k=>
   have c:x=0:=by simpa using h 0 (by omega)
   subst c;simp only[AY,bE,eB];exact ih k (λi d=>by simpa using h (i+1) (by omega))
def OO(zs:List Int)(k:Nat)(h:∀i,i<k->zs[i]?.getD 0=0)(c:k<ϲ zs)(d:zs[k]?.getD 0≠0):AY zs=zs[k]?.getD 0:=by
 rw[Iy zs k h,cM c,AY];simp only[gEe c,bF]at d⊢;rw[AC d]
theorem ZK(b:Nat)(zs:List Int)(w:World)(C:ϲ zs<=100)
 (o:∀i,i<ϲ zs->w.cell? ⟨b,i,none⟩=some (.int .i64 (zs[i]?.getD 0))):
 Calls Tryz.prog 282 #[.slice (some ⟨b,0,none⟩) (ϲ zs) (ϲ zs)] w λe x=>e= .returned (.int .i64 (AY zs))/\x=w:=by
 go_enter func282,ntmps282;go_wp2
 go_loop [7] (λi=> ∃k:Nat,k<=ϲ zs/\i= .int .i64 k/\∀i,i<k->zs[i]?.getD 0=0) (λi=>ϲ zs - (intOf i).toNat)
 case atStart=>exact⟨0,At _,rfl,λi j=>absurd j (CA i)⟩
 case round=>
  obtain⟨k,A,rfl,m⟩:=hrel;have c:=hV0 m;clear m;by_cases q:k<ϲ zs
  ·have s:=o k q;obtain⟨z,l⟩:=nM (zs[k]?.getD 0);rw[l]at s;have d:=hV0 l;clear o l;by_cases f:(z==0)=true
   ·have p:z=0:=by simpa using f
    have r:ϡ (z=0):=p;clear p;go_wp2
    go_round
    case rel=>exact⟨k+1,by omega,by go_num,λi j=>by
     rcases Fm.1 j with h|h
     ·exact c.o i h
     ·rw[h,d.o];exact r.o⟩
    case measure=>simp[intOf];omega
   ·have y:(z==0)=false:=by simpa using f
    have t:ϡ (AY zs=z):=by
     show AY zs=z;rw[OO zs k c.o q (by rw[d.o];simpa using f)];exact d.o
    go_wp2;go_ret;exact⟨Ad (by rw[t.o]),rfl⟩
  ·have u:ϡ (AY zs=0):=by
    show AY zs=0;rw[Iy zs k c.o,aN (by omega)];rfl
   go_wp2;go_ret;exact⟨Ad (by rw[u.o]),rfl⟩
theorem Ags(b:Nat)(x y z:Int)(w:World)(h0:w.cell? ⟨b,0,none⟩=some (.int .i64 x))(h1:w.cell? ⟨b,1,none⟩=some (.int .i64 y))(c:w.cell? ⟨b,2,none⟩=some (.int .i64 z)):
 Calls Tryz.prog 282 #[.slice (some ⟨b,0,none⟩) 3 3] w λe f=>e= .returned (.int .i64 (AY [x,y,z]))/\f=w:=
 ZK b [x,y,z] w (by simp) (λi d=>by
  match i,d with
  |0,_=>exact h0
  |1,_=>exact h1
  |2,_=>exact c)
def Jd(k1 n1:Int)(s1:ByteArray)(k2 n2:Int)(s2:ByteArray):Int:=
 AY [CN k1 k2,CN n1 n2,Lib.compareBytes s1.data.toList s2.data.toList]
attribute [local go_sem ↓] Go.wp_at_zero Go.wp_at_succ
theorem Je(d h:Int)(k:ByteArray)(f j:Int)(l:ByteArray)(w:World):
 Calls Tryz.prog 257 #[.agg #[.int .i64 d,.int .i64 h,.string k],.agg #[.int .i64 f,.int .i64 j,.string l]] w
  λe c=>e= .returned (.int .i64 (Jd d h k f j l))/\Ϣ w c:=by
 go_enter func257,ntmps257;go_wp2
 go_region_held3 (λc=>c.cell? ⟨w.heap.size,0,none⟩=some (.int .i64 d)/\c.cell? ⟨w.heap.size,1,none⟩=some (.int .i64 h)/\c.cell? ⟨w.heap.size,2,none⟩=some (.string k)/\c.cell? ⟨w.heap.size+1,0,none⟩=some (.int .i64 f)/\c.cell? ⟨w.heap.size+1,1,none⟩=some (.int .i64 j)/\c.cell? ⟨w.heap.size+1,2,none⟩=some (.string l)) (go_keep)
  (first
   |(go_at_call 263;refine(Kt _ _ _).mono ?_;rintro e c ⟨rfl,rfl⟩)
   |(go_at_call 283;refine(Ks _ _ _).mono ?_;rintro e c ⟨rfl,rfl⟩)
   |(go_at_call 282;refine(Ags _ (CN d f) (CN h j) (Lib.compareBytes k.data.toList l.data.toList) _ ?_ ?_ ?_).mono ?_;(go_simp);(go_simp);(go_simp);rintro e c ⟨rfl,rfl⟩))
 all_goals
  go_wp2;go_ret;refine⟨rfl,?_⟩
  repeat (first|exact bR|apply KD|(refine DH ?_ (by simp<;>omega) _))
end Go.Proofs.YtfkihidbnfkbaaaGreatDoor.vl
namespace Go.Proofs.YtfkihidbnfkbaaaGreatDoor.bf
variable {W W' : World} {B B' : Nat}
def TV{m c:Nat}{P:Program}{f:FuncId}{args:Array Value}{R:Ending->World->Prop}(h:CallsIn Fence.wide m P f args W R):CallsIn Fence.wide c P f args W R:=DM.2 (DM.1 h)
def Acy(P:Program)(gf:Nat)(lb:Array Value)(xs:List (Array Value))(Kp:World->World->Prop)(w:World):Prop:=
 ∀(l:Nat) (J:Nat->World->Prop) (Jx:Unit->World->Prop) (W:World),Ϣ w W->OwnFrom W.heap.size J->OwnFrom W.heap.size Jx->
  (∀k x W1,xs[k]? =some x->J k W1->YieldAt Fence.wide 0 P l x W1 λe W'=>KeepsFrom W.heap.size W1 W'/\((e= .returned (.bool true)/\J (k+1) W'/\Kp W1 W')\/(e= .returned (.bool false)/\Jx () W')))->
  J 0 W->CallsIn Fence.wide 0 P gf (#[.func (.yield l) #[] #[]]++lb) W λe W'=>(∃v,e= .returned v)/\(J (ϲ xs) W'\/Jx () W')
def leftAs(B:Nat)(Kp:World->World->Prop)(I:World->Prop)(Ix:Code->World->Prop)(W:World):Exit->Act->World->Prop
 | .normal,_,W'=>KeepsFrom B W W'/\Kp W W'/\I W'
 | .ret,_,W'=>KeepsFrom B W W'/\Ix .ret W'
 | .exit id,_,W'=>KeepsFrom B W W'/\Ix (.exit id) W'
 | .goto t,_,W'=>KeepsFrom B W W'/\Ix (.goto t) W'
 | .panic _,_,_=>False
 | .outgrown,_,_=>False
def Iz(h:KeepsFrom B W W')(c:B<=B'):KeepsFrom B' W W':=⟨h.size,λk o d=>h.same k o (B0 c d)⟩
def Hy{l:Nat}(W:World)(o:Obj)(d:l<B):KeepsFrom B W (W.putObj l o):=⟨by simp,λk e c h _=>(Ts (by omega)).trans h⟩
def Acz{β:Type}{I:β->World->Prop}(h:OwnFrom B I)(d:B<=B'):OwnFrom B' I:=λs W W' k j f c=>h s W W' k j f (λr e=>⟨B0 d (c r e).1,(c r e).2⟩)
def stays{k:Nat}{o:Obj}{c:Option Nat}(d:W.grownBy W' c)(f:∀r,c=some r->B<=r)(j:k<B)(h:W.heap[k]? =some o):W'.heap[k]? =some o:=
 (d.block k (GS.1 h).1 (λe=>by have:=f k e.symm;omega)).trans h
section
variable {P : Program} {g : Operand} {ps : Array Tmp} {assign body : Code} {Q : Exit -> Act -> World -> Prop} {a : Act} {w : World} {gf : Nat} {lb : Array Value} {xs : List (Array Value)} {Kp : World -> World -> Prop} {w0 : World}
theorem DF(hg:a.eval g= .func (.func gf) #[] lb)(eg:∀args w,(callFunc gf args).run P w= .ok (.enter gf args) w)(ax:Acy P gf lb xs Kp w0)(av:Ϣ w0 w)(a0:∀x∈xs,x.size=ps.size)
 (af:∀{A B C:World},Kp A B->Kp B C->Kp A C) (ae:∀(W:World) (l:Nat) (o o':Obj),w.heap.size<=l->W.heap[l]? =some o->o.isCells=false->Kp W (W.putObj l o'))
 (I:Nat->World->Prop) (Ix:Code->World->Prop) (G:OwnFrom w.heap.size I) (T:OwnFrom w.heap.size Ix) (h0:I 0 w) (Ax:Nat->Act->World->Prop) (ag:∀k q,OwnFrom w.heap.size (λ(_:Unit) W=>Ax k q W))
 (ah:∀(l k:Nat) (x:Array Value) (W:World) (K:Act->World->Prop),xs[k]? =some x->I k W->(∀q W',KeepsFrom w.heap.size W W'->Kp W W'->I k W'->Ax k q W'->K q W')->
  assign.wpIn (Fence.wide.inRound l) 0 P (Exit.then K (λ_ _ _=>False)) {tmps:=(ps.zip x).foldl (λt (p,v)=>t.setIfInBounds p v) a.tmps,defers:=[]} W)
 (ai:∀(l k:Nat) (x:Array Value) (q:Act) (W:World),xs[k]? =some x->w.heap.size<=l->(∃r,W.heap[l]? =some (.loop r))->I k W->Ax k q W->body.wpIn (Fence.wide.inRound l) 0 P (leftAs w.heap.size Kp (I (k+1)) Ix W) q W)
 (aj:∀(D:Nat) (W:World),w.heap.size<=D->I (ϲ xs) W->W.heap[D]? =some (.deferred (some []))->Q .normal {a with defers:={target:=.collected D,args:=#[]}::a.defers} W)
 (al:∀(D:Nat) (c:Code) (W:World),w.heap.size<=D->Ix c W->W.heap[D]? =some (.deferred (some []))->c.wpIn Fence.wide 0 P Q {a with defers:={target:=.collected D,args:=#[]}::a.defers} W):
 (Code.rangeFunc g ps assign body).wpIn Fence.wide 0 P Q a w:=by
 refine wpIn_rangeFunc λfn a2=>?_;obtain⟨N,hN⟩:∃N,w.heap.size=N:=⟨_,rfl⟩
 -- the loop's record, in each of its states
 obtain⟨d,m⟩:∃d:LoopState->Option Code->Loop,d=λs p=>{state:=s,pending:=p,fn:=fn,tmps:=a.tmps,params:=ps,assign:=assign,body:=body,defers:=w.heap.size}:=⟨_,rfl⟩;have am:∀s p,(d s p).params=ps:=λs p=>by rw[m]
 obtain⟨V,U⟩:∃V,(w.alloc (.deferred (some []))).alloc (.loop (d .ready none))=V:=⟨_,rfl⟩;have ad:V.heap.size=N+2:=by rw[<-U];simp[hN]
 have aq:V.heap[N+1]? =some (.loop (d .ready none)):=by
  have h:=DE (w.alloc (.deferred (some []))) (.loop (d .ready none));rw[D0,hN,U]at h;exact h
 have ap:V.heap[N]? =some (.deferred (some [])):=by
  rw[<-U,<-hN];exact(LE _ _ _ (by simp)).trans (DE w _)
 have ar:Ϣ w V:=by rw[<-U];exact((RK _ _).alloc (HU _) _).alloc (by simp) _
 have ao:I 0 V:=by rw[<-U];exact G.alloc _ (G.alloc _ h0)
 rw[hN]at G T ag ae ai ah aj al;refine⟨N+1,[{target:=.collected N,args:=#[]}],V,{target:=.fn (.func gf) lb,args:=#[.func (.yield (N+1)) #[] #[]]},V,gf,#[.func (.yield (N+1)) #[] #[]]++lb,V,?_,?_,λ_ _=>trivial,?_,λh=>by simp[Fence.wide]at h,?_⟩
 ·have h:=run_enterLoop_outer (P:=P) (w:=w) fn a.tmps ps assign body;rw[<-U,<-hN,m];exact h
 ·simp only[resolve,hg];simp[go_sem]
 ·simp[invoke,go_sem,eg]
 ·refine TV ((ax (N+1)
   (λk W=>I k W/\W.heap[N+1]? =some (.loop (d .ready none))/\W.heap[N]? =some (.deferred (some [])))
   (λ_ W=> ∃c,Ix c W/\W.heap[N+1]? =some (.loop (d .done (some c)))/\W.heap[N]? =some (.deferred (some [])))
   V (bT av ar) ?_ ?_ ?_ ⟨ao,aq,ap⟩).mono ?_)
  ·rintro k W W' ab ⟨y,f,z⟩ H hr;have J:∀r,ab=some r->N+2<=r:=λr e=>by have:=(hr r e).1;omega
   exact⟨G k W W' ab y H (λr e=>⟨by have:=J r e;omega,(hr r e).2⟩),stays H J (by omega) f,stays H J (by omega) z⟩
  ·rintro _ W W' ab ⟨c,y,f,z⟩ H hr;have J:∀r,ab=some r->N+2<=r:=λr e=>by have:=(hr r e).1;omega
   exact⟨c,T c W W' ab y H (λr e=>⟨by have:=J r e;omega,(hr r e).2⟩),stays H J (by omega) f,stays H J (by omega) z⟩
  ·-- a round
   rintro k x W hx ⟨y,f,z⟩;have a4:N+1<W.heap.size:=(GS.1 f).1;have hy:=run_yield (P:=P) (args:=x) f (by rw[am];exact a0 x (eD hx));refine⟨_,_,_,_,hy,roundIn_of_wpIn trivial ?_⟩;have e1:(d .ready none).tmps=a.tmps:=by rw[m]
   have e2:(d .ready none).assign=assign:=by rw[m]
   have e3:(d .ready none).body=body:=by rw[m]
   rw[am,e1,e2,e3];refine ah (N+1) k x W _ hx y (λq W2 kf ay aw au=>?_);have aa:=kf.same _ _ (by omega) f rfl;have an:=kf.same _ _ (by omega) z rfl;have a1:(d .ready none).state= .ready:=by rw[m]
   refine⟨_,run_beginRound aa a1,?_⟩;have hb:({d .ready none with state:=.busy}:Loop)=d .busy none:=by rw[m]
   rw[hb];obtain⟨X,E⟩:∃X,W2.putObj (N+1) (.loop (d .busy none))=X:=⟨_,rfl⟩;have az:N+1<W2.heap.size:=(GS.1 aa).1;have x1:X.heap[N+1]? =some (.loop (d .busy none)):=by rw[<-E];exact cO az
   have x2:X.heap[N]? =some (.deferred (some [])):=by rw[<-E];exact(Ts (by omega)).trans an
   have x3:I k X:=by rw[<-E];exact G.putObj _ aw (by omega) aa rfl
   have x4:Ax k q X:=by rw[<-E];exact(ag k q).putObj (s:=()) _ au (by omega) aa rfl
   have x6:KeepsFrom (N+2) W X:=(Iz kf (by omega)).trans (by rw[<-E];exact Hy _ _ (by omega));have x5:Kp W X:=af ay (by rw[<-E];exact ae _ _ _ _ (by omega) aa rfl);rw[E];clear E
   -- behind the round
   have ac:∀(j:Option Code) (Y:World),KeepsFrom N X Y->
    (Instr.endRound (N+1) j).run P Y= .ok (.bool j.isNone) (Y.putObj (N+1) (.loop (d (if j.isNone then .ready else .done) j)))/\Y.heap[N+1]? =some (.loop (d .busy none))/\
    (Y.putObj (N+1) (.loop (d (if j.isNone then .ready else .done) j))).heap[N+1]? =some (.loop (d (if j.isNone then .ready else .done) j))/\
    (Y.putObj (N+1) (.loop (d (if j.isNone then .ready else .done) j))).heap[N]? =some (.deferred (some [])):=λj Y hk=>by
    have y1:=hk.same _ _ (by omega) x1 rfl;have y2:=hk.same _ _ (by omega) x2 rfl;have ak:=run_endRound (P:=P) j y1;have e:({d .busy none with state:=if j.isNone then .ready else .done,pending:=j}:Loop)=d (if j.isNone then .ready else .done) j:=by rw[m]
    rw[e]at ak;exact⟨ak,y1,cO (GS.1 y1).1,(Ts (by omega)).trans y2⟩
   refine wpIn_mono (ai (N+1) k x q X hx (by omega) ⟨_,x1⟩ x3 x4) ?_;rintro e a3 Y Z
   cases e with
   |normal=>
    obtain⟨u,p2,L⟩:=Z;obtain⟨M,F,O,R⟩:=ac none Y u;exact⟨_,_,M,by rw[ad];exact(x6.trans (Iz u (by omega))).trans (Hy _ _ (by omega)),.inl ⟨rfl,⟨G.putObj _ L (by omega) F rfl,O,R⟩,af (af x5 p2) (ae _ _ _ _ (by omega) F rfl)⟩⟩
   |ret=>
    obtain⟨u,L⟩:=Z;obtain⟨M,F,O,R⟩:=ac (some .ret) Y u;exact⟨_,_,M,by rw[ad];exact(x6.trans (Iz u (by omega))).trans (Hy _ _ (by omega)),.inr ⟨rfl,.ret,T.putObj _ L (by omega) F rfl,O,R⟩⟩
   |exit id=>
    obtain⟨u,L⟩:=Z;obtain⟨M,F,O,R⟩:=ac (some (.exit id)) Y u;exact⟨_,_,M,by rw[ad];exact(x6.trans (Iz u (by omega))).trans (Hy _ _ (by omega)),.inr ⟨rfl,.exit id,T.putObj _ L (by omega) F rfl,O,R⟩⟩
   |goto t=>
    obtain⟨u,L⟩:=Z;obtain⟨M,F,O,R⟩:=ac (some (.goto t)) Y u;exact⟨_,_,M,by rw[ad];exact(x6.trans (Iz u (by omega))).trans (Hy _ _ (by omega)),.inr ⟨rfl,.goto t,T.putObj _ L (by omega) F rfl,O,R⟩⟩
   |panic ch=>exact Z.elim
   |outgrown=>exact Z.elim
  ·-- behind the iterator
   rintro e W ⟨⟨v,rfl⟩,(⟨y,f,z⟩|⟨c,y,f,z⟩)⟩
   ·refine⟨none,_,?_,aj N _ (by omega) (G.putObj (.loop (d .exhausted none)) y (by omega) f rfl) ((Ts (by omega)).trans z)⟩;have h:=run_endLoop (P:=P) f (by rw[m];simp);rw[m]at h⊢;exact h
   ·refine⟨some c,_,?_,al N c _ (by omega) (T.putObj (.loop (d .exhausted (some c))) y (by omega) f rfl) ((Ts (by omega)).trans z)⟩;have h:=run_endLoop (P:=P) f (by rw[m];simp);rw[m]at h⊢;exact h
end
end Go.Proofs.YtfkihidbnfkbaaaGreatDoor.bf
namespace Go.Proofs.YtfkihidbnfkbaaaGreatDoor.tm
open Go.Proofs.Tryz
def Br(t:Int):Bool:=decide (-1099511627776<=t/\t<=1099511627776)
def L2(t:Int):Br t=true↔(-1099511627776<=t/\t<=1099511627776):=by simp[Br]
def Sd(t:Int):Br t=false↔ ¬(-1099511627776<=t/\t<=1099511627776):=by
 unfold Br;exact cP
def Dn(t:Int)(w:World):
 Calls Tryz.prog 197 #[.int .i64 t] w λe h=>e= .returned (.bool (Br t))/\h=w:=by
 by_cases d: -1099511627776<=t
 ·by_cases f:t<=1099511627776
  ·have c:Br t=true:=(L2 t).2 ⟨d,f⟩;rw[c];go_enter func197,ntmps197;go_wp2;go_ret;exact⟨rfl,rfl⟩
  ·have c:Br t=false:=(Sd t).2 (by omega);rw[c];go_enter func197,ntmps197;go_wp2;go_ret;exact⟨rfl,rfl⟩
 ·have c:Br t=false:=(Sd t).2 (by omega);rw[c];go_enter func197,ntmps197;go_wp2;go_ret;exact⟨rfl,rfl⟩
def B7(t:Int)(w:World):
 Calls Tryz.prog 148 #[.int .i64 t] w λe h=>e= .returned (.bool (Br t))/\h=w:=by
 by_cases d: -1099511627776<=t
 ·by_cases f:t<=1099511627776
  ·have c:Br t=true:=(L2 t).2 ⟨d,f⟩;rw[c];go_enter func148,ntmps148;go_wp2;go_ret;exact⟨rfl,rfl⟩
  ·have c:Br t=false:=(Sd t).2 (by omega);rw[c];go_enter func148,ntmps148;go_wp2;go_ret;exact⟨rfl,rfl⟩
 ·have c:Br t=false:=(Sd t).2 (by omega);rw[c];go_enter func148,ntmps148;go_wp2;go_ret;exact⟨rfl,rfl⟩
def FK(zs:List Int)(k:Nat)(h:k<ϲ zs):(zs.take (k+1)).all Br=((zs.take k).all Br&&Br (zs[k]?.getD 0)):=by
 rw[M1 h,all_append,fT h];simp only[all_cons,all_nil,Bool.and_true,bF]
def Agt(zs:List Int)(k:Nat)(h:k<ϲ zs)(c:Br (zs[k]?.getD 0)=false):zs.all Br=false:=by
 rw[eE];exact⟨zs[k],GE h,by simpa[fT h]using c⟩
theorem W6(b:Nat)(zs:List Int)(w:World)(x:ϲ zs<=100)
 (q:∀i,i<ϲ zs->w.cell? ⟨b,i,none⟩=some (.int .i64 (zs[i]?.getD 0))):
 Calls Tryz.prog 366 #[.slice (some ⟨b,0,none⟩) (ϲ zs) (ϲ zs)] w λe l=>e= .returned (.bool (zs.all Br))/\l=w:=by
 go_enter func366,ntmps366;go_wp2
 go_loop [7] (λi=> ∃k:Nat,k<=ϲ zs/\i= .int .i64 k/\(zs.take k).all Br=true) (λi=>ϲ zs - (intOf i).toNat)
 case atStart=>exact⟨0,At _,rfl,rfl⟩
 case round=>
  obtain⟨k,u,rfl,p⟩:=hrel;have m:=hV0 p;clear p;by_cases c:k<ϲ zs
  ·have s:=q k c;obtain⟨z,j⟩:=nM (zs[k]?.getD 0);rw[j]at s;have o:=hV0 j;clear q j;by_cases r:Br z=true
   ·go_wp2_with (go_at_call 197;refine(Dn _ _).mono ?_;rintro e l ⟨rfl,d⟩;subst d)
    go_round
    case rel=>exact⟨k+1,by omega,by go_num,by rw[FK zs k c,m.o,o.o,r];rfl⟩
    case measure=>simp[intOf];omega
   ·have t:Br z=false:=by simpa using r
    have f:ϡ (zs.all Br=false):=Agt zs k c (by rw[o.o];exact t);go_wp2_with (go_at_call 197;refine(Dn _ _).mono ?_;rintro e l ⟨rfl,d⟩;subst d);go_ret;exact⟨by rw[f.o];rfl,rfl⟩
  ·have f:ϡ (zs.all Br=true):=by
    show zs.all Br=true;have h:=m.o;rwa[KI (by omega)]at h
   go_wp2;go_ret;exact⟨by rw[f.o];rfl,rfl⟩
end Go.Proofs.YtfkihidbnfkbaaaGreatDoor.tm
namespace Go.Proofs
def Tryz.sortE_ren:Go.Shelf.Ren:=⟨fun|6=>351|15=>301|14=>362|28=>313|29=>314|20=>368|21=>369|22=>370|23=>371|24=>372|25=>373|26=>374|27=>375|46=>379|47=>316|48=>317|49=>380|50=>381|57=>382|n=>n,fun|22=>33|24=>166|25=>248|3=>3|39=>60|0=>0|53=>26|55=>163|4=>4|46=>361|45=>360|50=>280|5=>5|9=>9|66=>369|70=>316|76=>374|77=>375|n=>n,fun|n=>n⟩
theorem Tryz.sortE:Go.Proofs.SlLaysF0.n6 Tryz.prog Tryz.sortE_ren:={
 mixed:=by kernel_rfl
 f6:=⟨Tryz.f351.name,by decide,Tryz.func351.trans (congrArg some (by kernel_rfl))⟩
 f14:=⟨Tryz.f362.name,by decide,Tryz.func362.trans (congrArg some (by kernel_rfl))⟩
 f15:=Tryz.func301.trans (congrArg some (by kernel_rfl))
 f20:=⟨Tryz.f368.name,by decide,Tryz.func368.trans (congrArg some (by kernel_rfl))⟩
 f21:=⟨Tryz.f369.name,by decide,Tryz.func369.trans (congrArg some (by kernel_rfl))⟩
 f22:=⟨Tryz.f370.name,by decide,Tryz.func370.trans (congrArg some (by kernel_rfl))⟩
 f23:=⟨Tryz.f371.name,by decide,Tryz.func371.trans (congrArg some (by kernel_rfl))⟩
 f24:=⟨Tryz.f372.name,by decide,Tryz.func372.trans (congrArg some (by kernel_rfl))⟩
 f25:=⟨Tryz.f373.name,by decide,Tryz.func373.trans (congrArg some (by kernel_rfl))⟩
 f26:=⟨Tryz.f374.name,by decide,Tryz.func374.trans (congrArg some (by kernel_rfl))⟩
 f27:=⟨Tryz.f375.name,by decide,Tryz.func375.trans (congrArg some (by kernel_rfl))⟩
 f28:=Tryz.func313.trans (congrArg some (by kernel_rfl))
 f29:=Tryz.func314.trans (congrArg some (by kernel_rfl))
 f46:=⟨Tryz.f379.name,by decide,Tryz.func379.trans (congrArg some (by kernel_rfl))⟩
 f47:=Tryz.func316.trans (congrArg some (by kernel_rfl))
 f48:=Tryz.func317.trans (congrArg some (by kernel_rfl))
 f49:=⟨Tryz.f380.name,by decide,Tryz.func380.trans (congrArg some (by kernel_rfl))⟩
 f50:=⟨Tryz.f381.name,by decide,Tryz.func381.trans (congrArg some (by kernel_rfl))⟩
 f57:=⟨Tryz.f382.name,by decide,Tryz.func382.trans (congrArg some (by kernel_rfl))⟩
 t0:=Tryz.underlying0
 a0:=Tryz.isAgg0
 z0:=Tryz.sizeOf0
 v0:=Tryz.zeroValue0
 t3:=Tryz.underlying3
 a3:=Tryz.isAgg3
 z3:=Tryz.sizeOf3
 v3:=Tryz.zeroValue3
 t4:=Tryz.underlying4
 a4:=Tryz.isAgg4
 z4:=Tryz.sizeOf4
 v4:=Tryz.zeroValue4
 t5:=Tryz.underlying5
 a5:=Tryz.isAgg5
 z5:=Tryz.sizeOf5
 v5:=Tryz.zeroValue5
 t9:=Tryz.underlying9
 a9:=Tryz.isAgg9
 z9:=Tryz.sizeOf9
 v9:=Tryz.zeroValue9
 t22:=Tryz.underlying33
 a22:=Tryz.isAgg33
 z22:=Tryz.sizeOf33
 v22:=Tryz.zeroValue33
 t25:=Tryz.underlying248
 a25:=Tryz.isAgg248
 z25:=Tryz.sizeOf248
 v25:=Tryz.zeroValue248
 t39:=Tryz.underlying60
 a39:=Tryz.isAgg60
 z39:=Tryz.sizeOf60
 v39:=Tryz.zeroValue60
 t45:=Tryz.underlying360
 a45:=Tryz.isAgg360
 z45:=Tryz.sizeOf360
 v45:=Tryz.zeroValue360
 t46:=Tryz.underlying361
 a46:=Tryz.isAgg361
 z46:=Tryz.sizeOf361
 v46:=Tryz.zeroValue361
 t50:=Tryz.underlying280
 a50:=Tryz.isAgg280
 z50:=Tryz.sizeOf280
 v50:=Tryz.zeroValue280
 t53:=Tryz.underlying26
 a53:=Tryz.isAgg26
 z53:=Tryz.sizeOf26
 v53:=Tryz.zeroValue26
 t55:=Tryz.underlying163
 a55:=Tryz.isAgg163
 z55:=Tryz.sizeOf163
 v55:=Tryz.zeroValue163
 t66:=Tryz.underlying369
 a66:=Tryz.isAgg369
 z66:=Tryz.sizeOf369
 v66:=Tryz.zeroValue369
 t70:=Tryz.underlying316
 a70:=Tryz.isAgg316
 z70:=Tryz.sizeOf316
 v70:=Tryz.zeroValue316
 t76:=Tryz.underlying374
 a76:=Tryz.isAgg374
 z76:=Tryz.sizeOf374
 v76:=Tryz.zeroValue374
 t77:=Tryz.underlying375
 a77:=Tryz.isAgg375
 z77:=Tryz.sizeOf375
 v77:=Tryz.zeroValue375}
end Go.Proofs
namespace Go.Proofs
def Tryz.keys267_ren:Go.Shelf.Ren:=⟨fun|7=>267|10=>292|n=>n,fun|23=>223|26=>9|3=>3|28=>332|0=>0|27=>331|33=>28|4=>4|n=>n,fun|n=>n⟩
theorem Tryz.keys267:Go.Proofs.SlLaysZ.n7 Tryz.prog Tryz.keys267_ren:={
 mixed:=by kernel_rfl
 f7:=⟨Tryz.f267.name,by decide,Tryz.func267.trans (congrArg some (by kernel_rfl))⟩
 f10:=⟨Tryz.f292.name,by decide,Tryz.func292.trans (congrArg some (by kernel_rfl))⟩
 t0:=Tryz.underlying0
 a0:=Tryz.isAgg0
 z0:=Tryz.sizeOf0
 v0:=Tryz.zeroValue0
 t4:=Tryz.underlying4
 a4:=Tryz.isAgg4
 z4:=Tryz.sizeOf4
 v4:=Tryz.zeroValue4
 t23:=Tryz.underlying223
 a23:=Tryz.isAgg223
 z23:=Tryz.sizeOf223
 v23:=Tryz.zeroValue223
 t26:=Tryz.underlying9
 a26:=Tryz.isAgg9
 z26:=Tryz.sizeOf9
 v26:=Tryz.zeroValue9
 t27:=Tryz.underlying331
 a27:=Tryz.isAgg331
 z27:=Tryz.sizeOf331
 v27:=Tryz.zeroValue331
 t28:=Tryz.underlying332
 a28:=Tryz.isAgg332
 z28:=Tryz.sizeOf332
 v28:=Tryz.zeroValue332
 t33:=Tryz.underlying28
 a33:=Tryz.isAgg28
 z33:=Tryz.sizeOf28
 v33:=Tryz.zeroValue28}
def Tryz.sorted266_ren:Go.Shelf.Ren:=⟨fun|6=>266|8=>290|9=>291|11=>299|13=>301|12=>300|23=>313|24=>314|14=>304|15=>305|16=>306|17=>307|18=>308|19=>309|20=>310|21=>311|22=>312|25=>315|26=>316|27=>317|28=>318|29=>319|30=>320|31=>321|n=>n,fun|26=>9|28=>332|24=>226|0=>0|3=>3|37=>60|48=>26|50=>163|4=>4|40=>361|39=>360|45=>280|5=>5|9=>9|51=>369|55=>316|57=>374|58=>375|33=>28|n=>n,fun|n=>n⟩
theorem Tryz.sorted266:Go.Proofs.SlLaysZ.n6 Tryz.prog Tryz.sorted266_ren:={
 mixed:=by kernel_rfl
 f6:=⟨Tryz.f266.name,by decide,Tryz.func266.trans (congrArg some (by kernel_rfl))⟩
 f8:=⟨Tryz.f290.name,by decide,Tryz.func290.trans (congrArg some (by kernel_rfl))⟩
 f11:=⟨Tryz.f299.name,by decide,Tryz.func299.trans (congrArg some (by kernel_rfl))⟩
 t0:=Tryz.underlying0
 a0:=Tryz.isAgg0
 z0:=Tryz.sizeOf0
 v0:=Tryz.zeroValue0
 t24:=Tryz.underlying226
 a24:=Tryz.isAgg226
 z24:=Tryz.sizeOf226
 v24:=Tryz.zeroValue226
 t26:=Tryz.underlying9
 a26:=Tryz.isAgg9
 z26:=Tryz.sizeOf9
 v26:=Tryz.zeroValue9
 t28:=Tryz.underlying332
 a28:=Tryz.isAgg332
 z28:=Tryz.sizeOf332
 v28:=Tryz.zeroValue332
 i26:=by kernel_rfl}
def Tryz.sort291_ren:Go.Shelf.Ren:=⟨fun|6=>291|8=>301|9=>300|19=>313|20=>314|21=>304|22=>305|23=>306|24=>307|25=>308|26=>309|27=>310|28=>311|29=>312|36=>315|31=>316|32=>317|37=>318|38=>319|39=>320|41=>321|n=>n,fun|27=>226|29=>9|3=>3|32=>60|26=>226|0=>0|44=>26|46=>163|4=>4|36=>361|35=>360|41=>280|5=>5|9=>9|53=>369|57=>316|63=>374|64=>375|n=>n,fun|n=>n⟩
theorem Tryz.sort291:Go.Proofs.SlLaysM.n6 Tryz.prog Tryz.sort291_ren:={
 mixed:=by kernel_rfl
 f6:=⟨Tryz.f291.name,by decide,Tryz.func291.trans (congrArg some (by kernel_rfl))⟩
 f8:=Tryz.func301.trans (congrArg some (by kernel_rfl))
 f9:=⟨Tryz.f300.name,by decide,Tryz.func300.trans (congrArg some (by kernel_rfl))⟩
 f19:=Tryz.func313.trans (congrArg some (by kernel_rfl))
 f20:=Tryz.func314.trans (congrArg some (by kernel_rfl))
 f21:=⟨Tryz.f304.name,by decide,Tryz.func304.trans (congrArg some (by kernel_rfl))⟩
 f22:=⟨Tryz.f305.name,by decide,Tryz.func305.trans (congrArg some (by kernel_rfl))⟩
 f23:=⟨Tryz.f306.name,by decide,Tryz.func306.trans (congrArg some (by kernel_rfl))⟩
 f24:=⟨Tryz.f307.name,by decide,Tryz.func307.trans (congrArg some (by kernel_rfl))⟩
 f25:=⟨Tryz.f308.name,by decide,Tryz.func308.trans (congrArg some (by kernel_rfl))⟩
 f26:=⟨Tryz.f309.name,by decide,Tryz.func309.trans (congrArg some (by kernel_rfl))⟩
 f27:=⟨Tryz.f310.name,by decide,Tryz.func310.trans (congrArg some (by kernel_rfl))⟩
 f28:=⟨Tryz.f311.name,by decide,Tryz.func311.trans (congrArg some (by kernel_rfl))⟩
 f29:=⟨Tryz.f312.name,by decide,Tryz.func312.trans (congrArg some (by kernel_rfl))⟩
 f31:=Tryz.func316.trans (congrArg some (by kernel_rfl))
 f32:=Tryz.func317.trans (congrArg some (by kernel_rfl))
 f36:=⟨Tryz.f315.name,by decide,Tryz.func315.trans (congrArg some (by kernel_rfl))⟩
 f37:=⟨Tryz.f318.name,by decide,Tryz.func318.trans (congrArg some (by kernel_rfl))⟩
 f38:=⟨Tryz.f319.name,by decide,Tryz.func319.trans (congrArg some (by kernel_rfl))⟩
 f39:=⟨Tryz.f320.name,by decide,Tryz.func320.trans (congrArg some (by kernel_rfl))⟩
 f41:=⟨Tryz.f321.name,by decide,Tryz.func321.trans (congrArg some (by kernel_rfl))⟩
 t0:=Tryz.underlying0
 a0:=Tryz.isAgg0
 z0:=Tryz.sizeOf0
 v0:=Tryz.zeroValue0
 t3:=Tryz.underlying3
 a3:=Tryz.isAgg3
 z3:=Tryz.sizeOf3
 v3:=Tryz.zeroValue3
 t4:=Tryz.underlying4
 a4:=Tryz.isAgg4
 z4:=Tryz.sizeOf4
 v4:=Tryz.zeroValue4
 t5:=Tryz.underlying5
 a5:=Tryz.isAgg5
 z5:=Tryz.sizeOf5
 v5:=Tryz.zeroValue5
 t9:=Tryz.underlying9
 a9:=Tryz.isAgg9
 z9:=Tryz.sizeOf9
 v9:=Tryz.zeroValue9
 t26:=Tryz.underlying226
 a26:=Tryz.isAgg226
 z26:=Tryz.sizeOf226
 v26:=Tryz.zeroValue226
 t27:=Tryz.underlying226
 a27:=Tryz.isAgg226
 z27:=Tryz.sizeOf226
 v27:=Tryz.zeroValue226
 t29:=Tryz.underlying9
 a29:=Tryz.isAgg9
 z29:=Tryz.sizeOf9
 v29:=Tryz.zeroValue9
 t32:=Tryz.underlying60
 a32:=Tryz.isAgg60
 z32:=Tryz.sizeOf60
 v32:=Tryz.zeroValue60
 t35:=Tryz.underlying360
 a35:=Tryz.isAgg360
 z35:=Tryz.sizeOf360
 v35:=Tryz.zeroValue360
 t36:=Tryz.underlying361
 a36:=Tryz.isAgg361
 z36:=Tryz.sizeOf361
 v36:=Tryz.zeroValue361
 t41:=Tryz.underlying280
 a41:=Tryz.isAgg280
 z41:=Tryz.sizeOf280
 v41:=Tryz.zeroValue280
 t44:=Tryz.underlying26
 a44:=Tryz.isAgg26
 z44:=Tryz.sizeOf26
 v44:=Tryz.zeroValue26
 t46:=Tryz.underlying163
 a46:=Tryz.isAgg163
 z46:=Tryz.sizeOf163
 v46:=Tryz.zeroValue163
 t53:=Tryz.underlying369
 a53:=Tryz.isAgg369
 z53:=Tryz.sizeOf369
 v53:=Tryz.zeroValue369
 t57:=Tryz.underlying316
 a57:=Tryz.isAgg316
 z57:=Tryz.sizeOf316
 v57:=Tryz.zeroValue316
 t63:=Tryz.underlying374
 a63:=Tryz.isAgg374
 z63:=Tryz.sizeOf374
 v63:=Tryz.zeroValue374
 t64:=Tryz.underlying375
 a64:=Tryz.isAgg375
 z64:=Tryz.sizeOf375
 v64:=Tryz.zeroValue375}
def Tryz.sorts266(m:Nat):AnyZ.SortsIn Tryz.prog Tryz.sorted266_ren Fence.wide m:=
 ⟨λd j c k W e f h=>callsIn_wide.2 (AnyM.slices_Sort_string Tryz.sort291 d j c k W e f h),
  λp c W=>callsIn_wide.2 (AnyM.slices_Sort_string_none Tryz.sort291 p c W)⟩
def Tryz.maps_Keys_267(c:Option Nat)(W:World):CallsIn Fence.wide 5 Tryz.prog 267 #[.map c] W λe d=>e= .returned (.func (.func 292) #[] #[.pointer (some ⟨W.heap.size,0,none⟩)])/\d=W.alloc (.cells #[.map c] 223):=
 AnyZ.keys_in Tryz.keys267 Fence.wide 5 trivial rfl c W
theorem Tryz.slices_Sorted_keys_266_267{H:Type}(b h:Nat)(c:DataW H)(R:Value->Option (DataW H×List MemPlace))(w:World)(f:w.ownsMap Tryz.prog 9 R b h c)(s:Maps.size c<=maxLen)(r:Maps.size c * 16<=140737488355328):
 CallsIn Fence.wide 5 Tryz.prog 266 #[.func (.func 292) #[] #[.pointer (some ⟨w.heap.size,0,none⟩)]] (w.alloc (.cells #[.map (some b)] 223)) λe j=> ∃(v:Value) (d:List (List UInt8)),e= .returned v/\d.Perm (strKeys c)/\
  j.ownsRow (w.alloc (.cells #[.map (some b)] 223)).heap.size 9 1 v (ϲ d) ((d.mergeSort (λx y=>decide (x<=y))).map encStr)/\(v= .slice none 0 0↔d=[])/\Below (w.alloc (.cells #[.map (some b)] 223)).heap.size (w.alloc (.cells #[.map (some b)] 223)) j:=by
 have q:=f.lt;have u:SeqGives Fence.wide 2 Tryz.prog 292 #[.pointer (some ⟨w.heap.size,0,none⟩)] encStr (λd=>d.Perm (strKeys c)) (Maps.size c) (w.alloc (.cells #[.map (some b)] 223)):=
  AnyZ.keys_gives (ρ:=Tryz.keys267_ren) {Tryz.keys267 with} Fence.wide _ trivial rfl (by omega) w.heap.size b h c _ (by simp) (by simp) (by
   obtain⟨m,l,p,k,t,o⟩:=f;exact⟨m,l,(Below.heap_alloc _ _ b q).trans p,k,t,o⟩)
 exact AnyZ.sorted_in Tryz.sorted266 Fence.wide 5 trivial trivial trivial trivial rfl (by omega) (Tryz.sorts266 _) (enters_of Tryz.func291 (by kernel_rfl) rfl) 292 #[.pointer (some ⟨w.heap.size,0,none⟩)] trivial (enters_of Tryz.func292 (by kernel_rfl) rfl) _ _ s r _ u
end Go.Proofs
namespace Go.Proofs.YtfkihidbnfkbaaaGreatDoor.cd
def Se:List Nat:=[0x00000000,0x1DB71064,0x3B6E20C8,0x26D930AC,0x76DC4190,0x6B6B51F4,0x4DB26158,0x5005713C,0xEDB88320,0xF00F9344,0xD6D6A3E8,0xCB61B38C,0x9B64C2B0,0x86D3D2D4,0xA00AE278,0xBDBDF21C]
def nibS(c:Nat):Nat:=(c>>>4) ^^^ Se.getD (c % 16) 0
end Go.Proofs.YtfkihidbnfkbaaaGreatDoor.cd
