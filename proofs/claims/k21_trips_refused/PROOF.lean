import PyProof.Rows.All
import Wide.All
import OpenK.AllK
import Wide.FinOn
import Lean
import PyProof.EqAt
import PyProof.EqKinds
import PyProof.TupleCall
import PyProof.NeKinds
import PyProof.Rows.CountFlat
import PyProof.Rows.SumAny
import PyProof.Rows.Range3
import KE.KEqDict
import KE.KRevIter
import PyProof.DictIter
import PyProof.DictWalks
import PyProof.IsiH_list
import KE.KDictOf
import PyProof.Rows.SetFrom
import PyProof.Conv_int_bool
import PyProof.Rows.StrNews
import PyProof.CallStr
import PyProof.Rows.StrMeet
import PyProof.FitsReplace
import PyProof.MeetsStr3
import PyProof.Rows.StrSplitAre
import PyProof.StrLawsIn
import PyProof.ReprLen
import PyProof.StrLawsChain
import KE.IntTextLaws
import PyProof.Rows.StrClose5
import KE.KSortTup
import PyProof.Rows.SortKey
import PyProof.DictUpdate
import KE.KDictSum
import PyProof.WalksEnum
import PyProof.EnumMake
import PyProof.ZipIter
import PyProof.Rows.EnumRows
import PyProof.Rows.ZipForRows
import PyProof.Rows.FactsT2
import PyProof.Rows.SortStr
import PyProof.TupleIter
import PySem.Challenge.RW_fleetpath_k21_trips_refused
set_option compiler.extract_closed false
set_option bootstrap.genMatcherCode false
set_option genInjectivity false
set_option genSizeOf false
set_option genSizeOfSpec false
set_option Elab.async false
set_option linter.all false
set_option maxRecDepth 100000
noncomputable section
def f8:=@PySem.wpAny_bind
def u8:=@List.length_map
def v4:=@PySem.Heap.get?_push_of_some
def N8:=@Option.map_eq_some_iff
def N9:=@List.length_cons
def O0:=@PySem.wpAny_pure
def O1:=@List.mem_cons_self
def O2:=@Nat.le_refl
def O3:=@List.mem_cons_of_mem
def O4:=@decide_eq_true
def O5:=@PySem.Heap.lt_size
def O6:=@decide_eq_false
def O7:=@Nat.le_of_ble_eq_true
def O8:=@List.map_cons
def O9:=@List.length_append
def P0:=@List.getElem?_eq_getElem
def P1:=@Nat.ne_of_lt
def P2:=@PySem.Heap.get?_push_size
def P4:=@Nat.lt_of_lt_of_le
def P5:=@Bool.false_ne_true
def P6:=@List.getElem?_eq_some_iff
def P7:=@Nat.le_trans
def P8:=@List.mem_cons
def P9:=@List.size_toArray
def R4:=@Int.emod_lt_of_pos
def R7:=@List.mem_append_right
def R8:=@List.append_nil
def R9:=@Option.bind_eq_some_iff
def S0:=@List.mem_singleton
def S4:=@List.getElem?_map
def S5:=@Int.emod_nonneg
def S6:=@List.getElem?_set_self
def S7:=@PySem.Heap.get?_update_other
def S8:=@List.getElem?_set_ne
def S9:=@beq_iff_eq
def T0:=@List.lookup_cons
def T1:=@List.map_append
def T2:=@List.getElem?_cons_succ
def T4:=@Option.some.inj
def T5:=@List.length_set
def T6:=@Nat.zero_le
def T7:=@Classical.choose_spec
def T9:=@List.mem_append
def a0a:=@Nat.lt_succ_self
def a0b:=@List.length_range
def a0c:=@PySem.wpAny_mono
def a0d:=@beq_eq_false_iff_ne
def a0e:=@congrArg
def a0f:=@List.length_take
def a0g:=@of_decide_eq_true
def a0h:=@List.getElem?_append_left
def a0i:=@PySem.wpAny_holding
def a0j:=@List.take_succ_eq_append_getElem
def a0k:=@PySem.W.mg_of
def a0l:=@PySem.sizeLine_eq
def a0m:=@List.append_assoc
def a0n:=@PySem.wpAny_field
def a0o:=@List.find?_cons
def a0p:=@List.any_cons
def a0q:=@Option.isSome_iff_exists
def a0r:=@PySem.Heap.get?_update_self
def a0s:=@List.mem_map
def a0t:=@Nat.lt_irrefl
def a0u:=@PySem.W.mg_none_of
def a0v:=@PySem.Heap.size_push
def a0w:=@Nat.le_succ
def a0x:=@PySem.wpAny_Call_Name_kw
def a0y:=@List.map_map
def a0z:=@List.getElem_map
def a0A:=@List.getElem_mem
def a0B:=@not_not_intro
def a0C:=@List.mem_range
def a0D:=@List.replicate_succ
def a0E:=@List.getD_eq_getElem?_getD
def a0F:=@List.length_singleton
def a0G:=@PySem.F.slot_dict_get
def a0H:=@Bool.false_xor
def a0I:=@PySem.wpAny_seqItems
def a0J:=@List.getElem?_replicate
def a0K:=@List.length_drop
def a0L:=@List.take_length
def a0M:=@PySem.wpAny_call
def a0N:=@Int.le_refl
def a0O:=@Nat.ne_of_gt
def a0P:=@PySem.codeAny_mono
def a0Q:=@PySem.W.callWith_K
def a0R:=@PySem.tupleKind_room_in1
def a0S:=@PySem.wpAny_setField_rec
def a0T:=@PySem.wpAny_passesOwn
def a0U:=@List.nodup_cons
def a0V:=@List.length_replicate
def a0W:=@List.foldl_cons
def a0X:=@List.length_nil
def a0Y:=@PySem.wpAny_attempt
def a0Z:=@PySem.F.slot_tuple_iterator_next
def a00:=@List.flatten_cons
def a01:=@PySem.wpAny_newObj_type
def a02:=@List.nodup_append
def a03:=@List.mem_of_mem_take
def a04:=@Bool.and_eq_true
def a05:=@beq_self_eq_true
def a06:=@PySem.mem_of_lookup
def a07:=@Array.length_toList
def a08:=@List.map_congr_left
def a09:=@PySem.Paired.length
def a1a:=@Bool.true_xor
def a1b:=@PySem.wpAny_execs_nil
def a1c:=@Nat.lt_of_le_of_lt
def a1d:=@Nat.not_lt_zero
def a1e:=@Sum.inr.inj
def a1f:=@PySem.F.entry_dict_get
def a1g:=@Option.isSome_map
def a1h:=@PySem.wpAny_loadPart
def a1i:=@List.getElem?_toArray
def a1j:=@PyProof.Rows.callWith_type1
def a1k:=@List.mem_of_getElem?
def a1l:=@PySem.codeAny_call_builtin
def a1m:=@List.all_eq_true
def a1n:=@PySem.wpAny_isInstance
def a1o:=@List.filter_cons
def a1p:=@Nat.succ_le_succ
def a1q:=@PySem.wpAny_standAt
def a1r:=@Array.getElem?_eq_some_iff
def a1s:=@List.map_take
def a1t:=@Int.toNat_of_nonneg
def a1u:=@List.mem_map_of_mem
def a1v:=@List.nil_append
def a1w:=@List.drop_eq_getElem_cons
def a1x:=@PySem.Calls.spliced_cons
def a1y:=@PySem.W.looks_findIn
def a1z:=@List.getElem_range
def a1A:=@PySem.wpAny_typeOf
def a1B:=@of_decide_eq_false
def a1C:=@List.eq_of_mem_replicate
def a1D:=@PySem.wpAny_setField
def a1E:=@PySem.wpAny_rule
def a1F:=@PySem.F.plainAttrs_list
def a1G:=@PySem.wpAny_truthy_bool
def a1H:=@Classical.not_not
def a1I:=@Nat.lt_succ_of_lt
def a1J:=@Nat.le_succ_of_le
def a1K:=@PySem.W.cellsFrom_some
def a1L:=@PySem.Calls.callWith_builtin
def a1M:=@List.take_of_length_le
def a1N:=@List.all_cons
def a1O:=@PySem.wpAny_onRaise
def a1P:=@List.sum_cons
def a1Q:=@PySem.wpAny_call_entry
def a1R:=@Nat.le_add_right
def a1S:=@PySem.builtinLookup_eq_fast
def a1T:=@List.getElem?_eq_none
def a1U:=@PySem.plainObj_wpAny_Assign_Attribute
def a1V:=@Nat.le_of_lt
def a1W:=@List.mem_append_left
def a1X:=@Nat.le_of_eq
def a1Y:=@List.of_mem_zip
def a1Z:=@PySem.Calls.evalArgs_plain
def a10:=@Nat.lt_trans
def a11:=@List.getElem?_append
def a12:=@PySem.wpAny_updateSeq_pair
def a13:=@PySem.F.slot_zip_next
def a14:=@List.filterMap_cons
def a15:=@PySem.W.plainGet_of
def a16:=@PySem.Heap.get?_update_ne
def a17:=@List.mergeSort_perm
def a18:=@PySem.Heap.SameBut.update
def a19:=@PySem.F.args_tuple_iterator_next_1
def a2a:=@PySem.W.looks_mroIn
def a2b:=@PySem.wpAny_of_eq
def a2c:=@PySem.wpAny_letGo
def a2d:=@PySem.wpAny_pyIter_tuple
def a2e:=@PySem.F.entry_tuple_iterator_next
def a2f:=@PySem.Calls.Name_function_global
def a2g:=@List.getElem?_append_right
def a2h:=@PySem.wpAny_newFunctionEnv_cells
def a2i:=@PySem.SeqAt.EqAt.bool_bool
def a2j:=@Array.perm_iff_toList_perm
def a2k:=@PyProof.Rows.listUpdate_at
def a2l:=@List.nodup_iff_pairwise_ne
def a2m:=@PySem.Within.cons
def a2n:=@PySem.Calls.spliced_nil
def a2o:=@Nat.le_of_succ_le
def a2p:=@PySem.wpAny_pyIter_list
def a2q:=@PySem.call_meets
def a2r:=@List.getElem?_eq_none_iff
def a2s:=@List.pairwise_iff_getElem
def a2t:=@PySem.wpAny_eqBool_int
def a2u:=@PySem.wpAny_execs_cons
def a2v:=@PySem.wpAny_lookBehind
def a2w:=@PySem.pastItsLine_dict
def a2x:=@List.map_nil
def a2y:=@PySem.call_meetsIn
def a2z:=@PySem.wpAny_mkText
def a2A:=@PySem.wpAny_comprehension_free
def a2B:=@List.drop_length
def a2C:=@PyProof.Rows.KeyOrd.kle_trans
def a2D:=@PyProof.Rows.KeyOrd.klt_asymm
def a2E:=@Array.toList_inj
def a2F:=@List.Perm.eq_of_pairwise
def a2G:=@PySem.F.args_dict_get_2
def a2H:=@PySem.F.args_dict_get_3
def a2I:=@PySem.F.plainAttrs_dict
def a2J:=@PySem.F.slot_list_count
def a2K:=@PySem.F.slot_list_index
def a2L:=@List.pairwise_singleton
def a2M:=@PySem.pushCells_keeps
def a2N:=@PySem.typeLookup_type
def a2O:=@PySem.wpAny_updateSeq
def a2P:=@PyProof.Rows.subscriptTail_builtinR
def a2Q:=@Array.getElem?_eq_none
def a2R:=@PySem.wpAny_throw
def a2S:=@PySem.codeAny_call_function
def a2T:=@List.nodup_nil
def a2U:=@PySem.F.type_dict_get
def a2V:=@PySem.W.methodCall_KW
def a2W:=@Bool.and_false
def a2X:=@List.length_filter_le
def a2Y:=@Bool.decide_or
def a2Z:=@PySem.wpAny_load
def a20:=@Array.mem_toList_iff
def a21:=@Bool.and_eq_true_iff
def a22:=@PySem.Around.under_plainId
def a23:=@List.mem_of_mem_drop
def a24:=@List.map_drop
def a25:=@PySem.plainId_quiet
def a26:=@Nat.add_le_add_left
def a27:=@PySem.SeqAt.EqAt.int_str
def a28:=@PySem.SeqAt.EqAt.str_int
def a29:=@Array.append_assoc
def a3a:=@List.mem_filterMap
def a3b:=@Array.find?_toList
def a3c:=@PySem.wpAny_nsSet1
def a3d:=@PySem.W.codeRec_of
def a3e:=@PySem.seqIndex_neg
def a3f:=@PySem.Code.quiet_builtin
def a3g:=@Nat.zero_add
def a3h:=@Array.forIn_toList
def a3i:=@List.pairwise_cons
def a3j:=@PySem.Obj.data_mapFields
def a3k:=@Array.append_empty
def a3l:=@PySem.seqIndex_of
def a3m:=@PySem.W.looks_clsIn
def a3n:=@PyProof.Rows.boot_sorted
section
open PySem PySem.Spec PyProof.Rows PySem.W
abbrev N_:=(Str->Option Value)
abbrev Oa:=(List (Addr×Obj))
abbrev Ob:=List Str
abbrev Oc:=(Value->Shared->Prop)
abbrev Od:=List Nat
abbrev Oe:=Shared
abbrev Of:=(Addr->Prop)
abbrev Og:=List Value
abbrev Oh:=List Bool
abbrev Oj:=PySem.W.Frag
abbrev Ol:=(Nat->Addr)
abbrev Om:=List Expr
abbrev Oq:=Expr
abbrev Ot:=Program
abbrev Ow:=List (Option Nat)
abbrev Ox:=World
abbrev Oy:=Around
abbrev OB:=List Int
abbrev OC:=FuncData
abbrev OD:=W.Frag
abbrev OF:=Frag
abbrev OG:=List Stmt
abbrev OH:=(List (Str×Addr))
abbrev OI:=Array (Option Value)
abbrev OJ:=(List (Str×NameKind))
abbrev OL:=Option Addr
abbrev ON:=Array Value
abbrev OO:=Stmt
abbrev OP:=List Addr
abbrev OQ:=Array Nat
abbrev OS:=(List (Str×Value))
abbrev OV:=Option Int
abbrev OY:=(Str->Option NameKind)
abbrev Pa:=(Nat->Nat->Bool)
abbrev Pc:=(Nat->Prop)
abbrev Pd:=Option Expr
abbrev Pe:=(Value->Option Bool)
abbrev Pf:=(Nat->Value)
end
abbrev Pg:List Nat:=[0,0,0,0,0,0,0,0,0,0,0]
namespace L2
open PySem PySem.Spec PyProof.Rows
abbrev Key:=Sum Int Str
abbrev OR:=List Key
abbrev OT:=(List (Key×Value))
abbrev OU:=(List (List Key×Int))
def gm:Key->Value->Bool
 |.inl k,v=>Value.isInt k v
 |.inr x,v=>Value.isStrOf x v
def Nn(w:Ox):Key->Int
 |.inl k=>hashInt k
 |.inr x=>hashStr w x
def qg:∀{k:Key}{v:Value},gm k v=true->(∃i t,k=Sum.inl i/\v=Value.int i t)\/(∃x t,k=Sum.inr x/\v=Value.str x t)
 |.inl i,v,h=>by obtain⟨t,e⟩:=Value.isInt_shape (k:=i) (v:=v) h;exact .inl ⟨i,t,rfl,e⟩
 |.inr x,v,h=>by obtain⟨t,e⟩:=Value.isStrOf_shape (x:=x) (v:=v) h;exact .inr ⟨x,t,rfl,e⟩
def oK(i:Int)(t:Tok):gm (.inl i) (.int i t)=true:=by simp[gm,Value.isInt]
def oM(x:Str)(t:Tok):gm (.inr x) (.str x t)=true:=by simp[gm,Value.isStrOf]
def E2(a b:Int):decide ((Sum.inl a:Key)=Sum.inl b)=(a==b):=by
 by_cases e:a=b
 .subst e;simp
 .have h:¬(Sum.inl a:Key)=Sum.inl b:=λq=>e (Sum.inl.inj q);rw[O6 h];exact(a0d.mpr e).symm
def E3(a b:Str):decide ((Sum.inr a:Key)=Sum.inr b)=decide (a=b):=by
 by_cases e:a=b
 .subst e;simp
 .have h:¬(Sum.inr a:Key)=Sum.inr b:=λq=>e (a1e q);rw[O6 h,O6 e]
def E4(a:Int)(b:Str):decide ((Sum.inl a:Key)=Sum.inr b)=false:=O6 (λq=>nomatch q)
def E5(a:Str)(b:Int):decide ((Sum.inr a:Key)=Sum.inl b)=false:=O6 (λq=>nomatch q)
def yY(prog:Ot)(w:Ox):PySem.KeyKind prog w Key where
 is:=gm
 hash:=Nn w
 inj:=λv a b ha hb=>by
  rcases qg ha with⟨i,t,rfl,rfl⟩|⟨x,t,rfl,rfl⟩
  .rcases qg hb with⟨j,u,rfl,e⟩|⟨y,u,rfl,e⟩
   .injection e with e1 _;rw[e1]
   .exact nomatch e
  .rcases qg hb with⟨j,u,rfl,e⟩|⟨y,u,rfl,e⟩
   .exact nomatch e
   .injection e with e1 _;rw[e1]
 byValue:=λk v h=>by rcases qg h with⟨i,t,rfl,rfl⟩|⟨x,t,rfl,rfl⟩<;>rfl
 pyHash:=λhv h=>by
  rcases qg hv with⟨i,t,rfl,rfl⟩|⟨x,t,rfl,rfl⟩
  .exact wpAny_pyHash_int h
  .exact wpAny_pyHash_str h
 eqBool:=λhu hv h=>by
  rcases qg hu with⟨i,t,rfl,rfl⟩|⟨x,t,rfl,rfl⟩
  .rcases qg hv with⟨j,u,rfl,rfl⟩|⟨y,u,rfl,rfl⟩
   .rw[E2]at h;exact a2t h
   .rw[E4]at h;exact a27 i t y u _ _ _ _ h
  .rcases qg hv with⟨j,u,rfl,rfl⟩|⟨y,u,rfl,rfl⟩
   .rw[E5]at h;exact a28 x t j u _ _ _ _ h
   .rw[E3]at h;exact wpAny_eqBool_str h
 «strs»:=λk x t v h=>by
  rcases qg h with⟨i,u,rfl,e⟩|⟨y,u,rfl,e⟩
  .exact nomatch e
  .injection e with e1 _
   subst e1;cases v<;>rfl
def mP(prog:Ot)(w:Ox)(k:Key)(v:Value):(yY prog w).is k v=gm k v:=rfl
def gp(prog:Ot)(w:Ox)(i:Int)(t:Tok):(yY prog w).is (.inl i) (.int i t)=true:=oK i t
def gq(prog:Ot)(w:Ox)(x:Str)(t:Tok):(yY prog w).is (.inr x) (.str x t)=true:=oM x t
inductive V where
 |non|bl (b:Bool)|int (i:Int)|str (x:Str)|byt (b:Array UInt8)|flt (b:UInt64)|ref (a:Addr)|ty (n:String)
 deriving DecidableEq
abbrev Oi:=List V
abbrev Oo:=(List (Key×V))
abbrev OE:=(List (Str×V))
abbrev OZ:=(List (List Key×V))
def RelV:V->Value->Prop
 |.non,u=>u=Value.none
 |.bl b,u=>u=Value.bool b
 |.int i,u=>∃t,u=Value.int i t
 |.str x,u=>∃t,u=Value.str x t
 |.byt b,u=>∃t,u=Value.bytes b t
 |.flt b,u=>∃t,u=Value.float b t
 |.ref a,u=>u=Value.ref a
 |.ty n,u=>u=Value.type n
abbrev Vals:List V->List Value->Prop:=Paired RelV
def Vals.length(r:Vals xs us):xs.length=us.length:=a09 r
def Vals.get:∀{xs:Oi}{us:Og}{i:Nat}{x:V},Vals xs us->xs[i]?=some x->∃u,us[i]?=some u/\RelV x u
 |_,_,_,_,.nil,e=>by simp at e
 |_,_,0,_,.cons r _,e=>by simp at e;subst e;exact⟨_,rfl,r⟩
 |_,_,i+1,x,.cons _ t,e=>by obtain⟨u,h1,h2⟩:=Vals.get (i:=i) (x:=x) t (by simpa using e);exact⟨u,by simpa using h1,h2⟩
def Vals.set{x:V}{u:Value}(r:RelV x u):∀{xs:Oi}{us:Og}(i:Nat),Vals xs us->Vals (xs.set i x) (us.set i u)
 |_,_,_,.nil=>.nil
 |_,_,0,.cons _ t=>.cons r t
 |_,_,i+1,.cons q t=>.cons q (Vals.set r i t)
def Vals.append:∀{xs ys:Oi}{us ws:Og},Vals xs us->Vals ys ws->Vals (xs++ys) (us++ws)
 |_,_,_,_,.nil,s=>s
 |_,_,_,_,.cons r t,s=>.cons r (Vals.append t s)
def Vals.take:∀{xs:Oi}{us:Og}(n:Nat),Vals xs us->Vals (xs.take n) (us.take n)
 |_,_,0,_=>.nil
 |_,_,_+1,.nil=>.nil
 |_,_,n+1,.cons r t=>.cons r (Vals.take n t)
def Vals.drop:∀{xs:Oi}{us:Og}(n:Nat),Vals xs us->Vals (xs.drop n) (us.drop n)
 |_,_,0,r=>r
 |_,_,_+1,.nil=>.nil
 |_,_,n+1,.cons _ t=>Vals.drop n t
def WN:Option V->Option Value->Prop
 |some v,some u=>RelV v u
 |none,none=>True
 |_,_=>False
def KV{κ:Type}:List (κ×V)->List (κ×Value)->Prop:=Paired λ(p:κ×V) (q:κ×Value)=>p.1=q.1/\RelV p.2 q.2
def kV:Key->V
 |.inl i=>.int i
 |.inr x=>.str x
inductive HO where
 |lst (xs:Oi)
 |tup (xs:Oi)
 |dK (kvs:Oo)|dT (kvs:OZ)
 |set (S:Int->Bool) (n:Nat)
 |ins (C dx:Addr) (fs:OE)
 |own (x:Addr)
 |xd (fs:OE)
 |met (f x:Addr)
 |rng (lo hi:Int)
 |frz (o:Obj) (u:HO)
 |tbl (ps:ON)
 |ext (φ:Heap->Prop)
abbrev Hp:=Addr->Option HO
def upd(H:Hp)(a:Addr)(o:HO):Hp:=λb=>if b=a then some o else H b
def zi:upd H a o a=some o:=by unfold upd;rw[if_pos rfl]
def zg(h:b≠a):upd H a o b=H b:=by unfold upd;rw[if_neg h]
def YE:upd (upd H a o) a u=upd H a u:=by
 funext b;unfold upd;split<;>rfl
def IV{H:Hp}{a b:Addr}{o u:HO}(h:H a=some o)(h':H b=some u)(d:o≠u):a≠b:=by intro e;subst e;rw[h]at h';exact d (T4 h')
def zZ{H:Hp}{a b:Addr}{o:HO}(h:H a=some o)(h':H b=none):a≠b:=by intro e;subst e;rw[h]at h';cases h'
section
variable (P:Ot) (w:Ox)
def qE(H:Hp)(h:Heap)(a:Addr):HO->Prop
 |.lst xs=>xs.length<=sizeLine/\∃(its:Og)(n:Nat),Vals xs its/\h.get? a=some { cls:=.type "list",data:=.seq its.toArray n }
 |.tup xs=>xs.length<=sizeLine/\∃its:List Value,Vals xs its/\IsTup h a its.toArray
 |.dK kvs=>kvs.length<=sizeLine/\(a==sysModules)=false/\∃vs,KV kvs vs/\h.DictOf (yY P w) a vs
 |.dT kvs=>kvs.length<=sizeLine/\(a==sysModules)=false/\∃xs:List (List Key×Addr×Value),
   Paired (λ(p:List Key×V) (q:List Key×Addr×Value)=>p.1=q.1/\H q.2.1=some (.tup (p.1.map kV))/\RelV p.2 q.2.2) kvs xs/\
   ∃o es ep,h.get? a=some o/\o.ExactDict/\o.data=.dict es ep/\es.toList=xs.map (entryOfKey (tupleKind (yY P w)))/\(xs.map (·.1)).Nodup
 |.set S n=>h.SetOf (intKind P w) a S n
 |.ins C dx fs=>H dx=some (.own a)/\fs.length<=1000/\dx≠a/\h.get? a=some (PySem.W.instObj C dx)/\
   ∃mA,h.Ns1 dx mA/\(∀f,WN (fs.lookup f) (mA f))/\PySem.Within mA (fs.map (·.1))
 |.own _=>∃o,h.get? a=some o
 |.xd fs=>∃mA,h.Ns1 a mA/\∀f,WN (fs.lookup f) (mA f)
 |.rng lo hi=>∃t u v,h.get? a=some { cls:=.type "range",data:=.fields #[.int lo t,.int hi u,.int 1 v] }
 |.frz o u=>h.get? a=some o/\qE H h a u
 |.tbl ps=>h.get? a=some { cls:=.none,data:=.fields ps }
 |.met f x=>h.get? a=some (PySem.W.methodObj (.ref f) (.ref x))
 |.ext φ=>φ h/\(∃o,h.get? a=some o)/\∀h1 h2:Heap,φ h1->(∀o,h1.get? a=some o->h2.get? a=some o)->φ h2
def HOk(H:Hp)(h:Heap):Prop:=∀a o,H a=some o->qE P w H h a o
end
section
variable {P:Ot}{w:Ox}{H H':Hp}{h h':Heap}{a:Addr}{o:HO}
def qE.lt(x:qE P w H h a o):a<h.objs.size:=by
 cases o with
 |lst xs=>obtain⟨_,_,_,_,e⟩:=x;exact O5 e
 |tup xs=>obtain⟨_,_,_,p⟩:=x;exact p.lt
 |dK kvs=>obtain⟨_,_,_,_,o,_,_,e,_⟩:=x;exact O5 e
 |dT kvs=>obtain⟨_,_,_,_,o,_,_,e,_⟩:=x;exact O5 e
 |set S n=>obtain⟨o,_,_,_,e,_⟩:=x;exact O5 e
 |ins C dx fs=>obtain⟨_,_,_,e,_⟩:=x;exact O5 e
 |own y=>obtain⟨_,e⟩:=x;exact O5 e
 |xd fs=>obtain⟨_,⟨_,_,_,e,_⟩,_⟩:=x;exact O5 e
 |rng lo hi=>obtain⟨_,_,_,e⟩:=x;exact O5 e
 |frz ob u=>obtain⟨e,_⟩:=x;exact O5 e
 |tbl ps=>exact O5 (show h.get? a=some _ from x)
 |met f y=>exact O5 (show h.get? a=some _ from x)
 |ext φ=>obtain⟨_,⟨_,e⟩,_⟩:=x;exact O5 e
def Paired.IW{α β:Type}{F G:α->β->Prop}:∀{l₁:List α}{l₂:List β},Paired F l₁ l₂->(∀a b,F a b->G a b)->Paired G l₁ l₂
 |_,_,.nil,_=>.nil
 |_,_,.cons r t,f=>.cons (f _ _ r) (Paired.IW t f)
def qE.oC(x:qE P w H h a o)(k:∀b u,(b=a\/H b=some (.own a))->h.get? b=some u->h'.get? b=some u)
  (ho:∀b,H b=some (.own a)->H' b=some (.own a)) (ht:∀b xs,H b=some (.tup xs)->H' b=some (.tup xs)):qE P w H' h' a o:=by
 induction o with
 |lst xs=>obtain⟨z,its,n,r,e⟩:=x;exact⟨z,its,n,r,k _ _ (.inl rfl) e⟩
 |tup xs=>obtain⟨z,its,r,ob,e,c⟩:=x;exact⟨z,its,r,ob,k _ _ (.inl rfl) e,c⟩
 |dK kvs=>obtain⟨z,y,vs,r,ob,es,ep,e,c⟩:=x;exact⟨z,y,vs,r,ob,es,ep,k _ _ (.inl rfl) e,c⟩
 |dT kvs=>obtain⟨z,y,xs,r,ob,es,ep,e,c⟩:=x;exact⟨z,y,xs,Paired.IW r λp q z=>⟨z.1,ht _ _ z.2.1,z.2.2⟩,ob,es,ep,k _ _ (.inl rfl) e,c⟩
 |set S n=>obtain⟨ob,es,ep,t,e,c⟩:=x;exact⟨ob,es,ep,t,k _ _ (.inl rfl) e,c⟩
 |ins C dx fs=>obtain⟨d,z,ne,e,mA,⟨od,es,ep,e2,c⟩,r⟩:=x;exact⟨ho _ d,z,ne,k _ _ (.inl rfl) e,mA,⟨od,es,ep,k _ _ (.inr d) e2,c⟩,r⟩
 |own y=>obtain⟨ob,e⟩:=x;exact⟨ob,k _ _ (.inl rfl) e⟩
 |xd fs=>obtain⟨mA,⟨od,es,ep,e,c⟩,r⟩:=x;exact⟨mA,⟨od,es,ep,k _ _ (.inl rfl) e,c⟩,r⟩
 |rng lo hi=>obtain⟨t,u,v,e⟩:=x;exact⟨t,u,v,k _ _ (.inl rfl) e⟩
 |frz ob u ih=>obtain⟨e,q⟩:=x;exact⟨k _ _ (.inl rfl) e,ih q⟩
 |tbl ps=>have e:h.get? a=some { cls:=.none,data:=.fields ps }:=x;show h'.get? a=some { cls:=.none,data:=.fields ps };exact k a _ (.inl rfl) e
 |met f y=>have e:h.get? a=some (PySem.W.methodObj (.ref f) (.ref y)):=x;show h'.get? a=some (PySem.W.methodObj (.ref f) (.ref y));exact k a _ (.inl rfl) e
 |ext φ=>obtain⟨p,⟨o,e⟩,st⟩:=x;exact⟨st _ _ p λo q=>k _ _ (.inl rfl) q,⟨o,k _ _ (.inl rfl) e⟩,st⟩
def HOk.lt(x:HOk P w H h)(e:H a=some o):a<h.objs.size:=(x a o e).lt
def HOk.fresh(x:HOk P w H h)(e:h.objs.size<=a):H a=none:=by
 cases q:H a with
 |none=>rfl
 |some u=>exact absurd (P4 (x.lt q) e) (a0t _)
def HOk.kept(x:HOk P w H h)(k:∀b u,h.get? b=some u->h'.get? b=some u):HOk P w H h':=λa o e=>
 (x a o e).oC (λb u _ q=>k b u q) (λ_ q=>q) λ_ _ q=>q
def HOk.laid(x:HOk P w H h)(k:∀b u,h.get? b=some u->h'.get? b=some u)(hp:h.objs.size<=a)(new:qE P w (upd H a o) h' a o):HOk P w (upd H a o) h':=λb u e=>by
 have hn:=x.fresh hp;by_cases hb:b=a
 .subst hb;rw[zi]at e;cases e;exact new
 .rw[zg hb]at e;exact(x b u e).oC (λc v _ q=>k c v q) (λc q=>by rw[zg (zZ q hn)];exact q) λc xs q=>by rw[zg (zZ q hn)];exact q
end
def Rd(H:Hp)(a:Addr)(u:HO):Prop:=H a=some u\/∃o,H a=some (.frz o u)
def Rd.ok(r:Rd H a u)(x:HOk P w H h):qE P w H h a u:=by
 rcases r with r|⟨o,r⟩
 .exact x a u r
 .obtain⟨_,q⟩:=x a _ r;exact q
def Mut:Option HO->Prop
 |some (.lst _)=>True
 |some (.dK _)=>True
 |some (.dT _)=>True
 |some (.set _ _)=>True
 |some (.ins _ _ _)=>True
 |some (.ext _)=>True
 |_=>False
def HOk.write(ok:HOk P w H h)(mu:Mut (H x))(he:e=x\/H e=some (.own x))(k:∀b u,b≠e->h.get? b=some u->h'.get? b=some u)(heo:∃u,h'.get? e=some u)
  (new:qE P w (upd H x o') h' x o'):HOk P w (upd H x o') h':=λb u q=>by
 have nown:∀c y,H c=some (.own y)->c≠x:=λc y r z=>by subst z;rw[r]at mu;exact mu
 have ntup:∀c xs,H c=some (.tup xs)->c≠x:=λc xs r z=>by subst z;rw[r]at mu;exact mu
 by_cases hb:b=x
 .subst hb;rw[zi]at q;cases q;exact new
 .rw[zg hb]at q;by_cases hbe:b=e
  .have q':H b=some (.own x):=by
    rcases he with z|z
    .exact absurd (hbe.trans z) hb
    .rw[hbe];exact z
   rw[q]at q';cases q';obtain⟨v,hv⟩:=heo;exact⟨v,by rw[hbe];exact hv⟩
  .refine(ok b u q).oC (λc v hc r=>k c v ?_ r) (λc r=>by rw[zg (nown c b r)];exact r) λc xs r=>by rw[zg (ntup c xs r)];exact r
   rcases hc with rfl|hc
   .exact hbe
   .rintro rfl
    rcases he with z|z
    .exact nown c b hc z
    .rw[hc]at z;cases z;exact hb rfl
structure Un(fs ex:OP)(H H':Hp)(h h':Heap):Prop where
 keep:∀b o,h.get? b=some o->H b=none->b∉fs->b∉ex->h'.get? b=some o
 slot:∀b o,h.get? b=some o->H b=none->b∈fs->b∉ex->∃sl,h'.get? b=some { o with slots:=sl }
 free:∀b o,h.get? b=some o->H b=none->b∉ex->H' b=none
 there:∀b o,h.get? b=some o->b∉ex->∃o',h'.get? b=some o'
 oH:∀b xs,H b=some (.tup xs)->H' b=some (.tup xs)
 uK:∀b o u,H b=some (.frz o u)->H' b=some (.frz o u)
 A7:∀b ps,H b=some (.tbl ps)->∃more,H' b=some (.tbl (ps++more))
section
variable {fs fs' ex ex':OP}{H H1 H2:Hp}{h h1 h2 h':Heap}{a x e:Addr}{o:HO}
def Un.any(u:Un fs ex H H1 h h1)(q:h.get? b=some ob)(n:H b=none)(hx:b∉ex):∃sl,h1.get? b=some { ob with slots:=sl }:=by
 by_cases hb:b∈fs
 .exact u.slot b ob q n hb hx
 .exact⟨ob.slots,u.keep b ob q n hb hx⟩
def Un.kept(k:∀b u,h.get? b=some u->h'.get? b=some u):Un fs ex H H h h':=
 ⟨λb ob q _ _ _=>k b ob q,λb ob q _ _ _=>⟨ob.slots,k b ob q⟩,λ_ _ _ n _=>n,λb ob q _=>⟨ob,k b ob q⟩,λ_ _ q=>q,λ_ _ _ q=>q,λ_ ps q=>⟨#[],by rw[q];simp⟩⟩
def Un.refl:Un fs ex H H h h:=Un.kept λ_ _ q=>q
def Un.laid(k:∀b u,h.get? b=some u->h'.get? b=some u)(hp:h.objs.size<=a)(hn:H a=none):Un fs ex H (upd H a o) h h' where
 keep:=λb u q _ _ _=>k b u q
 slot:=λb u q _ _ _=>⟨u.slots,k b u q⟩
 free:=λb u q n _=>by rw[zg (P1 (P4 (O5 q) hp))];exact n
 there:=λb u q _=>⟨u,k b u q⟩
 oH:=λb xs q=>by rw[zg (zZ q hn)];exact q
 uK:=λb u xs q=>by rw[zg (zZ q hn)];exact q
 A7:=λb ps q=>⟨#[],by rw[zg (zZ q hn),q];simp⟩
def Un.write(mu:Mut (H x))(he:e=x\/H e=some (.own x))(k:∀b u,b≠e->h.get? b=some u->h'.get? b=some u)(heo:∃u,h'.get? e=some u):Un fs ex H (upd H x o) h h':=by
 have hx:∀b,H b=none->b≠x:=λb n z=>by subst z;rw[n]at mu;exact mu
 have hb:∀b,H b=none->b≠e:=λb n z=>by
  subst z;rcases he with r|r
  .exact hx b n r
  .rw[n]at r;cases r
 have hm:∀b u,H b=some u->¬Mut (some u)->b≠x:=λb u q nm z=>by subst z;rw[q]at mu;exact nm mu
 refine⟨λb u q n _ _=>k b u (hb b n) q,λb u q n _ _=>⟨u.slots,k b u (hb b n) q⟩,λb u q n _=>by rw[zg (hx b n)];exact n,λb u q _=>?_,
  λb xs q=>by rw[zg (hm b _ q λz=>z)];exact q,λb u xs q=>by rw[zg (hm b _ q λz=>z)];exact q,λb ps q=>⟨#[],by rw[zg (hm b _ q λz=>z),q];simp⟩⟩
 by_cases hbe:b=e
 .subst hbe;exact heo
 .exact⟨u,k b u hbe q⟩
end
def trk(h:Heap)(H:Hp):List Addr:=(List.range h.objs.size).filter λa=>(H a).isSome
def uL(h:Heap)(H:Hp):Heap:=PySem.W.hideAll h (trk h H)
def oN(h:Heap)(H:Hp):(uL h H).objs.size=h.objs.size:=PySem.W.hideAll_size _ _
def uM(e:h.get? b=some o)(n:H b=none):(uL h H).get? b=some o:=
 PySem.W.hideAll_get _ e λhm=>by have q:(H b).isSome=true:=(List.mem_filter.mp hm).2;rw[n]at q;simp at q
def Ct(e:(uL h H).get? b=some o):h.get? b=some o/\H b=none:=by
 have e':h.get? b=some o:=PySem.W.of_hideAll (trk h H) e;refine⟨e',?_⟩;cases q:H b with
 |none=>rfl
 |some x=>have hm:b∈trk h H:=List.mem_filter.mpr ⟨a0C.mpr (O5 e'),by simp[q]⟩;have z:(uL h H).get? b=none:=PySem.W.hideAll_none (trk h H) hm;rw[z]at e;cases e
structure Mod(K:Oj)(mg:N_)(base:Heap):Prop where
 kin:K.In base
 glob:base.Ns mainGlobals mg
 blt:∃mb,base.Ns builtinsNs mb/\∀x:Str,x≠"__name__"->mb x=bootBuiltins x
 nolimit:base.NoLimit
structure Cx where
 prog:Program
 w:World
 K:PySem.W.Frag
 mg:Str->Option Value
 base:Heap
 A:Around
 N:List Str
 s₀:Shared
 H₀:Hp
 env:Env
 outer:List Env
 stack:List Env
 ex:List Addr
 fn:Str->Bool
 calm:Bool
 pn:List (Addr×Obj)
 xe:Value->Shared->Prop
abbrev Ph(X:Cx):=model X.prog X.w
def frs(l:List Env):List Addr:=l.filterMap (·.frame)
abbrev Cx.fs(X:Cx):List Addr:=frs X.outer
def Vis(sc:Scope)(x:Str):Prop:=sc.names.lookup x=some .local\/sc.names.lookup x=some .cell\/sc.names.lookup x=some .free
def Loc(sc:Scope)(x:Str):Prop:=sc.names.lookup x=some .local\/sc.names.lookup x=some .cell
def Look(env:Env)(h:Heap)(m:N_)(x:Str)(u:Value):Prop:=
 (env.kindOf x=some .local/\m x=some u)\/((env.kindOf x=some .cell\/env.kindOf x=some .free)/\∃c,env.cells.lookup x=some c/\h.IsCell c (some u))
structure Cx.Ok(X:Cx):Prop where
 mod:Mod X.K X.mg X.base
 kind:X.env.scope.kind=.function
 glob:X.env.globals=mainGlobals
 blt:X.env.builtins=builtinsNs
 above:X.s₀.heap.objs.size<=X.env.locals
 inj:∀x y c,X.env.cells.lookup x=some c->X.env.cells.lookup y=some c->x=y
 has:∀x,(X.env.kindOf x=some .cell\/X.env.kindOf x=some .free)->∃c,X.env.cells.lookup x=some c
 cab:∀x c,X.fn x=true->X.env.cells.lookup x=some c->X.s₀.heap.objs.size<=c
 hd:X.calm=true->X.A.handled=none
 frames:X.A.frames=some X.stack
 stk:X.stack=X.outer\/(X.stack=X.env::X.outer/\X.env.frame=some X.env.locals)
 exf:∀b∈X.ex,b≠X.env.locals/\∀x c,X.env.cells.lookup x=some c->c≠b
 bs:∀b o,X.base.get? b=some o->X.s₀.heap.get? b=some o/\X.H₀ b=none
 bsz:X.base.objs.size<=X.s₀.heap.objs.size
 EF:∀b o,X.base.get? b=some o->b∉X.ex
 EG:∀b∈X.ex,b∉X.fs
 dz:X.s₀.heap.FunFrames X.base X.outer
 frf:∀b∈X.fs,X.H₀ b=none
structure Inv(X:Cx)(pins:Oa)(σ:List (Option V))(H:Hp)(s:Oe):Prop where
 ok:X.Ok
 os:s.os=X.s₀.os
 bare:AllBare s.gens
 base:Un X.fs X.ex X.H₀ H X.s₀.heap s.heap
 loc:∃m,s.heap.Ns X.env.locals m/\∀(i:Nat)(x:Str)(v:V),X.N[i]?=some x->σ[i]?=some (some v)->Vis X.env.scope x->∃u,RelV v u/\Look X.env s.heap m x u
 cell:∀x c,X.env.cells.lookup x=some c->∃v,s.heap.IsCell c v
 free:H X.env.locals=none
 VG:∀x c,X.env.cells.lookup x=some c->H c=none
 pin:∀p∈X.pn++pins,s.heap.get? p.1=some p.2/\H p.1=none/\p.1≠X.env.locals/\p.1∉X.fs/\∀v,p.2.data≠.cell v
 hok:HOk X.prog X.w H s.heap
 len:σ.length=X.N.length
section
variable {X:Cx}{pins:Oa}{σ:List (Option V)}{H H':Hp}{s:Oe}{h':Heap}
def Cx.Ok.Np(ok:X.Ok)(e:X.base.get? b=some o):b∉X.fs:=λhb=>by have:=(ok.dz.mem hb).1;rw[e]at this;cases this
def Inv.bs(I:Inv X pins σ H s):∀b o,X.base.get? b=some o->s.heap.get? b=some o/\H b=none:=λb o e=>
 ⟨I.base.keep b o (I.ok.bs b o e).1 (I.ok.bs b o e).2 (I.ok.Np e) (I.ok.EF b o e),I.base.free b o (I.ok.bs b o e).1 (I.ok.bs b o e).2 (I.ok.EF b o e)⟩
def Inv.bk(I:Inv X pins σ H s):∀b o,X.base.get? b=some o->s.heap.get? b=some o:=λb o e=>(I.bs b o e).1
def Inv.mod(I:Inv X pins σ H s):Mod X.K X.mg X.base:=I.ok.mod
def Inv.kIn(I:Inv X pins σ H s):X.K.In s.heap:=I.ok.mod.kin.keeps I.bk
def Inv.lt(I:Inv X pins σ H s):X.env.locals<s.heap.objs.size:=let⟨_,hn,_⟩:=I.loc;hn.lt
def Inv.sz(I:Inv X pins σ H s):X.s₀.heap.objs.size<=s.heap.objs.size:=P7 I.ok.above (a1V I.lt)
def Inv.Nq(I:Inv X pins σ H s)(h:s.heap.objs.size<=a):a∉X.fs:=λhb=>by obtain⟨_,o,ho,_⟩:=I.ok.dz.mem hb;exact absurd (P4 (O5 ho) (P7 I.sz h)) (a0t _)
def Inv.cne(I:Inv X pins σ H s):∀x c,X.env.cells.lookup x=some c->c≠X.env.locals:=λx c e z=>by obtain⟨v,o,ho,hd⟩:=I.cell x c e;obtain⟨m,⟨o',es,ep,ho',hd',_⟩,_⟩:=I.loc;rw[z,ho']at ho;cases ho;rw[hd']at hd;cases hd
def Inv.dz(I:Inv X pins σ H s):s.heap.FunFrames X.base X.outer:=by
 have all:∀(l:List Env),(∀b∈frs l,b∈X.fs)->X.s₀.heap.FunFrames X.base l->s.heap.FunFrames X.base l:=by
  intro l
  induction l with
  |nil=>intro _ _;trivial
  |cons env r ih=>intro hs hl;obtain⟨hk,⟨L,o,hf,hn,ho,hd⟩,hr⟩:=hl;have hL:L∈X.fs:=hs L (by unfold frs;rw[a14,hf];exact O1);obtain⟨sl,e⟩:=I.base.slot L o ho (I.ok.frf L hL) hL λz=>I.ok.EG L z hL;exact⟨hk,⟨L,_,hf,hn,e,hd⟩,ih (λb hb=>hs b (by unfold frs;rw[a14,hf];exact O3 _ hb)) hr⟩
 exact all X.outer (λ_ hb=>hb) I.ok.dz
def Inv.stack(I:Inv X pins σ H s):s.heap.FunFrames X.base X.stack:=by
 rcases I.ok.stk with e|⟨e,hf⟩
 .rw[e];exact I.dz
 .rw[e];obtain⟨m,hn,_⟩:=I.loc;refine .cons (by rw[I.ok.kind];decide) hf hn ?_ I.dz;exact Heap.get?_none_of_le (P7 I.ok.bsz I.ok.above)
def Inv.aQ(I:Inv X pins σ H s):∀b∈frs X.stack,b∈X.env.locals::X.fs:=λb hb=>by
 rcases I.ok.stk with e|⟨e,hf⟩
 .rw[e]at hb;exact O3 _ hb
 .rw[e]at hb;unfold frs at hb;rw[a14,hf]at hb;exact hb
def Inv.bJ(I:Inv X pins σ H s):∀b∈frs X.stack,H b=none:=λb hb=>by
 rcases P8.mp (I.aQ b hb)with e|hb
 .rw[e];exact I.free
 .obtain⟨_,o,ho,_⟩:=I.ok.dz.mem hb;exact I.base.free b o ho (I.ok.frf b hb) λz=>I.ok.EG b z hb
def Inv.step{g':Array GenState}{t':Nat}{d':Drawn}{ch:OP}(I:Inv X pins σ H s)
  (hch:∀b∈ch,(b∈X.ex\/X.s₀.heap.objs.size<=b)/\b≠X.env.locals/\(∀x c,X.env.cells.lookup x=some c->c≠b)/\∀p∈X.pn++pins,p.1≠b)
  (keep:∀b o,b≠X.env.locals->b∉X.fs->b∉ch->s.heap.get? b=some o->H b=none->h'.get? b=some o)
  (slot:∀b o,b≠X.env.locals->b∈X.fs->b∉ch->s.heap.get? b=some o->H b=none->∃sl,h'.get? b=some { o with slots:=sl }) (free:∀b o,b∉ch->s.heap.get? b=some o->H b=none->H' b=none)
  (there:∀b o,b∉ch->s.heap.get? b=some o->∃o',h'.get? b=some o')
  (oH:∀b xs,H b=some (.tup xs)->H' b=some (.tup xs)) (uK:∀b o u,H b=some (.frz o u)->H' b=some (.frz o u)) (A7:∀b ps,H b=some (.tbl ps)->∃more,H' b=some (.tbl (ps++more)))
  (ns:∀m,s.heap.Ns X.env.locals m->h'.Ns X.env.locals m) (hok:HOk X.prog X.w H' h') (hg:AllBare g'):
  Inv X pins σ H' { s with heap:=h',gens:=g',drawn:=d',toks:=t' }:=by
 have neL:∀b o,X.s₀.heap.get? b=some o->b≠X.env.locals:=λb o e=>P1 (P4 (O5 e) I.ok.above);have neC:∀b o,X.s₀.heap.get? b=some o->b∉X.ex->b∉ch:=λb o e hx hb=>by
  rcases(hch b hb).1 with z|z
  .exact hx z
  .exact absurd (P4 (O5 e) z) (a0t _)
 have cellK:∀x c,X.env.cells.lookup x=some c->∀v,s.heap.IsCell c v->h'.IsCell c v:=λx c e v ⟨o,ho,hd⟩=>by
  have nch:c∉ch:=λz=>(hch c z).2.2.1 x c e rfl;by_cases hc:c∈X.fs
  .obtain⟨sl,q⟩:=slot c o (I.cne x c e) hc nch ho (I.VG x c e);exact⟨_,q,hd⟩
  .exact⟨o,keep c o (I.cne x c e) hc nch ho (I.VG x c e),hd⟩
 refine⟨I.ok,I.os,hg,⟨λb o e n hb hx=>?_,λb o e n hb hx=>?_,λb o e n hx=>?_,λb o e hx=>?_,λb xs e=>oH b xs (I.base.oH b xs e),λb o xs e=>uK b o xs (I.base.uK b o xs e),λb ps e=>?_⟩,?_,λx c e=>?_,?_,λx c e=>?_,λp hp=>?_,hok,I.len⟩
 .exact keep b o (neL b o e) hb (neC b o e hx) (I.base.keep b o e n hb hx) (I.base.free b o e n hx)
 .obtain⟨sl,e1⟩:=I.base.slot b o e n hb hx;obtain⟨sl',e2⟩:=slot b _ (neL b o e) hb (neC b o e hx) e1 (I.base.free b o e n hx);exact⟨sl',e2⟩
 .obtain⟨o',e1⟩:=I.base.there b o e hx;exact free b o' (neC b o e hx) e1 (I.base.free b o e n hx)
 .obtain⟨o',e1⟩:=I.base.there b o e hx;exact there b o' (neC b o e hx) e1
 .obtain⟨m1,e1⟩:=I.base.A7 b ps e;obtain⟨m2,e2⟩:=A7 b _ e1;exact⟨m1++m2,by rw[e2,a29]⟩
 .obtain⟨m,hn,hl⟩:=I.loc;refine⟨m,ns m hn,λi x v e1 e2 e3=>?_⟩;obtain⟨u,r,l⟩:=hl i x v e1 e2 e3;refine⟨u,r,?_⟩;rcases l with l|⟨k,c,e,z⟩
  .exact .inl l
  .exact .inr ⟨k,c,e,cellK x c e _ z⟩
 .obtain⟨v,z⟩:=I.cell x c e;exact⟨v,cellK x c e v z⟩
 .obtain⟨m,⟨o,_,_,ho,_⟩,_⟩:=I.loc;exact free _ o (λz=>(hch _ z).2.1 rfl) ho I.free
 .obtain⟨v,o,ho,hd⟩:=I.cell x c e;exact free c o (λz=>(hch c z).2.2.1 x c e rfl) ho (I.VG x c e)
 .obtain⟨e,n,ne,nf,d⟩:=I.pin p hp;have nch:p.1∉ch:=λz=>(hch p.1 z).2.2.2 p hp rfl;exact⟨keep p.1 p.2 ne nf nch e n,free p.1 p.2 nch e n,ne,nf,d⟩
def Inv.un(I:Inv X pins σ H s)(u:Un X.fs [] H H' s.heap h')(hok:HOk X.prog X.w H' h'):Inv X pins σ H' { s with heap:=h',toks:=t' }:=by
 obtain⟨m,⟨o,es,ep,ho,r⟩,_⟩:=id I.loc;obtain⟨sl,hL⟩:=u.any ho I.free (by simp);exact I.step (g':=s.gens) (d':=s.drawn) (ch:=[]) (λ_ z=>nomatch z) (λb o _ hb _ e n=>u.keep b o e n hb (by simp)) (λb o _ hb _ e n=>u.slot b o e n hb (by simp)) (λb o _ e n=>u.free b o e n (by simp)) (λb o _ e=>u.there b o e (by simp)) u.oH u.uK u.A7 (λm' hm=>by
  obtain⟨o',es',ep',ho',r'⟩:=hm;rw[ho]at ho';cases ho';exact⟨_,es',ep',hL,r'⟩) hok I.bare
def Inv.call(I:Inv X pins σ H s)(u:Un (frs X.stack) ch H H' s.heap h')(hok:HOk X.prog X.w H' h')(hg:AllBare g')
  (hch:∀b∈ch,(b∈X.ex\/X.s₀.heap.objs.size<=b)/\b≠X.env.locals/\(∀x c,X.env.cells.lookup x=some c->c≠b)/\∀p∈X.pn++pins,p.1≠b):
  Inv X pins σ H' { s with heap:=h',gens:=g',drawn:=d',toks:=t' }:=by
 obtain⟨m,⟨o,es,ep,ho,r⟩,_⟩:=id I.loc;obtain⟨sl,hL⟩:=u.any ho I.free λz=>(hch _ z).2.1 rfl;exact I.step (ch:=ch) hch (λb o hL hb hc e n=>u.keep b o e n (λz=>(P8.mp (I.aQ b z)).elim hL hb) hc) (λb o _ _ hc e n=>u.any e n hc) (λb o hc e n=>u.free b o e n hc) (λb o hc e=>u.there b o e hc) u.oH u.uK u.A7 (λm' hm=>by
  obtain⟨o',es',ep',ho',r'⟩:=hm;rw[ho]at ho';cases ho';exact⟨_,es',ep',hL,r'⟩) hok hg
def Inv.turned(I:Inv X pins σ H s)(k:∀b o,b≠it->s.heap.get? b=some o->h'.get? b=some o)(hn:H it=none)(hL:it≠X.env.locals)
  (h1:it∈X.ex\/X.s₀.heap.objs.size<=it) (h2:∀x c,X.env.cells.lookup x=some c->c≠it) (h3:∀p∈X.pn++pins,p.1≠it):Inv X pins σ H { s with heap:=h',toks:=t' }:=by
 have nit:∀b u,H b=some u->b≠it:=λb u e z=>by rw[z,hn]at e;cases e
 refine I.step (g':=s.gens) (d':=s.drawn) (ch:=[it]) (λb hb=>?_) (λb o _ _ hc e _=>k b o (λz=>hc (by simp[z])) e) (λb o _ _ hc e _=>⟨o.slots,k b o (λz=>hc (by simp[z])) e⟩) (λ_ _ _ _ n=>n)
  (λb o hc e=>⟨o,k b o (λz=>hc (by simp[z])) e⟩) (λ_ _ e=>e) (λ_ _ _ e=>e) (λb ps e=>⟨#[],by rw[e];simp⟩) (λm hm=>?_) (λb u e=>?_) I.bare
 .have e:b=it:=by simpa using hb
  subst e;exact⟨h1,hL,h2,h3⟩
 .obtain⟨o,es,ep,ho,r⟩:=hm;exact⟨o,es,ep,k _ o (Ne.symm hL) ho,r⟩
 .refine(I.hok b u e).oC (λc v hc q=>k c v ?_ q) (λ_ q=>q) λ_ _ q=>q;rcases hc with z|z
  .rw[z];exact nit b u e
  .exact nit c _ z
def Inv.tok(I:Inv X pins σ H s)(t:Nat):Inv X pins σ H { s with toks:=t }:=I.un (h':=s.heap) (t':=t) Un.refl I.hok
def Inv.kept(I:Inv X pins σ H s)(k:∀b u,s.heap.get? b=some u->h'.get? b=some u):Inv X pins σ H { s with heap:=h',toks:=t' }:=I.un (Un.kept k) (I.hok.kept k)
def Inv.laid(I:Inv X pins σ H s)(k:∀b u,s.heap.get? b=some u->h'.get? b=some u)(hp:s.heap.objs.size<=a)(new:qE X.prog X.w (upd H a o) h' a o):
  Inv X pins σ (upd H a o) { s with heap:=h',toks:=t' }:=I.un (Un.laid k hp (I.hok.fresh hp)) (I.hok.laid k hp new)
def Inv.write(I:Inv X pins σ H s)(mu:Mut (H x))(he:e=x\/H e=some (.own x))(k:∀b u,b≠e->s.heap.get? b=some u->h'.get? b=some u)(heo:∃u,h'.get? e=some u)
  (new:qE X.prog X.w (upd H x o) h' x o):Inv X pins σ (upd H x o) { s with heap:=h',toks:=t' }:=I.un (Un.write mu he k heo) (I.hok.write mu he k heo new)
def Inv.bK(I:Inv X pins σ H s)(h:∀p∈pins',s.heap.get? p.1=some p.2/\H p.1=none/\p.1≠X.env.locals/\p.1∉X.fs/\∀v,p.2.data≠.cell v):Inv X pins' σ H s:=
 ⟨I.ok,I.os,I.bare,I.base,I.loc,I.cell,I.free,I.VG,λp hp=>(T9.mp hp).elim (λz=>I.pin p (a1W _ z)) (h p),I.hok,I.len⟩
def iV{N:Ob}(hN:N.Nodup){i j:Nat}{x:Str}(a:N[i]?=some x)(b:N[j]?=some x):i=j:=by obtain⟨h1,e1⟩:=P6.mp a;obtain⟨h2,e2⟩:=P6.mp b;exact(List.getElem_inj hN).mp (e1.trans e2.symm)
def dA(I:Inv X pins σ H s)(hN:X.N.Nodup)(hi:X.N[i]?=some x)(hx:Loc X.env.scope x)(r:RelV v u)
  (h:∀s',Inv X pins (σ.set i (some v)) H s'->(∃a,Heap.SameBut a s.heap s'.heap/\(a=X.env.locals\/X.env.cells.lookup x=some a))->Q () s') (hf:X.fn x=true\/X.env.scope.names.lookup x=some .local:=by first|exact .inl rfl|exact .inr rfl|assumption):wpAny M A (storeName X.env x u) Q E s:=by
 obtain⟨m,hn,hl⟩:=id I.loc;have hcls:(X.env.scope.kind == .class||(X.env.scope.kind == .module&&X.env.locals != X.env.globals))=false:=by rw[I.ok.kind];rfl
 have hiσ:i<σ.length:=by rw[I.len];exact(P6.mp hi).1
 have cne:=I.cne;have tracked:∀{a:Addr}{h':Heap},(∃o,s.heap.get? a=some o/\H a=none)->Heap.SameBut a s.heap h'->HOk X.prog X.w H h':=λ{a h'} ha hs b ob e=>by
  obtain⟨_,_,hfree⟩:=ha;refine(I.hok b ob e).oC (λc w' hc q=>(hs.2 c ?_).trans q) (λ_ q=>q) λ_ _ q=>q
  rintro rfl
  rcases hc with rfl|hc
  .rw[hfree]at e;cases e
  .rw[hfree]at hc;cases hc
 rcases hx with hk|hk
 .refine wpAny_storeName_local hk hn (λh' hn' hs=>?_) hcls;obtain⟨oL,_,_,hoL,_⟩:=id hn;refine h _ ⟨I.ok,I.os,I.bare,⟨λb o e n hb hx=>?_,λb o e n hb hx=>?_,I.base.free,λb o e hx=>?_,I.base.oH,I.base.uK,I.base.A7⟩,⟨_,hn',λj y v' e1 e2 e3=>?_⟩,λy c e=>?_,I.free,I.VG,λp hp=>?_,tracked ⟨oL,hoL,I.free⟩ hs,by simpa using I.len⟩ ⟨_,hs,.inl rfl⟩
  .exact(hs.2 b (P1 (P4 (O5 e) I.ok.above))).trans (I.base.keep b o e n hb hx)
  .obtain⟨sl,e1⟩:=I.base.slot b o e n hb hx;exact⟨sl,(hs.2 b (P1 (P4 (O5 e) I.ok.above))).trans e1⟩
  .obtain⟨o',e1⟩:=I.base.there b o e hx;exact⟨o',(hs.2 b (P1 (P4 (O5 e) I.ok.above))).trans e1⟩
  .by_cases hj:j=i
   .subst hj;rw[hi]at e1;cases e1;rw[S6 hiσ]at e2;cases e2;exact⟨u,r,.inl ⟨hk,by simp⟩⟩
   .rw[S8 (Ne.symm hj)]at e2;obtain⟨u',r',q⟩:=hl j y v' e1 e2 e3;refine⟨u',r',?_⟩;rcases q with⟨k,e⟩|⟨k,c,e,z⟩
    .refine .inl ⟨k,?_⟩;have:y≠x:=λe=>hj (iV hN e1 (e▸hi));simp[this,e]
    .exact .inr ⟨k,c,e,z.sameBut hs (cne y c e)⟩
  .obtain⟨w',z⟩:=I.cell y c e;exact⟨w',z.sameBut hs (cne y c e)⟩
  .obtain⟨e,n,ne,nf,d⟩:=I.pin p hp;exact⟨(hs.2 p.1 ne).trans e,n,ne,nf,d⟩
 .have hfn:X.fn x=true:=by
   rcases hf with z|z
   .exact z
   .rw[z]at hk;cases hk
  obtain⟨c,hc⟩:=I.ok.has x (.inl hk);obtain⟨w',z⟩:=I.cell x c hc;refine wpAny_storeName_cell I.ok.kind hk hc z (λh' hc' hs=>?_);obtain⟨oc,hoc,hocd⟩:=id z;refine h { s with heap:=h' } ⟨I.ok,I.os,I.bare,⟨λb o e n hb hx=>?_,λb o e n hb hx=>?_,I.base.free,λb o e hx=>?_,I.base.oH,I.base.uK,I.base.A7⟩,⟨m,hn.sameBut hs (Ne.symm (cne x c hc)),λj y v' e1 e2 e3=>?_⟩,λy c' e=>?_,I.free,I.VG,λp hp=>?_,tracked ⟨oc,hoc,I.VG x c hc⟩ hs,by simpa using I.len⟩ ⟨c,hs,.inr hc⟩
  .exact(hs.2 b (P1 (P4 (O5 e) (I.ok.cab x c hfn hc)))).trans (I.base.keep b o e n hb hx)
  .obtain⟨sl,e1⟩:=I.base.slot b o e n hb hx;exact⟨sl,(hs.2 b (P1 (P4 (O5 e) (I.ok.cab x c hfn hc)))).trans e1⟩
  .obtain⟨o',e1⟩:=I.base.there b o e hx;exact⟨o',(hs.2 b (P1 (P4 (O5 e) (I.ok.cab x c hfn hc)))).trans e1⟩
  .by_cases hj:j=i
   .subst hj;rw[hi]at e1;cases e1;rw[S6 hiσ]at e2;cases e2;exact⟨u,r,.inr ⟨.inl hk,c,hc,hc'⟩⟩
   .rw[S8 (Ne.symm hj)]at e2;obtain⟨u',r',q⟩:=hl j y v' e1 e2 e3;refine⟨u',r',?_⟩;rcases q with q|⟨k,c',e,z'⟩
    .exact .inl q
    .refine .inr ⟨k,c',e,z'.sameBut hs ?_⟩
     rintro rfl
     exact hj (iV hN e1 (I.ok.inj _ _ _ e hc▸hi))
  .by_cases hcc:c'=c
   .subst hcc;exact⟨_,hc'⟩
   .obtain⟨w2,z2⟩:=I.cell y c' e;exact⟨w2,z2.sameBut hs hcc⟩
  .obtain⟨e,n,ne,nf,d⟩:=I.pin p hp;refine⟨(hs.2 p.1 ?_).trans e,n,ne,nf,d⟩;intro q;rw[q,hoc]at e;have q':oc=p.2:=T4 e;exact d w' (by rw[<- q'];exact hocd)
def bL(I:Inv X pins σ H s)(hN:X.N.Nodup)(hi:X.N[i]?=some x)(hx:Loc X.env.scope x)(r:RelV v u)
  (h:∀s',Inv X pins (σ.set i (some v)) H s'->Q () s') (hf:X.fn x=true\/X.env.scope.names.lookup x=some .local:=by first|exact .inl rfl|exact .inr rfl|assumption):wpAny M A (storeName X.env x u) Q E s:=
 dA I hN hi hx r (λs' I' _=>h s' I') hf
def Inv.E6(I:Inv X pins σ H s)(ho:s'.os=s.os)(u:Un (frs X.stack) ch H H' s.heap s'.heap)(hok:HOk X.prog X.w H' s'.heap)(hg:AllBare s'.gens)
  (hch:∀b∈ch,(b∈X.ex\/X.s₀.heap.objs.size<=b)/\b≠X.env.locals/\(∀x c,X.env.cells.lookup x=some c->c≠b)/\∀p∈X.pn++pins,p.1≠b):Inv X pins σ H' s':=by
 obtain⟨h',g',d',t',o'⟩:=s';have e:o'=s.os:=ho;subst e;exact I.call (g':=g') (t':=t') (d':=d') u hok hg hch
end
abbrev XK:=Value->Option Addr->Hp->Prop
abbrev St:=List (Option V)
abbrev VK:=V->Hp->Prop
abbrev TE:=St->Hp->VK->Prop
abbrev TT:=St->Hp->(Bool->Hp->Prop)->Prop
abbrev TA:=St->Hp->(List V->Hp->Prop)->Prop
structure Ends where
 nx:St->Hp->Prop
 rt:VK
 bk:St->Hp->Prop:=λ_ _=>False
 ct:St->Hp->Prop:=λ_ _=>False
abbrev TS:=Ends->St->Hp->Prop
def EP(X:Cx)(pins:Oa)(σ:St)(Q:VK)(u:Value)(s':Oe):Prop:=∃v H',Inv X pins σ H' s'/\RelV v u/\Q v H'
def TP(X:Cx)(pins:Oa)(σ:St)(Q:Bool->Hp->Prop)(b:Bool)(s':Oe):Prop:=∃H',Inv X pins σ H' s'/\Q b H'
def AP(X:Cx)(pins:Oa)(σ:St)(Q:List V->Hp->Prop)(us:Og)(s':Oe):Prop:=∃vs H',Inv X pins σ H' s'/\Vals vs us/\Q vs H'
def SP(X:Cx)(pins:Oa)(D:Ends)(f:Flow)(s':Oe):Prop:=
 match f with
 |.next=>∃σ' H',Inv X pins σ' H' s'/\D.nx σ' H'
 |.brk=>∃σ' H',Inv X pins σ' H' s'/\D.bk σ' H'
 |.cont=>∃σ' H',Inv X pins σ' H' s'/\D.ct σ' H'
 |.ret u=>∃v σ' H',Inv X pins σ' H' s'/\RelV v u/\D.rt v H'
def PE(X:Cx)(e:Oq)(t:TE):Prop:=
 ∀(pins:Oa)(s:Oe)(σ:St)(H:Hp)(Q:VK),Inv X pins σ H s->t σ H Q->wpAny (Ph X) X.A (eval e X.env) (EP X pins σ Q) X.xe s
def PT(X:Cx)(e:Oq)(t:TT):Prop:=
 ∀(pins:Oa)(s:Oe)(σ:St)(H:Hp)(Q:Bool->Hp->Prop),Inv X pins σ H s->t σ H Q->wpAny (Ph X) X.A (isTrue e X.env (eval e X.env)) (TP X pins σ Q) X.xe s
def PW(X:Cx)(e:Oq)(t:TT):Prop:=
 ∀(whole:Sem Value)(pins:Oa)(s:Oe)(σ:St)(H:Hp)(Q:Bool->Hp->Prop),Inv X pins σ H s->t σ H Q->wpAny (Ph X) X.A (isTrue e X.env whole) (TP X pins σ Q) X.xe s
def PW.pt(h:PW X e t):PT X e t:=h _
def PA(X:Cx)(es:Om)(t:TA):Prop:=
 ∀(pos:Pos)(pins:Oa)(s:Oe)(σ:St)(H:Hp)(Q:List V->Hp->Prop),Inv X pins σ H s->t σ H Q->wpAny (Ph X) X.A (spliced (backTo pos (starEach es X.env))) (AP X pins σ Q) X.xe s
def PS(X:Cx)(st:OO)(t:TS):Prop:=
 ∀(pins:Oa)(s:Oe)(σ:St)(H:Hp)(D:Ends),Inv X pins σ H s->t D σ H->wpAny (Ph X) X.A (exec st X.env) (SP X pins D) X.xe s
def PSs(X:Cx)(st:OG)(t:TS):Prop:=
 ∀(pins:Oa)(s:Oe)(σ:St)(H:Hp)(D:Ends),Inv X pins σ H s->t D σ H->wpAny (Ph X) X.A (execs st X.env) (SP X pins D) X.xe s
def thn{α:Type}{t:Sem α}{Q Q':α->Shared->Prop}(h:wpAny M A t Q E s)(hQ:∀a s,Q a s->Q' a s):wpAny M A t Q' E s:=a0c h hQ λ_ _ x=>x
section
variable {X:Cx}
def mQ(i:Nat):TE:=λσ H Q=>∃v,σ[i]?=some (some v)/\Q v H
def tC(v:V):TE:=λ_ H Q=>Q v H
def E7(hN:X.N[i]?=some x)(hv:Vis X.env.scope x)(hd:(x==("__debug__":Str))=false:=by decide)(hcd:(x==("__classdict__":Str))=false:=by decide):PE X (.Name x pos) (mQ i):=by
 intro pins s σ H Q I h;obtain⟨v,e,h⟩:=h;obtain⟨m,hn,hl⟩:=I.loc;obtain⟨u,r,l⟩:=hl i x v hN e hv;have fin:EP X pins σ Q u s:=⟨v,H,I,r,h⟩;rcases l with⟨hk,hm⟩|⟨hk,c,hc,hcell⟩
 .exact wpAny_Name (wpAny_loadName_local I.ok.kind hk hn hm fin) hd
 .rcases hk with hk|hk
  .exact wpAny_Name (wpAny_loadName_cell I.ok.kind hk hc hcell fin) hd
  .exact wpAny_Name (wpAny_loadName_free I.ok.kind hk hc hcell fin hcd) hd
def E8{i j pos}:PE X (.Constant (.int i) j pos) (tC (.int i)):=λ_ _ _ H _ I h=>wpAny_Constant_int ⟨.int i,H,I.tok _,⟨_,rfl⟩,h⟩
def Xq{b j pos}:PE X (.Constant (.bool b) j pos) (tC (.bl b)):=λ_ _ _ H _ I h=>Constant_bool ⟨.bl b,H,I,rfl,h⟩
def oO{j pos}:PE X (.Constant .none j pos) (tC .non):=λ_ _ _ H _ I h=>Constant_none ⟨.non,H,I,rfl,h⟩
def yF{x j pos}:PE X (.Constant (.str x) j pos) (tC (.str x)):=λ_ _ _ H _ I h=>Calls.Constant_str ⟨.str x,H,I.tok _,⟨_,rfl⟩,h⟩
def Gl(X:Cx)(x:Str):Prop:=X.env.kindOf x=some .globalImplicit
def Kx(I:Inv X pins σ H s)(hg:Gl X x)(hm:X.mg x=some u)(h:Q u s)
  (hd:(x==("__debug__":Str))=false:=by decide):wpAny (Ph X) X.A (eval (.Name x pos) X.env) Q E s:=
 a2f I.ok.kind hg (Calls.loadGlobal_global (by rw[I.ok.glob];exact I.mod.glob.keeps I.bk) hm h) hd
def aR(I:Inv X pins σ H s)(hg:Gl X x)(hm:X.mg x=none)(hv:bootBuiltins x=some u)(h:Q u s)
  (hn:x≠"__name__":=by decide) (hd:(x==("__debug__":Str))=false:=by decide):wpAny (Ph X) X.A (eval (.Name x pos) X.env) Q E s:=by
 obtain⟨mb,h1,h2⟩:=I.mod.blt;exact a2f I.ok.kind hg (Calls.loadGlobal_builtin (by rw[I.ok.glob];exact I.mod.glob.keeps I.bk) hm (by rw[I.ok.blt];exact h1.keeps I.bk) ((h2 x hn).trans hv) h) hd
def z_(hg:Gl X x)(hm:X.mg x=some u)(r:RelV v u)(hd:(x==("__debug__":Str))=false:=by decide):PE X (.Name x pos) (tC v):=
 λ_ _ _ H _ I h=>Kx I hg hm ⟨v,H,I,r,h⟩ hd
def bM(hg:Gl X x)(hm:X.mg x=none)(hv:bootBuiltins x=some u)(r:RelV v u)(hn:x≠"__name__":=by decide)(hd:(x==("__debug__":Str))=false:=by decide):PE X (.Name x pos) (tC v):=
 λ_ _ _ H _ I h=>aR I hg hm hv ⟨v,H,I,r,h⟩ hn hd
variable {a b:Oq}{ta tb:TE}{pos:Pos}
def Xb(b:Oq)(h:op≠.In)(h2:op≠.NotIn):behindInMarks op b=false:=by
 have e1:(op==CmpOp.In)=false:=by cases op<;>first|rfl|exact absurd rfl h
 have e2:(op==CmpOp.NotIn)=false:=by cases op<;>first|rfl|exact absurd rfl h2
 cases b<;>simp[behindInMarks,e1,e2]
def tB(t:TE):TT:=λσ H Q=>t σ H λx H1=>∃c,x=.bl c/\Q c H1
def E9(h:PE X e t)(he:∀whole,isTrue e X.env whole=(do let v<-whole;standAt e.pos;holding [v] (truthy v)):=by intro _;rfl):PT X e (tB t):=by intro pins s σ H Q I hw;refine isTrue_plain (thn (h pins s σ H _ I hw) λv s1 ⟨x,H1,I1,r1,q1⟩=>?_) (he _);obtain⟨d,rfl,q⟩:=q1;cases r1;exact a1G ⟨H1,I1,q⟩
variable {tA tB':TT}{rest:Om}
def Nr(t u:TT):TT:=λσ H Q=>t σ H λc H1=>if c=true then u σ H1 Q else Q false H1
def tOr(t u:TT):TT:=λσ H Q=>t σ H λc H1=>if c=true then Q true H1 else u σ H1 Q
def Nt(t:TT):TT:=λσ H Q=>t σ H λc H1=>Q (!c) H1
def pw_and1(ha:PT X a tA):PW X (.BoolOp .And [a] pos) tA:=by
 intro wh pins s σ H Q I h;refine isTrue_and (thn (ha pins s σ H Q I h) λc s1 e=>?_);cases c with
 |true=>exact isTrue_and_nil e
 |false=>exact e
def pw_or1(ha:PT X a tA):PW X (.BoolOp .Or [a] pos) tA:=by
 intro wh pins s σ H Q I h;refine isTrue_or (thn (ha pins s σ H Q I h) λc s1 e=>?_);cases c with
 |false=>exact isTrue_or_nil e
 |true=>exact e
def pw_and(ha:PT X a tA)(hb:PW X (.BoolOp .And (b::rest) pos) tB'):PW X (.BoolOp .And (a::b::rest) pos) (Nr tA tB'):=by
 intro wh pins s σ H Q I h;refine isTrue_and (thn (ha pins s σ H _ I h) λc s1 ⟨H1,I1,q1⟩=>?_);cases c with
 |true=>exact hb wh pins s1 σ H1 Q I1 q1
 |false=>exact⟨H1,I1,q1⟩
def pw_or(ha:PT X a tA)(hb:PW X (.BoolOp .Or (b::rest) pos) tB'):PW X (.BoolOp .Or (a::b::rest) pos) (tOr tA tB'):=by
 intro wh pins s σ H Q I h;refine isTrue_or (thn (ha pins s σ H _ I h) λc s1 ⟨H1,I1,q1⟩=>?_);cases c with
 |true=>exact⟨H1,I1,q1⟩
 |false=>exact hb wh pins s1 σ H1 Q I1 q1
def E_(ha:PT X a tA):PT X (.UnaryOp .Not a pos) (Nt tA):=by intro pins s σ H Q I h;exact isTrue_not (ha pins s σ H (λc H1=>Q (!c) H1) I h)
def IX(ta tb:TE):TE:=λσ H Q=>ta σ H λx H1=>∃c,x=.bl c/\if c=true then tb σ H1 Q else Q (.bl false) H1
def Fb{op}(h:PE X a t):PE X (.BoolOp op [a] pos) t:=λpins s σ H Q I hw=>BoolOp_one (h pins s σ H Q I hw)
def Fc(ha:PE X a ta)(hb:PE X (.BoolOp .And (b::rest) pos) tb):PE X (.BoolOp .And (a::b::rest) pos) (IX ta tb):=by
 intro pins s σ H Q I h;refine BoolOp_and (thn (ha pins s σ H _ I h) λv s1 ⟨x,H1,I1,r1,q1⟩=>?_);obtain⟨c,rfl,q1⟩:=q1;cases r1;refine a1G ?_;cases c with
 |true=>exact hb pins s1 σ H1 Q I1 q1
 |false=>exact⟨.bl false,H1,I1,rfl,q1⟩
end
def SqL(K:Oj)(H:Hp)(a:Addr)(xs:Oi):Prop:=
 Rd H a (.lst xs)\/
  ∃(o:Obj)(its:ON)(n:Nat),K.lookup a=some o/\o.cls=.type "list"/\o.dict=none/\o.data=.seq its n/\its.size<=sizeLine/\Vals xs its.toList
def SqT(K:Oj)(H:Hp)(a:Addr)(xs:Oi):Prop:=
 Rd H a (.tup xs)\/
  ∃(o:Obj)(its:ON)(n:Nat),K.lookup a=some o/\o.cls=.type "tuple"/\o.data=.seq its n/\its.size<=sizeLine/\Vals xs its.toList
def Nu:Value->Option V
 |.none=>some .non
 |.bool b=>some (.bl b)
 |.int i _=>some (.int i)
 |.str x _=>some (.str x)
 |.bytes b _=>some (.byt b)
 |.float b _=>some (.flt b)
 |.ref a=>some (.ref a)
 |.type n=>some (.ty n)
 |_=>none
def RelV.abs(r:RelV x u):Nu u=some x:=by
 cases x with
 |non=>cases r;rfl
 |bl _=>cases r;rfl
 |int _=>obtain⟨t,rfl⟩:=r;rfl
 |str _=>obtain⟨t,rfl⟩:=r;rfl
 |byt _=>obtain⟨t,rfl⟩:=r;rfl
 |flt _=>obtain⟨t,rfl⟩:=r;rfl
 |ref _=>cases r;rfl
 |ty _=>cases r;rfl
def RelV.inj(r:RelV x u)(q:RelV y u):x=y:=T4 (r.abs.symm.trans q.abs)
def Vals.inj:∀{xs ys:Oi}{us:Og},Vals xs us->Vals ys us->xs=ys
 |_,_,_,.nil,.nil=>rfl
 |_,_,_,.cons r t,.cons r' t'=>by rw[r.inj r',Vals.inj t t']
def SqL.of{K:Oj}(h:H a=some (.lst xs)):SqL K H a xs:=.inl (.inl h)
def SqT.of{K:Oj}(h:H a=some (.tup xs)):SqT K H a xs:=.inl (.inl h)
def Inv.list(I:Inv X pins σ H s)(h:SqL X.K H a xs):∃its:List Value,Vals xs its/\PlainL s.heap a its.toArray/\xs.length<=sizeLine:=by
 rcases h with h|⟨o,its,n,hk,hc,hd,hs,hz,r⟩
 .obtain⟨z,its,n,r,e⟩:=h.ok I.hok;exact⟨its,r,⟨_,n,e,rfl,rfl,rfl⟩,z⟩
 .refine⟨its.toList,r,⟨o,n,I.kIn a o hk,hc,hd,by simpa using hs⟩,?_⟩;have e:=r.length;simp only[Array.length_toList]at e;omega
def Inv.tuple(I:Inv X pins σ H s)(h:SqT X.K H a xs):∃its:List Value,Vals xs its/\IsTup s.heap a its.toArray/\xs.length<=sizeLine:=by
 rcases h with h|⟨o,its,n,hk,hc,hs,hz,r⟩
 .obtain⟨z,its,r,p⟩:=h.ok I.hok;exact⟨its,r,p,z⟩
 .refine⟨its.toList,r,⟨o,I.kIn a o hk,hc,n,by simpa using hs⟩,?_⟩;have e:=r.length;simp only[Array.length_toList]at e;omega
def Inv.uN(I:Inv X pins σ H s)(h:SqL X.K H a xs)(h':SqL X.K H a ys):xs=ys:=by
 obtain⟨its,r,⟨o,n,e,_,_,d⟩,_⟩:=I.list h;obtain⟨its',r',⟨o',n',e',_,_,d'⟩,_⟩:=I.list h';rw[e]at e';cases e';rw[d]at d';injection d' with d1 _
 have:its=its':=by simpa using a0e Array.toList d1
 subst this;exact r.inj r'
def Inv.dB(I:Inv X pins σ H s)(h:SqT X.K H a xs)(h':SqT X.K H a ys):xs=ys:=by
 obtain⟨its,r,⟨o,e,_,n,d⟩,_⟩:=I.tuple h;obtain⟨its',r',⟨o',e',_,n',d'⟩,_⟩:=I.tuple h';rw[e]at e';cases e';rw[d]at d';injection d' with d1 _
 have:its=its':=by simpa using a0e Array.toList d1
 subst this;exact r.inj r'
abbrev Cx.dw(X:Cx)(E:Oc):Cx:={ X with xe:=E }
abbrev Cx.nox(X:Cx):Cx:=X.dw λ_ _=>False
def Cx.Ok.dw{X:Cx}(ok:X.Ok)(E:Oc):(X.dw E).Ok:=
 ⟨ok.mod,ok.kind,ok.glob,ok.blt,ok.above,ok.inj,ok.has,ok.cab,ok.hd,ok.frames,ok.stk,ok.exf,ok.bs,ok.bsz,ok.EF,ok.EG,ok.dz,ok.frf⟩
def Cx.Ok.QI{X:Cx}{E:Oc}(ok:(X.dw E).Ok):X.Ok:=
 ⟨ok.mod,ok.kind,ok.glob,ok.blt,ok.above,ok.inj,ok.has,ok.cab,ok.hd,ok.frames,ok.stk,ok.exf,ok.bs,ok.bsz,ok.EF,ok.EG,ok.dz,ok.frf⟩
def Inv.dw(I:Inv X pins σ H s)(E:Oc):Inv (X.dw E) pins σ H s:=⟨I.ok.dw E,I.os,I.bare,I.base,I.loc,I.cell,I.free,I.VG,I.pin,I.hok,I.len⟩
def Inv.QI(I:Inv (X.dw E) pins σ H s):Inv X pins σ H s:=⟨I.ok.QI,I.os,I.bare,I.base,I.loc,I.cell,I.free,I.VG,I.pin,I.hok,I.len⟩
def SP.QI(h:SP (X.dw E) pins D f s'):SP X pins D f s':=by
 cases f with
 |next=>obtain⟨σ',H',I,q⟩:=h;exact⟨σ',H',I.QI,q⟩
 |brk=>obtain⟨σ',H',I,q⟩:=h;exact⟨σ',H',I.QI,q⟩
 |cont=>obtain⟨σ',H',I,q⟩:=h;exact⟨σ',H',I.QI,q⟩
 |ret u=>obtain⟨v,σ',H',I,r,q⟩:=h;exact⟨v,σ',H',I.QI,r,q⟩
section
variable {X:Cx}{st:OO}{rest:OG}{t u:TS}{e:Oq}{te:TE}{pos:Pos}
def IY:TS:=λD σ H=>D.nx σ H
def IZ(t u:TS):TS:=λD σ H=>t { D with nx:=u D } σ H
def oP:PSs X [] IY:=λ_ _ σ H _ I h=>a1b ⟨σ,H,I,h⟩
def bN(h1:PS X st t)(h2:PSs X rest u):PSs X (st::rest) (IZ t u):=by
 intro pins s σ H D I h;refine a2u (thn (h1 pins s σ H { D with nx:=u D } I h) λf s1 q=>?_);cases f with
 |next=>obtain⟨σ',H',I',q⟩:=q;exact h2 pins s1 σ' H' D I' q
 |ret v=>exact q
 |brk=>exact q
 |cont=>exact q
def ZK(h1:PS X st t):PSs X [st] t:=by
 intro pins s σ H D I h;refine a2u (thn (h1 pins s σ H D I h) λf s1 q=>?_);cases f with
 |next=>exact a1b q
 |ret v=>exact q
 |brk=>exact q
 |cont=>exact q
def Inv.quiet(I:Inv X pins σ H s):interactive X.env=false:=by simp[interactive,I.ok.kind]
def I0(te:TE):TS:=λD σ H=>te σ H λ_ H1=>D.nx σ H1
def gr(he:PE X e te)(hs:swapsWith e none pos.line X.env=pure false:=by rfl):PS X (.Expr e pos) (I0 te):=by intro pins s σ H D I h;exact wpAny_Expr_any (thn (he pins s σ H _ I h) λv s1 ⟨x,H1,I1,r1,q1⟩=>⟨σ,H1,I1,q1⟩) I.quiet hs
def Nv(te:TE):TS:=λD σ H=>te σ H D.rt
def oQ(he:PE X e te):PS X (.Return (some e) pos) (Nv te):=by intro pins s σ H D I h;exact wpAny_Return_some (thn (he pins s σ H _ I h) λv s1 ⟨x,H1,I1,r1,q1⟩=>⟨x,σ,H1,I1,r1,q1⟩)
def Nw(c:TT)(t u:TS):TS:=λD σ H=>c σ H λb H1=>if b=true then t D σ H1 else u D σ H1
def Fd(hc:PT X c tc)(ha:PSs X a t)(hb:PSs X b u):PS X (.If c a b pos) (Nw tc t u):=by
 intro pins s σ H D I h;refine wpAny_If (thn (hc pins s σ H _ I h) λd s1 ⟨H1,I1,q1⟩=>?_);cases d with
 |true=>exact ha pins s1 σ H1 D I1 q1
 |false=>exact hb pins s1 σ H1 D I1 q1
end
abbrev TG:=V->St->Hp->(St->Hp->Prop)->Prop
abbrev TGs:=List V->St->Hp->(St->Hp->Prop)->Prop
def PG(X:Cx)(target:Oq)(t:TG):Prop:=
 ∀(pins:Oa)(s:Oe)(σ:St)(H:Hp)(v:V)(u:Value)(Q:St->Hp->Prop),Inv X pins σ H s->RelV v u->t v σ H Q->
  wpAny (Ph X) X.A (assign target X.env u) (λ_ s'=>∃σ' H',Inv X pins σ' H' s'/\Q σ' H') X.xe s
def PGs(X:Cx)(ts:Om)(t:TGs):Prop:=
 ∀(pins:Oa)(s:Oe)(σ:St)(H:Hp)(vs:Oi)(us:Og)(Q:St->Hp->Prop),Inv X pins σ H s->Vals vs us->t vs σ H Q->
  wpAny (Ph X) X.A (assignInOrder ((assignEach ts X.env).map (·.2)) us) (λ_ s'=>∃σ' H',Inv X pins σ' H' s'/\Q σ' H') X.xe s
abbrev MD:=V->V->V->Hp->(Hp->Prop)->Prop
def MF(X:Cx)(t:MD):Prop:=
 ∀(pins:Oa)(s:Oe)(σ:St)(H:Hp)(o i v:V)(ov iv u:Value)(Q:Hp->Prop),Inv X pins σ H s->RelV o ov->RelV i iv->RelV v u->t o i v H Q->
  wpAny (Ph X) X.A (setItem ov iv u) (λ_ s'=>∃H',Inv X pins σ H' s'/\Q H') X.xe s
section
variable {X:Cx}{pos:Pos}
def gu(i:Nat):TG:=λv σ H Q=>Q (σ.set i (some v)) H
def oR(hN:X.N.Nodup)(hi:X.N[i]?=some x)(hx:Loc X.env.scope x)(hf:X.fn x=true\/X.env.scope.names.lookup x=some .local:=by first|exact .inl rfl|exact .inr rfl|assumption):PG X (.Name x pos) (gu i):=by intro pins s σ H v u Q I r h;exact wpAny_assign_Name (bL I hN hi hx r (λs' I'=>⟨_,H,I',h⟩) hf)
def Nx:TGs:=λvs σ H Q=>vs=[]/\Q σ H
def I_(t:TG)(u:TGs):TGs:=λvs σ H Q=>∃v r,vs=v::r/\t v σ H λσ' H'=>u r σ' H' Q
def Cu:PGs X [] Nx:=by intro pins s σ H vs us Q I r h;obtain⟨e,h⟩:=h;subst e;cases r;exact assignInOrder_nil ⟨σ,H,I,h⟩
def uO(h1:PG X e t)(h2:PGs X es u)
  (hs:(assignEach (e::es) X.env).map (·.2)=assign e X.env::(assignEach es X.env).map (·.2):=by rfl):PGs X (e::es) (I_ t u):=by
 intro pins s σ H vs us Q I r h;obtain⟨v,vr,e1,h⟩:=h;subst e1;cases r with
 |cons r rr=>rw[hs];refine assignInOrder_cons (thn (h1 pins s σ H _ _ _ I r h) λ_ s1 ⟨σ1,H1,I1,q1⟩=>?_);exact h2 pins s1 σ1 H1 _ _ Q I1 rr q1
def Ny(K:Oj)(n:Nat)(t:TGs):TG:=λv σ H Q=>∃a xs,v=.ref a/\SqT K H a xs/\xs.length=n/\t xs σ H Q
def Fe(hc:X.calm=true)(h:PGs X es t)
  (hn:(assignEach es X.env).length=n:=by rfl) (hst:(assignEach es X.env).findIdx? (·.1)=none:=by rfl):PG X (.Tuple es k pos) (Ny X.K n t):=by
 intro pins s σ H v u Q I r hw;obtain⟨a,xs,e1,hq,hl,hw⟩:=hw;subst e1;cases r;obtain⟨its,rv,ht,hz⟩:=I.tuple hq;refine assign_Tuple_tuple (I.ok.hd hc) ht (by simp[hn,<- hl,rv.length]) hst λh' hx=>?_;have I1:Inv X pins σ H { s with heap:=h' }:=I.kept (t':=s.toks) λb o e=>hx b o (P1 (O5 e)) e;exact h pins _ σ H xs _ Q I1 (by simpa using rv) hw
def Nz(to ti:TE)(t:MD):TG:=λv σ H Q=>to σ H λo H1=>ti σ H1 λi H2=>t o i v H2 λH3=>Q σ H3
def Ff(ho:PE X o to)(hi:PE X i ti)(hs:MF X t)
  (ha:∀v,assign (.Subscript o i pos) X.env v=(do
   let ov<-holding [v] (eval o X.env)
   let iv<-holding [v,ov] (eval i X.env)
   standAt pos
   holding [v,ov,iv] (setItem ov iv v)
   release [v,ov,iv] []):=by intro _;rfl):PG X (.Subscript o i pos) (Nz to ti t):=by
 intro pins s σ H v u Q I r h;rw[ha];refine f8 (a0i (thn (ho pins s σ H _ I h) λov s1 ⟨x,H1,I1,r1,q1⟩=>?_));refine f8 (a0i (thn (hi pins s1 σ H1 _ I1 q1) λiv s2 ⟨y,H2,I2,r2,q2⟩=>?_));refine f8 (a1q (f8 (a0i (thn (hs pins s2 σ H2 x y v ov iv u _ I2 r1 r2 r q2) λ_ s3 ⟨H3,I3,q3⟩=>?_))));exact wpAny_release ⟨σ,H3,I3,q3⟩
def EK(te:TE)(g:TG):TS:=λD σ H=>te σ H λx H1=>g x σ H1 D.nx
def Bc(he:PE X e te)(hg:PG X tg g)(hs:swapsWithSole [tg] e pos.line X.env=pure false:=by rfl)(hw:swappedStores [tg] e X.env=pure none:=by rfl)
  (h1:(assignEach [tg] X.env).map (·.2)=[assign tg X.env]:=by rfl):PS X (.Assign [tg] e pos) (EK te g):=by
 intro pins s σ H D I h;refine wpAny_Assign_stores (thn (he pins s σ H _ I h) λv s1 ⟨x,H1,I1,r1,q1⟩=>?_) hs hw;rw[h1];exact thn (hg pins s1 σ H1 x v _ I1 r1 q1) λ_ s2 q=>q
def oS(hN:X.N.Nodup)(hi:X.N[i]?=some x)(hx:Loc X.env.scope x)(he:PE X e te)(hs:swapsWith e (some (.Name x pos')) pos.line X.env=pure false:=by rfl)(hf:X.fn x=true\/X.env.scope.names.lookup x=some .local:=by first|exact .inl rfl|exact .inr rfl|assumption):
  PS X (.Assign [.Name x pos'] e pos) (EK te (gu i)):=by
 intro pins s σ H D I h;refine wpAny_Assign_Name (thn (he pins s σ H _ I h) λv s1 ⟨y,H1,I1,r1,q1⟩=>?_) hs;exact bL I1 hN hi hx r1 (λs2 I2=>⟨_,H1,I2,q1⟩) hf
end
section
variable {X:Cx}{pos:Pos}
def Bd(c:TT)(tb:TS):TS:=λD σ H=>∃W:Nat->St->Hp->Prop,(∃m,W m σ H)/\∀m σ H,W m σ H->
 c σ H λb H1=>if b=true then ∃N:St->Hp->Prop,(∀σ' H',N σ' H'->∃m',m'<m/\W m' σ' H')/\tb { D with nx:=N,ct:=N,bk:=D.nx } σ H1 else D.nx σ H1
def uP(hp:PassesOwn (Ph X) X.A X.env X.xe)(hc:PT X c tc)(hb:PSs X body tb):PS X (.While c body [] pos) (Bd tc tb):=by
 intro pins s σ H D I h;obtain⟨W,⟨m0,w0⟩,turn⟩:=h;refine wpAny_While (codeAny_whileLoop (λn s'=>∃σ' H',Inv X pins σ' H' s'/\W n σ' H') ?_ m0 ⟨σ,H,I,w0⟩)
 rintro n s1 ⟨σ1,H1,I1,w1⟩
 refine a0T hp (thn (hc pins s1 σ1 H1 _ I1 (turn n σ1 H1 w1)) λb s2 ⟨H2,I2,q2⟩=>?_);cases b with
 |true=>
  obtain⟨N,hN,q2⟩:=q2;rw[if_pos rfl];refine a0T hp (thn (hb pins s2 σ1 H2 _ I2 q2) λf s3 q3=>?_);cases f with
  |next=>obtain⟨σ3,H3,I3,n3⟩:=q3;obtain⟨m',hm,w3⟩:=hN σ3 H3 n3;exact⟨m',hm,σ3,H3,I3,w3⟩
  |cont=>obtain⟨σ3,H3,I3,n3⟩:=q3;obtain⟨m',hm,w3⟩:=hN σ3 H3 n3;exact⟨m',hm,σ3,H3,I3,w3⟩
  |brk=>exact q3
  |ret v=>exact q3
 |false=>rw[if_neg P5];exact a1b ⟨σ1,H2,I2,q2⟩
end
structure It where
 go:Nat->Hp->Prop
 yld:Nat->Hp->V->Hp->Prop
 stop:Nat->Hp->Prop
def mR(X:Cx)(pins:Oa)(H:Hp)(b:Addr):Prop:=
 H b=none/\b≠X.env.locals/\b∉X.fs/\(b∈X.ex\/X.s₀.heap.objs.size<=b)/\(∀x c,X.env.cells.lookup x=some c->c≠b)/\∀p∈X.pn++pins,p.1≠b
def Inv.EL(I:Inv X pins σ H s)(hb:s.heap.objs.size<=b)(hn:H' b=none):mR X pins H' b:=by
 refine⟨hn,a0O (P4 I.lt hb),I.Nq hb,.inr (P7 I.sz hb),λx c e z=>?_,λp hp z=>?_⟩
 .obtain⟨v,q⟩:=I.cell x c e;exact absurd (P4 q.lt (by rw[z];exact hb)) (a0t _)
 .exact absurd (P4 (O5 (I.pin p hp).1) (by rw[z];exact hb)) (a0t _)
structure Turn(P:Ot)(w:Ox)(K:Oj)(tg:Oq)(J:It)(fp:OP)(it:Addr)(tn:Nat->Heap->Prop):Prop where
 mem:it∈fp
 obj:∀i h,tn i h->∀b∈fp,∃o,h.get? b=some o/\∀v,o.data≠.cell v
 keep:∀i h h',tn i h->(∀b∈fp,∀o,h.get? b=some o->h'.get? b=some o)->tn i h'
 item:∀(X:Cx),X.prog=P->X.w=w->X.K=K->X.calm=true->∀(i:Nat)(pins:Oa)(s:Oe)(σ:St)(H:Hp)(E:Oc),Inv X pins σ H s->(∀b∈fp,mR X pins H b)->tn i s.heap->J.go i H->
  wpAny (model P w) X.A (pyNext (.ref it)) (λr s1=>∃u,r=some u/\
   wpAny (model P w) X.A (letOwnedTupleGo tg (.ref it) u) (λ_ s2=>∃x H',Inv X pins σ H' s2/\RelV x u/\J.yld i H x H'/\tn (i+1) s2.heap/\∀b∈fp,H' b=none) E s1) E s
 done:∀(X:Cx),X.prog=P->X.w=w->X.K=K->X.calm=true->∀(i:Nat)(pins:Oa)(s:Oe)(σ:St)(H:Hp)(E:Oc),Inv X pins σ H s->(∀b∈fp,mR X pins H b)->tn i s.heap->J.stop i H->
  wpAny (model P w) X.A (pyNext (.ref it)) (λr s1=>r=none/\Inv X pins σ H s1) E s
 self:∀(A:Oy)(i:Nat)(s:Oe)(Q:Oc)(E:Oc),tn i s.heap->Q (.ref it) s->wpAny (model P w) A (pyIter (.ref it)) Q E s
abbrev TI:=St->Hp->(It->Hp->Prop)->Prop
def PIE(X:Cx)(pins:Oa)(σ:St)(tg:Oq)(R:It->Hp->Prop)(itv:Value)(s2:Oe):Prop:=
 ∃(it:Addr)(fp:OP)(tn:Nat->Heap->Prop)(J:It)(H':Hp),itv=.ref it/\Inv X pins σ H' s2/\Turn X.prog X.w X.K tg J fp it tn/\tn 0 s2.heap/\(∀b∈fp,mR X pins H' b)/\R J H'
def PI(X:Cx)(tg kX:Oq)(wi:TI):Prop:=
 ∀(pins:Oa)(s:Oe)(σ:St)(H:Hp)(R:It->Hp->Prop),Inv X pins σ H s->wi σ H R->
  wpAny (Ph X) X.A (eval kX X.env) (λv s1=>wpAny (Ph X) X.A (pyIter v) (PIE X pins σ tg R) X.xe s1) X.xe s
def Cv(ho:s.heap.get? it=some o)(hc:o.cls=.type n)(hd:o.data=.fields vs)
    (hn:["enumerate","zip","dict_itemiterator","dict_reverseitemiterator","odict_iterator","itertools.zip_longest","itertools.pairwise"].contains n=false) (hQ:Q () s):wpAny M A (letOwnedTupleGo tg (.ref it) u) Q E s:=by
  unfold letOwnedTupleGo;cases tg<;>first
    |exact O0 hQ
    | (cases u<;>first
        |exact O0 hQ
        | (refine f8 (a2Z ho ?_)
           rw[hc,hd];show wpAny M A (if(["enumerate","zip","dict_itemiterator","dict_reverseitemiterator","odict_iterator","itertools.zip_longest","itertools.pairwise"].contains n&&vs[0]?==some (rawInt _))=true then _ else _) Q E s;rw[if_neg (by intro h;rw[hn,Bool.false_and]at h;cases h)];exact O0 hQ))
def Itl(K:Oj)(a:Addr):It:=
 ⟨λi H=>∃xs x,SqL K H a xs/\xs[i]?=some x,λi H x H'=>H'=H/\∀xs,SqL K H a xs->xs[i]?=some x,λi H=>∃xs,SqL K H a xs/\xs.length<=i⟩
def Itt(K:Oj)(a:Addr):It:=
 ⟨λi H=>∃xs x,SqT K H a xs/\xs[i]?=some x,λi H x H'=>H'=H/\∀xs,SqT K H a xs->xs[i]?=some x,λi H=>∃xs,SqT K H a xs/\xs.length<=i⟩
def Itr(lo:Int)(n:Nat):It:=⟨λi _=>i<n,λi H x H'=>H'=H/\x=.int (lo+i),λi _=>n<=i⟩
def oU{P:Ot}{w:Ox}{K:Oj}{tg:Oq}(a it:Addr):Turn P w K tg (Itl K a) [it] it (λi h=>h.IsListIter it a i)where
 mem:=by simp
 obj:=λi h st b hb=>by
  have e:b=it:=by simpa using hb
  subst e;obtain⟨o,e,c,d⟩:=st;exact⟨o,e,λv z=>by rw[d]at z;cases z⟩
 keep:=λi h h' st k=>st.at λo e=>k it (by simp) o e
 item:=by intro X hP hw hK hc i pins s σ H E I hf st hg;subst hP hw hK;obtain⟨xs,x,hq,hx⟩:=hg;obtain⟨its,rv,p,hz⟩:=I.list hq;obtain⟨u,hu,ru⟩:=rv.get hx;obtain⟨f0,f1,f2,f3,f4,f5⟩:=hf it (by simp);refine wpAny_pyNext_list_item st p.isList (x:=u) (by simpa using hu) λh' st' sb=>?_;have I1:Inv X pins σ H { s with heap:=h' }:=I.turned (t':=s.toks) (λb o hb e=>(sb.2 b hb).trans e) f0 f1 f3 f4 f5;obtain⟨o,e,c,d⟩:=id st';exact⟨u,rfl,Cv (s:={ s with heap:=h' }) e c d (by decide) ⟨x,H,I1,ru,⟨rfl,λys hy=>by rw[I.uN hy hq];exact hx⟩,st',λb hb=>(hf b hb).1⟩⟩
 done:=by intro X hP hw hK hc i pins s σ H E I hf st hg;subst hP hw hK;obtain⟨xs,hq,hx⟩:=hg;obtain⟨its,rv,p,hz⟩:=I.list hq;obtain⟨f0,f1,f2,f3,f4,f5⟩:=hf it (by simp);have hl:=rv.length;exact wpAny_pyNext_list_end (I.ok.hd hc) st p.isList (by simp;omega) λh' eb=>⟨rfl,I.turned (t':=s.toks) (λb o hb e=>eb b o hb e) f0 f1 f3 f4 f5⟩
 self:=λ_ _ _ _ _ st h=>wpAny_pyIter_listiter st h
def mS{P:Ot}{w:Ox}{K:Oj}{tg:Oq}(a it:Addr):Turn P w K tg (Itt K a) [it] it (λi h=>h.IsTupleIter it a i)where
 mem:=by simp
 obj:=λi h st b hb=>by
  have e:b=it:=by simpa using hb
  subst e;obtain⟨o,e,c,d⟩:=st;exact⟨o,e,λv z=>by rw[d]at z;cases z⟩
 keep:=λi h h' st k=>st.at λo e=>k it (by simp) o e
 item:=by intro X hP hw hK hc i pins s σ H E I hf st hg;subst hP hw hK;obtain⟨xs,x,hq,hx⟩:=hg;obtain⟨its,rv,p,hz⟩:=I.tuple hq;obtain⟨u,hu,ru⟩:=rv.get hx;obtain⟨f0,f1,f2,f3,f4,f5⟩:=hf it (by simp);refine wpAny_pyNext_tuple_item st (show s.heap.IsTuple a its.toArray from p) (x:=u) (by simpa using hu) λh' st' sb=>?_;have I1:Inv X pins σ H { s with heap:=h' }:=I.turned (t':=s.toks) (λb o hb e=>(sb.2 b hb).trans e) f0 f1 f3 f4 f5;obtain⟨o,e,c,d⟩:=id st';exact⟨u,rfl,Cv (s:={ s with heap:=h' }) e c d (by decide) ⟨x,H,I1,ru,⟨rfl,λys hy=>by rw[I.dB hy hq];exact hx⟩,st',λb hb=>(hf b hb).1⟩⟩
 done:=by intro X hP hw hK hc i pins s σ H E I hf st hg;subst hP hw hK;obtain⟨xs,hq,hx⟩:=hg;obtain⟨its,rv,p,hz⟩:=I.tuple hq;obtain⟨f0,f1,f2,f3,f4,f5⟩:=hf it (by simp);have hl:=rv.length;exact wpAny_pyNext_tuple_end (I.ok.hd hc) st (show s.heap.IsTuple a its.toArray from p) (by simp;omega) λh' eb=>⟨rfl,I.turned (t':=s.toks) (λb o hb e=>eb b o hb e) f0 f1 f3 f4 f5⟩
 self:=λ_ _ _ _ _ st h=>wpAny_pyIter_tupleiter st h
def mT{P:Ot}{w:Ox}{K:Oj}{tg:Oq}(it:Addr)(lo:Int)(n:Nat):Turn P w K tg (Itr lo n) [it] it (λi h=>IsRangeIter h it (lo+(i:Nat)*1) ((n:Int)-(i:Nat)) 1)where
 mem:=by simp
 obj:=λi h st b hb=>by
  have e:b=it:=by simpa using hb
  subst e;exact⟨_,st,λv z=>by
   have z':Data.fields _=Data.cell v:=z;cases z'⟩
 keep:=λi h h' st k=>k it (by simp) _ st
 item:=by intro X hP hw hK hc i pins s σ H E I hf st hg;subst hP hw hK;obtain⟨f0,f1,f2,f3,f4,f5⟩:=hf it (by simp);have W:=Walks.range (prog:=X.prog) (w:=X.w) (I.ok.hd hc) it lo 1 n;refine W.item i s _ _ hg st λv h' tk hv st' kk=>?_;obtain⟨t,rfl⟩:=hv;have I1:Inv X pins σ H { s with heap:=h',toks:=tk }:=I.turned (λb o hb e=>kk b o (by simpa using hb) e) f0 f1 f3 f4 f5;refine⟨_,rfl,Cv (s:={ s with heap:=h',toks:=tk }) (n:="range_iterator") st' rfl rfl (by decide) ⟨.int (lo+i),H,I1,⟨t,?_⟩,⟨rfl,rfl⟩,st',λb hb=>(hf b hb).1⟩⟩;rw[Int.mul_one]
 done:=by intro X hP hw hK hc i pins s σ H E I hf st hg;subst hP hw hK;obtain⟨f0,f1,f2,f3,f4,f5⟩:=hf it (by simp);exact wpAny_pyNext_range_end (I.ok.hd hc) st (by have:n<=i:=hg;omega) λh' eb=>⟨rfl,I.turned (t':=s.toks) (λb o hb e=>eb b o hb e) f0 f1 f3 f4 f5⟩
 self:=λ_ _ _ _ _ st h=>wpAny_pyIter_rangeiter st h
section
variable {X:Cx}{tg:Oq}
def uQ{pins:Oa}{σ:St}{H:Hp}{s:Oe}{R:It->Hp->Prop}{E:Oc}{lo hi:Int}{t u v:Tok}{tk:Nat}(I:Inv X pins σ H s)(h1:-(2 ^ 62)<=lo)(h2:lo<2 ^ 62)(h3:-(2 ^ 62)<=hi)(h4:hi<2 ^ 62)
  (q:R (Itr lo (hi-lo).toNat) H):wpAny (Ph X) X.A (pyIter (.ref s.heap.objs.size)) (PIE X pins σ tg R) E { s with heap:=s.heap.push { cls:=.type "range",data:=.fields #[.int lo t,.int hi u,.int 1 v] },toks:=tk }:=by
 refine wpAny_pyIter_range (IsRange.new ..) (small_one h1 h2 h3 h4) ?_;have I1:Inv X pins σ H { s with heap:=s.heap.push { cls:=.type "range",data:=.fields #[.int lo t,.int hi u,.int 1 v] },toks:=tk }:=I.kept λb o e=>v4 _ e;refine⟨(s.heap.push { cls:=.type "range",data:=.fields #[.int lo t,.int hi u,.int 1 v] }).objs.size,[(s.heap.push { cls:=.type "range",data:=.fields #[.int lo t,.int hi u,.int 1 v] }).objs.size],_,_,H,rfl,
  I1.kept (t':=tk) λb o e=>v4 _ e,mT _ lo (hi-lo).toNat,?_,λb hb=>?_,q⟩
 .have e1:lo+((0:Nat):Int)*1=lo:=by simp
  have e2:(((hi-lo).toNat:Nat):Int)-((0:Nat):Int)=Builtin.Range.rangeSize lo hi 1:=by rw[rangeSize_one];split<;>omega
  show IsRangeIter _ _ (lo+((0:Nat):Int)*1) ((((hi-lo).toNat:Nat):Int)-((0:Nat):Int)) 1;rw[e1,e2];exact P2 _ rfl
 .have e:b=(s.heap.push { cls:=.type "range",data:=.fields #[.int lo t,.int hi u,.int 1 v] }).objs.size:=by simpa using hb
  subst e;exact I1.EL (O2 _) (I1.hok.fresh (O2 _))
def La(ta:TA):TI:=λσ H R=>ta σ H λvs H1=>∃j:Int,vs=[.int j]/\-(2 ^ 62)<=j/\j<2 ^ 62/\R (Itr 0 j.toNat) H1
def oV(hg:Gl X "range")(hm:X.mg "range"=none)(ha:PA X [a] ta)(hs:starEach [a] X.env=[(false,eval a X.env)]:=by rfl):PI X tg (.Call (.Name "range" p) [a] [] pos) (La ta):=by
 intro pins s σ H R I h;refine Call_ (aR I hg hm boot_range (a1j (thn (ha pos pins s σ H _ I h) λus s1 ⟨vs,H1,I1,r1,q1⟩=>?_) hs rfl));obtain⟨j,e,q1,q2,q⟩:=q1;subst e;cases r1 with
 |cons r rr=>cases rr;obtain⟨t,rfl⟩:=r;exact call_range_1 (uQ I1 (by omega) (by omega) q1 q2 (by simpa using q))
def Iw(wi:TI)(g:TG)(tb:TS):TS:=λD σ H=>wi σ H λJ H1=>∃W:Nat->Nat->St->Hp->Prop,(∃m,W 0 m σ H1)/\∀i m σ H,W i m σ H->
 (J.stop i H/\D.nx σ H)\/(J.go i H/\∃N:St->Hp->Prop,(∀σ' H',N σ' H'->∃m',m'<m/\W (i+1) m' σ' H')/\∀x H',J.yld i H x H'->g x σ H' λσ2 H2=>tb { D with nx:=N,ct:=N,bk:=D.nx } σ2 H2)
def dC(fp:OP)(h:Heap):List (Addr×Obj):=fp.filterMap λb=>(h.get? b).map λo=>(b,o)
def Jy(hb:b∈fp)(e:h.get? b=some o):(b,o)∈dC fp h:=a3a.mpr ⟨b,hb,by rw[e];rfl⟩
def oW(hp:p∈dC fp h):p.1∈fp/\h.get? p.1=some p.2:=by
 obtain⟨b,hb,e⟩:=a3a.mp hp;cases q:h.get? b with
 |none=>rw[q]at e;cases e
 |some o=>rw[q]at e;have e':(b,o)=p:=T4 e;subst e';exact⟨hb,q⟩
def Inv.pinned(I:Inv X pins σ H s)(hf:∀b∈fp,mR X pins H b)(ho:∀b∈fp,∃o,s.heap.get? b=some o/\∀v,o.data≠.cell v):Inv X (pins++dC fp s.heap) σ H s:=
 I.bK λp hp=>(T9.mp hp).elim (λz=>I.pin p (R7 _ z)) λz=>by obtain⟨hb,e⟩:=oW z;obtain⟨f0,f1,f2,_⟩:=hf p.1 hb;obtain⟨o,e',d⟩:=ho p.1 hb;rw[e]at e';cases e';exact⟨e,f0,f1,f2,d⟩
def Inv.Zl(I:Inv X (pins++pl) σ H s):Inv X pins σ H s:=I.bK λp hp=>I.pin p (R7 _ (a1W _ hp))
def oX(hp:PassesOwn (Ph X) X.A X.env X.xe)(hc:X.calm=true)(hi:PI X tg kX wi)(hg:PG X tg g)(hb:PSs X body tb)
  (hs:∀x,foldedSetIterable kX X.env x=pure x:=by intro _;rfl):PS X (.For tg kX body [] pos) (Iw wi g tb):=by
 intro pins s σ H D I h;refine wpAny_For (thn (hi pins s σ H _ I h) λv s1 h1=>thn h1 λitv s2 h2=>?_) hs;obtain⟨it,fp,tn,J,H2,e,I2,T,st2,f2,W,⟨m0,w0⟩,turn⟩:=h2;subst e
 -- what stays true of the iterator's objects through the loop
 have stat:∀{H':Hp},(∀b∈fp,H' b=none)->∀b∈fp,mR X pins H' b:=λhn b hb=>⟨hn b hb,(f2 b hb).2⟩;refine codeAny_forLoop_any (λn s'=>∃i σ' H',Inv X pins σ' H' s'/\tn i s'.heap/\(∀b∈fp,H' b=none)/\W i n σ' H') ?_ m0 ⟨0,σ,H2,I2,st2,λb hb=>(f2 b hb).1,w0⟩
 rintro n s3 ⟨i,σ3,H3,I3,st3,fr3,w3⟩
 rcases turn i n σ3 H3 w3 with⟨stop,qn⟩|⟨go,N,hN,step⟩
 .refine a0T hp (thn (T.done X rfl rfl rfl hc i pins s3 σ3 H3 X.xe I3 (stat fr3) st3 stop) λr s4 ⟨hr,I4⟩=>?_);subst hr;exact a1b ⟨σ3,H3,I4,qn⟩
 .refine a0T hp (thn (T.item X rfl rfl rfl hc i pins s3 σ3 H3 X.xe I3 (stat fr3) st3 go) λr s4 ⟨u,hr,h4⟩=>?_);subst hr;refine a0T hp (thn h4 λ_ s5 ⟨x,H5,I5,r5,y5,st5,fr5⟩=>?_);have I5':=I5.pinned (stat fr5) (T.obj _ _ st5);refine a0T hp (thn (hg _ s5 σ3 H5 x u _ I5' r5 (step x H5 y5)) λ_ s6 ⟨σ6,H6,I6,q6⟩=>?_);refine a0T hp (thn (hb _ s6 σ6 H6 _ I6 q6) λf s7 q7=>?_);have again:∀{σ7:St}{H7:Hp},Inv X (pins++dC fp s5.heap) σ7 H7 s7->N σ7 H7->∃m,m<n/\∃i σ' H',Inv X pins σ' H' s7/\tn i s7.heap/\(∀b∈fp,H' b=none)/\W i m σ' H':=λ{σ7 H7} I7 n7=>by obtain⟨m',hm,w7⟩:=hN σ7 H7 n7;refine⟨m',hm,i+1,σ7,H7,I7.Zl,T.keep _ _ _ st5 λb hb o e=>(I7.pin (b,o) (R7 _ (R7 _ (Jy hb e)))).1,λb hb=>?_,w7⟩;obtain⟨o,e,d⟩:=T.obj _ _ st5 b hb;exact(I7.pin (b,o) (R7 _ (R7 _ (Jy hb e)))).2.1
  cases f with
  |next=>obtain⟨σ7,H7,I7,n7⟩:=q7;exact again I7 n7
  |cont=>obtain⟨σ7,H7,I7,n7⟩:=q7;exact again I7 n7
  |brk=>obtain⟨σ7,H7,I7,q7⟩:=q7;exact⟨σ7,H7,I7.Zl,q7⟩
  |ret v=>obtain⟨x7,σ7,H7,I7,r7,q7⟩:=q7;exact⟨x7,σ7,H7,I7.Zl,r7,q7⟩
end
abbrev R2:=V->V->Hp->VK->Prop
def OpR(X:Cx)(f:Value->Value->Sem Value)(r:R2):Prop:=
 ∀(pins:Oa)(s:Oe)(σ:St)(H:Hp)(x y:V)(v u:Value)(Q:VK),Inv X pins σ H s->RelV x v->RelV y u->r x y H Q->
  wpAny (Ph X) X.A (f v u) (EP X pins σ Q) X.xe s
def UnR(X:Cx)(f:Value->Sem Value)(r:V->Hp->VK->Prop):Prop:=
 ∀(pins:Oa)(s:Oe)(σ:St)(H:Hp)(x:V)(v:Value)(Q:VK),Inv X pins σ H s->RelV x v->r x H Q->
  wpAny (Ph X) X.A (f v) (EP X pins σ Q) X.xe s
def vU(X:Cx)(f:Value)(r:List V->Hp->VK->Prop):Prop:=
 ∀(pins:Oa)(s:Oe)(σ:St)(H:Hp)(xs:Oi)(us:Og)(Q:VK),Inv X pins σ H s->Vals xs us->r xs H Q->
  wpAny (Ph X) X.A (call f us) (EP X pins σ Q) X.xe s
def tOp(r:R2)(ta tb:TE):TE:=λσ H Q=>ta σ H λx H1=>tb σ H1 λy H2=>r x y H2 Q
def tUn(r:V->Hp->VK->Prop)(ta:TE):TE:=λσ H Q=>ta σ H λx H1=>r x H1 Q
def rI(C:Int->Int->Prop)(g:Int->Int->V):R2:=λx y H Q=>∃i j,x=.int i/\y=.int j/\C i j/\Q (g i j) H
def rI0(g:Int->Int->V):R2:=λx y H Q=>∃i j,x=.int i/\y=.int j/\Q (g i j) H
def rU(g:Int->V):V->Hp->VK->Prop:=λx H Q=>∃i,x=.int i/\Q (g i) H
section
variable {X:Cx}{a b c:Oq}{ta tb tc:TE}{pos:Pos}
def Lc(ha:PE X a ta)(hb:PE X b tb){pins:Oa}{s:Oe}{σ:St}{H:Hp}{R:V->V->Hp->Prop}(I:Inv X pins σ H s)
  (h:ta σ H λx H1=>tb σ H1 λy H2=>R x y H2) {Q:Oc}{f:Value->Value->Sem Value}
  (hf:∀v u s2 x y H2,Inv X pins σ H2 s2->RelV x v->RelV y u->R x y H2->wpAny (Ph X) X.A (f v u) Q X.xe s2):
  wpAny (Ph X) X.A (eval a X.env) (λv s₁=>wpAny (Ph X) X.A (eval b X.env) (λu s₂=>wpAny (Ph X) X.A (f v u) Q X.xe s₂) X.xe s₁) X.xe s:=by
 refine thn (ha pins s σ H _ I h) λv s1 ⟨x,H1,I1,r1,q1⟩=>?_;refine thn (hb pins s1 σ H1 _ I1 q1) λu s2 ⟨y,H2,I2,r2,q2⟩=>?_;exact hf v u s2 x y H2 I2 r1 r2 q2
def Fg(ho:OpR X (binaryOp op) r)(ha:PE X a ta)(hb:PE X b tb):PE X (.BinOp a op b pos) (tOp r ta tb):=by intro pins s σ H Q I h;exact wpAny_BinOp (Lc ha hb I h λv u s2 x y H2 I2 rx ry q=>ho pins s2 σ H2 x y v u Q I2 rx ry q)
def Ld(ho:UnR X (unaryOp op) r)(ha:PE X a ta):PE X (.UnaryOp op a pos) (tUn r ta):=by intro pins s σ H Q I h;exact UnaryOp_ (thn (ha pins s σ H _ I h) λv s1 ⟨x,H1,I1,r1,q1⟩=>ho pins s1 σ H1 x v Q I1 r1 q1)
def opI{f:Value->Value->Sem Value}{C:Int->Int->Prop}{g:Int->Int->Int}
  (rule:∀(i j:Int)(t u:Tok)(s:Oe)(Q:Oc)(E:Oc),C i j->Q (.int (g i j) s.toks) { s with toks:=s.toks+1 }->wpAny (Ph X) X.A (f (.int i t) (.int j u)) Q E s):
  OpR X f (rI C λi j=>.int (g i j)):=by
 intro pins s σ H x y v u Q I rx ry h;obtain⟨i,j,rfl,rfl,hc,q⟩:=h;obtain⟨t,rfl⟩:=rx;obtain⟨t',rfl⟩:=ry;exact rule i j t t' s _ _ hc ⟨.int (g i j),H,I.tok _,⟨_,rfl⟩,q⟩
def MH{f:Value->Value->Sem Value}{g:Int->Int->Int}
  (rule:∀(i j:Int)(t u:Tok)(s:Oe)(Q:Oc)(E:Oc),Q (.int (g i j) s.toks) { s with toks:=s.toks+1 }->wpAny (Ph X) X.A (f (.int i t) (.int j u)) Q E s):
  OpR X f (rI0 λi j=>.int (g i j)):=by
 intro pins s σ H x y v u Q I rx ry h;obtain⟨i,j,rfl,rfl,q⟩:=h;obtain⟨t,rfl⟩:=rx;obtain⟨t',rfl⟩:=ry;exact rule i j t t' s _ _ ⟨.int (g i j),H,I.tok _,⟨_,rfl⟩,q⟩
def Le{f:Value->Value->Sem Value}{g:Int->Int->Bool}
  (rule:∀(i j:Int)(t u:Tok)(s:Oe)(Q:Oc)(E:Oc),Q (.bool (g i j)) s->wpAny (Ph X) X.A (f (.int i t) (.int j u)) Q E s):
  OpR X f (rI0 λi j=>.bl (g i j)):=by
 intro pins s σ H x y v u Q I rx ry h;obtain⟨i,j,rfl,rfl,q⟩:=h;obtain⟨t,rfl⟩:=rx;obtain⟨t',rfl⟩:=ry;exact rule i j t t' s _ _ ⟨.bl (g i j),H,I,rfl,q⟩
def EO(i j:Int):Prop:=0<j/\j<1073741824
def Fh(i j:Int):Prop:=0<=j/\j<=1000000/\i.natAbs<2 ^ 64
def Be(i j:Int):Prop:=(-(2 ^ 64)<i/\i<2 ^ 64)\/(-(2 ^ 64)<j/\j<2 ^ 64)
def Be.ok(h:Be i j):IntMulOk i j:=by
 rcases h with⟨h1,h2⟩|⟨h1,h2⟩
 .exact .of_left (intBits_le_64 h1 h2)
 .exact .of_right (intBits_le_64 h1 h2)
def Fi:OpR X (binaryOp .Add) (rI0 λi j=>.int (i+j)):=MH λ_ _ _ _ _ _ _ q=>add_int q
def We:OpR X (binaryOp .Sub) (rI0 λi j=>.int (i-j)):=MH λ_ _ _ _ _ _ _ q=>sub_int q
def Fj:OpR X (binaryOp .Mult) (rI Be λi j=>.int (i*j)):=opI λ_ _ _ _ _ _ _ hc q=>mul_int q hc.ok
def Cw:OpR X (binaryOp .FloorDiv) (rI EO λi j=>.int (i / j)):=opI λi j _ _ _ _ _ hc q=>by have h1:(0:Int)<j:=hc.1;have h2:j<1073741824:=hc.2;exact floordiv_int (by omega) (by rw[Int.fdiv_eq_ediv_of_nonneg i (by omega)];exact q) (.inl (PyProof.noPylong_small (by omega)))
def Fm:OpR X (binaryOp .Mod) (rI (λ_ j=>0<j) λi j=>.int (i % j)):=opI λi j _ _ _ _ _ hc q=>by have h1:(0:Int)<j:=hc;exact mod_int' (by omega) (by rw[Int.fmod_eq_emod_of_nonneg i (by omega)];exact q)
def Cy:OpR X (binaryOp .Mod) (rI (λ_ j=>j≠0) λi j=>.int (i.fmod j)):=opI λ_ _ _ _ _ _ _ hc q=>mod_int' hc q
def K6:OpR X (binaryOp .Pow) (rI Fh λi j=>.int (i ^ j.toNat)):=opI λ_ _ _ _ _ _ _ hc q=>pow_int_small hc.1 hc.2.1 hc.2.2 q
def unI{f:Value->Sem Value}{g:Int->Int}
  (rule:∀(i:Int)(t:Tok)(s:Oe)(Q:Oc)(E:Oc),Q (.int (g i) s.toks) { s with toks:=s.toks+1 }->wpAny (Ph X) X.A (f (.int i t)) Q E s):
  UnR X f (rU λi=>.int (g i)):=by
 intro pins s σ H x v Q I rx h;obtain⟨i,rfl,q⟩:=h;obtain⟨t,rfl⟩:=rx;exact rule i t s _ _ ⟨.int (g i),H,I.tok _,⟨_,rfl⟩,q⟩
def Fn:UnR X (unaryOp .USub) (rU λi=>.int (-i)):=unI λ_ _ _ _ _ q=>neg_int q
end
section
variable {X:Cx}{a b c:Oq}{ta tb tc:TE}{pos:Pos}
def oY(I:Inv X pins σ H s)(q:Q (.bl k) H)(e:k=k'):EP X pins σ Q (.bool k') s:=by subst e;exact⟨.bl k,H,I,rfl,q⟩
def gw:OpR X (compareOp .Lt) (rI0 λi j=>.bl (decide (i<j))):=Le λ_ _ _ _ _ _ _ q=>lt_int q
def mU:OpR X (compareOp .LtE) (rI0 λi j=>.bl (decide (i<=j))):=Le λ_ _ _ _ _ _ _ q=>le_int q
def gx:OpR X (compareOp .Gt) (rI0 λi j=>.bl (decide (j<i))):=Le λ_ _ _ _ _ _ _ q=>gt_int q
def oZ:OpR X (compareOp .In) (λx y H Q=>∃i j,x=.str i/\y=.str j/\Q (.bl (!(Builtin.Str.occurrences j i 0 j.length 1).isEmpty)) H):=by intro pins s σ H x y v u Q I rx ry h;obtain⟨i,j,rfl,rfl,q⟩:=h;obtain⟨t,rfl⟩:=rx;obtain⟨t',rfl⟩:=ry;exact in_str (oY I q rfl)
def Fo:OpR X (compareOp .Is) (λx y H Q=>y=.non/\Q (.bl (decide (x=.non))) H):=by
 intro pins s σ H x y v u Q I rx ry h;obtain⟨rfl,q⟩:=h;cases ry;refine is_none_gen (oY I q ?_);cases x<;>first
  | (cases rx;rfl)
  | (obtain⟨t,rfl⟩:=rx;rfl)
def Cz:OpR X (compareOp .IsNot) (λx y H Q=>y=.non/\Q (.bl (!decide (x=.non))) H):=by
 intro pins s σ H x y v u Q I rx ry h;obtain⟨rfl,q⟩:=h;cases ry;refine isnot_none_gen (oY I q ?_);cases x<;>first
  | (cases rx;rfl)
  | (obtain⟨t,rfl⟩:=rx;rfl)
def OpR.or(h:OpR X f r)(h':OpR X f r'):OpR X f (λx y H Q=>r x y H Q\/r' x y H Q):=by
 intro pins s σ H x y v u Q I rx ry q;rcases q with q|q
 .exact h pins s σ H x y v u Q I rx ry q
 .exact h' pins s σ H x y v u Q I rx ry q
def jw(b:Oq)(h:op≠.In:=by decide)(h2:op≠.NotIn:=by decide):behindInMarks op b=false:=by
 have e1:(op==CmpOp.In)=false:=by cases op<;>first|rfl|exact absurd rfl h
 have e2:(op==CmpOp.NotIn)=false:=by cases op<;>first|rfl|exact absurd rfl h2
 cases b<;>simp[behindInMarks,e1,e2]
def o6(ho:OpR X (compareOp op) r)(ha:PE X a ta)(hb:PE X b tb)(hm:behindInMarks op b=false):PE X (.Compare a [op] [b] pos) (tOp r ta tb):=by intro pins s σ H Q I h;exact wpAny_Compare1 (Lc ha hb I h λv u s2 x y H2 I2 rx ry q=>ho pins s2 σ H2 x y v u Q I2 rx ry q) hm
def CA(t:TE):TT:=λσ H Q=>t σ H λx H'=>∃k,x=.bl k/\Q k H'
def bO(ho:OpR X (compareOp op) r)(ha:PE X a ta)(hb:PE X b tb)(hm:behindInMarks op b=false):PT X (.Compare a [op] [b] pos) (CA (tOp r ta tb)):=by
 intro pins s σ H Q I h;refine wpAny_isTrue_Compare1 (thn (ha pins s σ H _ I h) λv s1 ⟨x,H1,I1,r1,q1⟩=>thn (hb pins s1 σ H1 _ I1 q1) λu s2 ⟨y,H2,I2,r2,q2⟩=>
  thn (ho pins s2 σ H2 x y v u _ I2 r1 r2 q2) λc s3 ⟨z,H3,I3,r3,k,e,q3⟩=>?_) hm
 subst e;cases r3;exact a1G ⟨H3,I3,q3⟩
def Bf(r r':R2)(ta tb tc:TE):TE:=λσ H Q=>ta σ H λx H1=>tb σ H1 λy H2=>r x y H2 λz H3=>∃k,z=.bl k/\
 (if k=true then tc σ H3 λw' H4=>r' y w' H4 Q else Q (.bl false) H3)
def uR(ho:OpR X (compareOp op) r)(ho':OpR X (compareOp op') r')(ha:PE X a ta)(hb:PE X b tb)(hc:PE X c tc)
  (hm:lastMarks [op,op'] [b,c]=false:=by with_unfolding_all rfl):PE X (.Compare a [op,op'] [b,c] pos) (Bf r r' ta tb tc):=by
 intro pins s σ H Q I h;refine Compare_chain (thn (ha pins s σ H _ I h) λv s1 ⟨x,H1,I1,r1,q1⟩=>chain_link (thn (hb pins s1 σ H1 _ I1 q1) λu s2 ⟨y,H2,I2,r2,q2⟩=>
  thn (ho pins s2 σ H2 x y v u _ I2 r1 r2 q2) λd s3 ⟨z,H3,I3,r3,k,e,q3⟩=>?_)) hm
 subst e;cases r3;refine a1G ?_;cases k with
 |false=>exact ite_ff ⟨.bl false,H3,I3,rfl,q3⟩
 |true=>exact ite_tt (chain_last (thn (hc pins s3 σ H3 _ I3 q3) λw' s4 ⟨z',H4,I4,r4,q4⟩=>ho' pins s4 σ H4 y z' u w' Q I4 r2 r4 q4))
def dD:(sizeLine:Nat)<2 ^ 63:=by rw[a0l];decide
def mV:OpR X (binaryOp .Add) (λx y H Q=>∃i j,x=.str i/\y=.str j/\i.length+j.length<=sizeLine/\Q (.str (i++j)) H):=by intro pins s σ H x y v u Q I rx ry h;obtain⟨i,j,rfl,rfl,hz,q⟩:=h;obtain⟨t,rfl⟩:=rx;obtain⟨t',rfl⟩:=ry;exact add_str (λt' tk=>⟨.str (i++j),H,I.tok _,⟨_,rfl⟩,q⟩) hz
def vals1(r:Vals [x] us):∃u,us=[u]/\RelV x u:=by
 cases r with
 |cons r1 r2=>cases r2;exact⟨_,rfl,r1⟩
def vals2(r:Vals [x,y] us):∃u w',us=[u,w']/\RelV x u/\RelV y w':=by
 cases r with
 |cons r1 r2=>
  cases r2 with
  |cons r3 r4=>cases r4;exact⟨_,_,rfl,r1,r3⟩
def o7(hc:X.calm=true):vU X (.builtin "max") (λxs H Q=>∃i j,xs=[.int i,.int j]/\Q (.int (if j>i then j else i)) H):=by
 intro pins s σ H xs us Q I r h;obtain⟨i,j,rfl,q⟩:=h;obtain⟨u,w',rfl,⟨t,rfl⟩,⟨t',rfl⟩⟩:=vals2 r;refine max_two_ints (I.ok.hd hc) λh' tk k=>⟨_,H,I.kept k,?_,q⟩;by_cases hj:j>i
 .rw[if_pos hj,if_pos hj];exact⟨_,rfl⟩
 .rw[if_neg hj,if_neg hj];exact⟨_,rfl⟩
def o8(hc:X.calm=true):vU X (.builtin "min") (λxs H Q=>∃i j,xs=[.int i,.int j]/\Q (.int (if j<i then j else i)) H):=by
 intro pins s σ H xs us Q I r h;obtain⟨i,j,rfl,q⟩:=h;obtain⟨u,w',rfl,⟨t,rfl⟩,⟨t',rfl⟩⟩:=vals2 r;refine min_two_ints (I.ok.hd hc) λh' tk k=>⟨_,H,I.kept k,?_,q⟩;by_cases hj:j<i
 .rw[if_pos hj,if_pos hj];exact⟨_,rfl⟩
 .rw[if_neg hj,if_neg hj];exact⟨_,rfl⟩
def MJ(K:Oj)(x:V)(H:Hp)(n:Nat):Prop:=
 match x with
 |.str y=>y.length<=sizeLine/\n=y.length
 |.byt y=>y.size<=sizeLine/\n=y.size
 |.ref p=>(∃xs,SqL K H p xs/\n=xs.length)\/∃xs,SqT K H p xs/\n=xs.length
 |_=>False
def uT:vU X (.builtin "len") (λxs H Q=>∃x n,xs=[x]/\MJ X.K x H n/\Q (.int n) H):=by
 intro pins s σ H xs us Q I r h;obtain⟨x,n,rfl,e,q⟩:=h;obtain⟨u,rfl,rx⟩:=vals1 r;have hl:=dD;have hs:sizeLine=16777216:=a0l;cases x with
 |str y=>obtain⟨t,rfl⟩:=rx;obtain⟨hy,e'⟩:y.length<=sizeLine/\n=y.length:=e;subst e';exact len_str (by omega) ⟨.int _,H,I.tok _,⟨_,rfl⟩,q⟩
 |byt y=>obtain⟨t,rfl⟩:=rx;obtain⟨hy,e'⟩:y.size<=sizeLine/\n=y.size:=e;subst e';exact PySem.W.len_bytes (by omega) ⟨.int _,H,I.tok _,⟨_,rfl⟩,q⟩
 |ref p=>
  cases rx;have e':(∃xs,SqL X.K H p xs/\n=xs.length)\/∃xs,SqT X.K H p xs/\n=xs.length:=e;rcases e' with⟨xs,hx,e'⟩|⟨xs,hx,e'⟩
  .subst e';obtain⟨its,r',pl,hz⟩:=I.list hx;have hlen:=r'.length;exact Calls.call_len_list pl.isList (by simp only[List.size_toArray];omega) ⟨.int xs.length,H,I.tok _,⟨_,by simp only[List.size_toArray];rw[hlen]⟩,q⟩
  .subst e';obtain⟨its,r',pl,hz⟩:=I.tuple hx;have hlen:=r'.length;exact len_tuple pl (by simp only[List.size_toArray];omega) ⟨.int xs.length,H,I.tok _,⟨_,by simp only[List.size_toArray];rw[hlen]⟩,q⟩
 |_=>exact(show False from e).elim
end
structure CB(h:Heap)(x dx C:Addr)(mA:N_):Prop where
 obj:h.get? x=some (PySem.W.instObj C dx)
 ns:h.Ns1 dx mA
 ne:dx≠x
def K7{h:Heap}{dx:Addr}{mA:N_}(n:h.Ns1 dx mA):∃od,h.get? dx=some od/\∀name,PySem.W.lookIn name od=some (mA name):=by
 obtain⟨o,es,ep,ho,hd,hk,_,hm⟩:=n;refine⟨o,ho,λname=>?_⟩;have e:=hm name;unfold nsFind findBy at e;rw[<- a3b]at e;unfold PySem.W.lookIn;rw[hd];dsimp only;split
 .rename_i y q;rw[q]at e;exact a0e some e
 .rename_i q;rw[q]at e;have a:es.toList.any (·.refKey)=false:=by rw[List.any_eq_false];intro y hy;obtain⟨z,t,hkey⟩:=hk y (a20.mp hy);simp[DictEntry.refKey,hkey]
  have a':¬es.toList.any (·.refKey)=true:=by rw[a];exact P5
  rw[if_neg a'];exact a0e some e
def CB.look(I:CB h x dx C mA):∃od,PySem.W.InstAt h x (PySem.W.instObj C dx) C (some od)/\∀name,PySem.W.lookIn name od=some (mA name):=
 let⟨od,ho,hl⟩:=K7 I.ns
 ⟨od,⟨I.obj,rfl,rfl,ho⟩,hl⟩
section
variable {prog:Ot}{w:Ox}{A:Oy}{E:Oc}{s:Oe}{K:Oj}{x dx C f:Addr}{mA:N_}{name:Str}{v:Value}
def get_map(X:K.In s.heap)(I:CB s.heap x dx C mA)(hg:PySem.W.plainGet K C name=true)(hh:PySem.W.hasDictIn K C=true)
  (ha:PySem.W.findIn K (.ref C) name=some none) (hv:mA name=some v) (hv':PySem.W.handedIn v=true) (h:Q v { s with toks:=s.toks+1 }):
  wpAny (model prog w) A (getAttr (.ref x) name expr) Q E s:=by
 obtain⟨od,J,hl⟩:=I.look;exact PySem.W.get_value X J (a15 hg).1 (PySem.W.findObj_own hh ha rfl (by rw[hl,hv])) hv' h
def uU(X:K.In s.heap)(I:CB s.heap x dx C mA)(hg:PySem.W.plainGet K C name=true)
  (hf:PySem.W.findIn K (.ref C) name=some (some (.ref f))) (ht:PySem.W.isFn K (.ref f)=true) (hv:mA name=none) (h:Q (.ref f,[.ref x]) s):
  wpAny (model prog w) A (getMethod (.ref x) name pl) Q E s:=by
 obtain⟨od,J,hl⟩:=I.look;exact PySem.W.method_fn X J (a15 hg).1 (a15 hg).2 hf (S9.mp ht) (by show(PySem.W.lookIn name od).map (·.isSome)=some false;rw[hl,hv];rfl) h
def CC(X:K.In s.heap)(I:CB s.heap x dx C mA)
  (hs:PySem.W.findIn K (.ref C) "__setattr__"=some (some (.builtin "object.__setattr__"))) (hp:PySem.W.plainOver K C=true) (ht:PySem.W.takerIn K C name=some none) (hh:PySem.W.hasDictIn K C=true)
  (hw:PySem.Within mA ns) (hsz:ns.length<=sizeLine)
  (h:∀h',CB h' x dx C (λy=>if y=name then some v else mA y)->Heap.SameBut dx s.heap h'->Q () { s with heap:=h',toks:=s.toks+2 }):
  wpAny (model prog w) A (setAttr (.ref x) name v) Q E s:=by
 obtain⟨od,J,hl⟩:=I.look;refine PySem.W.set_plain X J hs (PySem.W.osa_open (s:={ s with toks:=s.toks+1 }) (r:=none) X J hp ht λb=>?_);obtain⟨cd,hc,hd'⟩:=PySem.W.any_some hh;have hx:s.heap.get? x=some ⟨.ref C,some dx,.plain,#[]⟩:=I.obj;refine f8 (O0 (f8 (f8 (a1h hx (f8 (PySem.W.Looks.here (s:={ s with toks:=s.toks+1 }) (PySem.W.looks_clsIn X hc) ?_))))));rw[hd'];refine O0 (a:=some dx) (f8 (O0 (f8 ?_)));refine a3c (s:={ s with toks:=s.toks+1 }) I.ns λh' hn2 hs2=>?_;obtain⟨oD,esD,epD,hoD,hdD,hcD⟩:=hn2.count (a2m name v hw);refine f8 (a2v hoD (by rw[hdD];exact a2w (P7 hcD (by rw[N9];omega))) ?_);exact O0 (h _ ⟨(hs2.2 _ (Ne.symm I.ne)).trans I.obj,hn2,I.ne⟩ hs2)
def iW(X:K.In s.heap)(hm:PySem.W.makesIn K C=true)
  (hi:PySem.W.findIn K (.ref C) "__init__"=some (some (.ref f))) (hf:PySem.W.typeIn K (.ref f)=some (.type "function"))
  (h:codeAny (model prog w) (A.under (.builtin "type.__call__" ⟨.ref C::vs,kw⟩)) (.call (.ref f) ⟨.ref (s.heap.objs.size+1)::vs,kw⟩) (PySem.W.InitBack (s.heap.objs.size+1) R)
   { s with heap:=(s.heap.push PySem.W.emptyDict).push (PySem.W.instObj C s.heap.objs.size) }):
  codeAny (model prog w) A (.call (.ref C) ⟨vs,kw⟩) R s:=by
 obtain⟨hh,g,d,t,os⟩:=s;exact PySem.W.make_core (PySem.W.makes_of X hm) (PySem.W.looks_findIn X hi) (λself=>PySem.W.bind_fn X self hf) (.inl rfl) h
end
def VU(f:Str)(v:V):List (Str×V)->List (Str×V)
 |[]=>[(f,v)]
 | (g,x)::r=>if g=f then(g,v)::r else(g,x)::VU f v r
def Ky(f g:Str)(v:V):∀fs:List (Str×V),(VU f v fs).lookup g=if g=f then some v else fs.lookup g
 |[]=>by
  show List.lookup g [(f,v)]=_;by_cases h:g=f
  .have hb:(g==f)=true:=S9.mpr h;simp only[List.lookup,hb,if_pos h]
  .have hb:(g==f)=false:=a0d.mpr h;simp only[List.lookup,hb,if_neg h]
 | (k,x)::r=>by
  have ih:=Ky f g v r;rw[show VU f v ((k,x)::r)=(if k=f then(k,v)::r else(k,x)::VU f v r)from rfl];by_cases hk:k=f
  .rw[if_pos hk];by_cases h:g=k
   .have hb:(g==k)=true:=S9.mpr h;simp only[List.lookup,hb,if_pos (h.trans hk)]
   .have hb:(g==k)=false:=a0d.mpr h;simp only[List.lookup,hb,if_neg (λe:g=f=>h (e.trans hk.symm))]
  .rw[if_neg hk];by_cases h:g=k
   .have hb:(g==k)=true:=S9.mpr h;simp only[List.lookup,hb,if_neg (λe:g=f=>hk (h.symm.trans e))]
   .have hb:(g==k)=false:=a0d.mpr h;simp only[List.lookup,hb];exact ih
def QJ(f:Str)(v:V):∀fs:List (Str×V),f∈(VU f v fs).map (·.1)/\∀g,g∈fs.map (·.1)->g∈(VU f v fs).map (·.1)
 |[]=>⟨by simp[VU],λg h=>by simp at h⟩
 | (k,x)::r=>by
  obtain⟨i1,i2⟩:=QJ f v r;rw[show VU f v ((k,x)::r)=(if k=f then(k,v)::r else(k,x)::VU f v r)from rfl];by_cases hk:k=f
  .rw[if_pos hk];subst hk;exact⟨by simp,λg h=>by simpa using h⟩
  .rw[if_neg hk];refine⟨?_,λg h=>?_⟩
   .rw[O8];exact O3 _ i1
   .rw[O8]at h ⊢;rcases P8.mp h with e|e
    .exact P8.mpr (.inl e)
    .exact O3 _ (i2 g e)
def Kz(f:Str)(v:V):∀fs:List (Str×V),(VU f v fs).length<=fs.length+1
 |[]=>by simp[VU]
 | (k,x)::r=>by
  have ih:=Kz f v r;rw[show VU f v ((k,x)::r)=(if k=f then(k,v)::r else(k,x)::VU f v r)from rfl];by_cases hk:k=f
  .rw[if_pos hk,N9,N9];omega
  .rw[if_neg hk,N9,N9];omega
def WN.some_of(r:WN (some v) o):∃u,o=some u/\RelV v u:=by
 cases o with
 |none=>exact(show False from r).elim
 |some u=>exact⟨u,rfl,r⟩
def WN.none_of(r:WN none o):o=none:=by
 cases o with
 |none=>rfl
 |some u=>exact(show False from r).elim
def dE(r:RelV v u):PySem.W.handedIn u=true:=by
 cases v with
 |non=>cases(show u=Value.none from r);rfl
 |bl b=>cases(show u=Value.bool b from r);rfl
 |int i=>obtain⟨t,e⟩:=(show ∃t,u=Value.int i t from r);cases e;rfl
 |str x=>obtain⟨t,e⟩:=(show ∃t,u=Value.str x t from r);cases e;rfl
 |byt b=>obtain⟨t,e⟩:=(show ∃t,u=Value.bytes b t from r);cases e;rfl
 |flt b=>obtain⟨t,e⟩:=(show ∃t,u=Value.float b t from r);cases e;rfl
 |ref a=>cases(show u=Value.ref a from r);rfl
 |ty n=>cases(show u=Value.type n from r);rfl
def bP(hok:HOk P w H h)(e:H a=some (.ins C dx fs)):∃mA,CB h a dx C mA/\(∀f,WN (fs.lookup f) (mA f))/\PySem.Within mA (fs.map (·.1))/\fs.length<=1000/\H dx=some (.own a):=by obtain⟨d,z,ne,ob,mA,n,r,q⟩:=(show qE P w H h a (.ins C dx fs)from hok a _ e);exact⟨mA,⟨ob,n,ne⟩,r,q,z,d⟩
structure Cls(K:Oj)(C:Addr):Prop where
 pg:PySem.W.plainGet K C Str.empty=true
 hd:PySem.W.hasDictIn K C=true
 po:PySem.W.plainOver K C=true
 sa:PySem.W.findIn K (.ref C) "__setattr__"=some (some (.builtin "object.__setattr__"))
def Cls.get{K:Oj}{C:Addr}(c:Cls K C)(f:Str):PySem.W.plainGet K C f=true:=c.pg
def vF(K:Oj)(C:Addr)(f:Str):Prop:=PySem.W.findIn K (.ref C) f=some none
def vF.Lf{K:Oj}{C:Addr}{f:Str}(n:vF K C f):PySem.W.takerIn K C f=some none:=by unfold PySem.W.takerIn;rw[show PySem.W.findIn K (.ref C) f=some none from n];rfl
structure Meth(K:Oj)(C:Addr)(m:Str)(f:Addr):Prop where
 at_:PySem.W.findIn K (.ref C) m=some (some (.ref f))
 fn:PySem.W.isFn K (.ref f)=true
 kp:PySem.W.keepIn K (.ref f)=true
def mW(I:Inv X pins σ H s)(e:H a=some (.ins C dx fs))(c:Cls X.K C)(n:vF X.K C f)(l:fs.lookup f=some v)
  (h:∀u s',Inv X pins σ H s'->RelV v u->Q u s'):wpAny (Ph X) A (getAttr (.ref a) f b) Q E s:=by
 obtain⟨mA,O,r,_,_,_⟩:=bP I.hok e;obtain⟨u,hu,ru⟩:=WN.some_of (v:=v) (o:=mA f) (by rw[<- l];exact r f);exact get_map I.kIn O (c.get f) c.hd n hu (dE ru) (h u _ (I.tok _) ru)
def aS(I:Inv X pins σ H s)(e:H a=some (.ins C dx fs))(c:Cls X.K C)(k:Meth X.K C m g)(l:fs.lookup m=none)
  (h:Q (.ref g,[.ref a]) s):wpAny (Ph X) A (getMethod (.ref a) m pl) Q E s:=by
 obtain⟨mA,O,r,_,_,_⟩:=bP I.hok e;have hn:mA m=none:=WN.none_of (by rw[<- l];exact r m);exact uU I.kIn O (c.get m) k.at_ k.fn hn h
def mX(I:Inv X pins σ H s)(e:H a=some (.ins C dx fs))(c:Cls X.K C)(n:vF X.K C f)(hl:fs.length<1000)(ry:RelV y u)
  (h:∀s',Inv X pins σ (upd H a (.ins C dx (VU f y fs))) s'->Q () s'):wpAny (Ph X) A (setAttr (.ref a) f u) Q E s:=by
 obtain⟨mA,O,r,wi,_,ho⟩:=bP I.hok e;have hz:(fs.map (·.1)).length<=sizeLine:=by rw[u8,a0l];omega
 refine CC I.kIn O c.sa c.po n.Lf c.hd wi hz λh' O' sb=>h _ ?_;have hd:∃o,h'.get? dx=some o:=let⟨o,_,_,e',_⟩:=O'.ns;⟨o,e'⟩
 refine I.write (x:=a) (e:=dx) (by rw[e];exact True.intro) (.inr ho) (λb q hb z=>(sb.2 b hb).trans z) hd ?_;refine⟨by rw[zg O.ne];exact ho,?_,O.ne,O'.obj,_,O'.ns,λg=>?_,λg hg=>?_⟩
 .have:=Kz f y fs;omega
 .show WN ((VU f y fs).lookup g) (if g=f then some u else mA g);rw[Ky];by_cases q:g=f
  .rw[if_pos q,if_pos q];exact ry
  .rw[if_neg q,if_neg q];exact r g
 .by_cases q:g=f
  .rw[q];exact(QJ f y fs).1
  .refine(QJ f y fs).2 g (wi g λz=>hg ?_);show(if g=f then some u else mA g)=none;rw[if_neg q];exact z
def Inv.made(I:Inv X pins σ H s):Inv X pins σ (upd (upd H s.heap.objs.size (.own (s.heap.objs.size+1))) (s.heap.objs.size+1) (.ins C s.heap.objs.size []))
  { s with heap:=(s.heap.push PySem.W.emptyDict).push (PySem.W.instObj C s.heap.objs.size) }:=by
 have e1:(s.heap.push PySem.W.emptyDict).get? s.heap.objs.size=some PySem.W.emptyDict:=P2 s.heap rfl;have e2:((s.heap.push PySem.W.emptyDict).push (PySem.W.instObj C s.heap.objs.size)).get? (s.heap.objs.size+1)=some (PySem.W.instObj C s.heap.objs.size):=by
  have:=P2 (s.heap.push PySem.W.emptyDict) (o:=PySem.W.instObj C s.heap.objs.size) rfl
  rwa [a0v]at this
 have e3:(s.heap.push PySem.W.emptyDict).Ns s.heap.objs.size (λ_=>none):=⟨PySem.W.emptyDict,#[],_,e1,rfl,(λe he=>absurd he (by simp)),λ_=>rfl⟩;have I1:=I.laid (a:=s.heap.objs.size) (o:=.own (s.heap.objs.size+1)) (h':=s.heap.push PySem.W.emptyDict) (t':=s.toks) (λb u q=>v4 _ q) (O2 _) ⟨_,e1⟩;refine I1.laid (a:=s.heap.objs.size+1) (o:=.ins C s.heap.objs.size []) (t':=s.toks) (λb u q=>v4 _ q) (a1X (a0v _ _)) ?_;have ne:s.heap.objs.size≠s.heap.objs.size+1:=P1 (a0a _);refine⟨by rw[zg ne,zi],T6 _,ne,e2,λ_=>none,(Heap.Ns1.of_empty e3).at λo q=>v4 _ q,λ_=>True.intro,λy hy=>absurd rfl hy⟩
def o9(hb:attributeBase e f env (eval e env)=eval e env)
  (h:wpAny (model prog w) A (eval e env) (λo s₁=>wpAny (model prog w) A (getAttr o f true) Q E s₁) E s):wpAny (model prog w) A (eval (.Attribute e f pos) env) Q E s:=
 Attribute_any_ h (by rw[arm_eval_Attribute,hb])
def NB(K:Oj)(ta:TE)(f:Str):TE:=λσ H Q=>ta σ H λx H1=>∃a C dx fs v,x=.ref a/\H1 a=some (.ins C dx fs)/\Cls K C/\vF K C f/\fs.lookup f=some v/\Q v H1
def NC(K:Oj)(ta tv:TE)(f:Str):TS:=λD σ H=>tv σ H λy H1=>ta σ H1 λx H2=>∃a C dx fs,x=.ref a/\H2 a=some (.ins C dx fs)/\Cls K C/\vF K C f/\fs.length<1000/\
 D.nx σ (upd H2 a (.ins C dx (VU f y fs)))
def Bg(he:PE X e ta)(hb:attributeBase e f X.env (eval e X.env)=eval e X.env):PE X (.Attribute e f pos) (NB X.K ta f):=by intro pins s σ H Q I h;refine o9 hb (thn (he pins s σ H _ I h) λu s1 ⟨x,H1,I1,rx,a,C,dx,fs,v,ex,ea,c,n,l,q⟩=>?_);subst ex;obtain rfl:u=Value.ref a:=rx;exact mW I1 ea c n l λu' s2 I2 ru=>⟨v,H1,I2,ru,q⟩
def Bh(ha:PE X o ta)(hv:PE X value tv)(hs:swapsWith value (some (.Attribute o f pos')) pos.line X.env=pure false):PS X (.Assign [.Attribute o f pos'] value pos) (NC X.K ta tv f):=by intro pins s σ H D I h;refine a1U (thn (hv pins s σ H _ I h) λu s1 ⟨y,H1,I1,ry,q⟩=>thn (ha pins s1 σ H1 _ I1 q) λov s2 ⟨x,H2,I2,rx,a,C,dx,fs,ex,ea,c,n,l,q2⟩=>?_) hs;subst ex;obtain rfl:ov=Value.ref a:=rx;exact mX I2 ea c n l ry λs3 I3=>⟨σ,_,I3,q2⟩
section
variable {X:Cx}{pins:Oa}{σ:St}{H:Hp}{s:Oe}{A:Oy}{E:Oc}{Q:Oc}{c:Value}{b:Bool}
inductive oE(K:Oj)(H:Hp):V->Value->Prop where
 |non:oE K H .non (.type "NoneType")
 |bl (x:Bool):oE K H (.bl x) (.type "bool")
 |int (i:Int):oE K H (.int i) (.type "int")
 |str (x:Str):oE K H (.str x) (.type "str")
 |flt (x:UInt64):oE K H (.flt x) (.type "float")
 |lst {a:Addr}{xs:Oi}(e:H a=some (.lst xs)):oE K H (.ref a) (.type "list")
 |frz {a:Addr}{o:Obj}{xs:Oi}(e:H a=some (.frz o (.lst xs))):oE K H (.ref a) (.type "list")
 |tup {a:Addr}{xs:Oi}(e:H a=some (.tup xs)):oE K H (.ref a) (.type "tuple")
 |dK {a:Addr}{kvs:Oo}(e:H a=some (.dK kvs)):oE K H (.ref a) (.type "dict")
 |dT {a:Addr}{kvs:OZ}(e:H a=some (.dT kvs)):oE K H (.ref a) (.type "dict")
 |ins {a C dx:Addr}{fs:OE}(e:H a=some (.ins C dx fs)) (cl:Cls K C) (ha:PySem.W.findIn K (.ref C) "__class__"=some (some (.builtin "object.__class__")))
   (hn:PySem.W.specialIn K (.builtin "object.__class__") "__get__"=some (some (.builtin "getset_descriptor.__get__"))) (htk:PySem.W.takesIn K (.builtin "object.__class__")=some true)
   (hm:PySem.W.mroIn K C (.type "object")=some true):oE K H (.ref a) (.ref C)
end
structure kY(k:Nat)(A:Oy):Prop where
 hd:A.handled=none
 dp:A.depth+3*k+5<recursionLimit
 un:A.units+16*k+200<cLine
def kY.mono(r:kY k A)(h:j<=k):kY j A:=⟨r.hd,by have:=r.dp;omega,by have:=r.un;omega⟩
def kY.deeper(r:kY (k+1) A)(env:Env):kY k (A.deeper env):=
 ⟨r.hd,by have:=r.dp;show A.depth+1+3*k+5<_;omega,by have:=r.un;show A.units+3+16*k+200<_;omega⟩
def kY.in1(r:kY (k+1) A):kY k A.in1:=
 ⟨r.hd,by have:=r.dp;show A.depth+3*k+5<_;omega,by have:=r.un;show A.units+1+16*k+200<_;omega⟩
def mY{A:Oy}{C:Addr}{us:Og}{kw:OS}:(A.under (.builtin "type.__call__" ⟨.ref C::us,kw⟩)).depth=A.depth+1:=by
 first|rfl|simp[Around.under,Code.weight,Code.isCreation,Code.isGuard,Code.isCaller,Code.frames,Code.isFrame,guardIds]
def mZ{A:Oy}{C:Addr}{us:Og}{kw:OS}:(A.under (.builtin "type.__call__" ⟨.ref C::us,kw⟩)).units=A.units+1:=by
 first|rfl|simp[Around.under,Code.cUnits,Code.frames,Code.isFrame]
def kY.make(r:kY (k+1) A)(C:Addr)(us:Og)(kw:OS):kY k (A.under (.builtin "type.__call__" ⟨.ref C::us,kw⟩)):=
 ⟨r.hd,by have:=r.dp;rw[mY];omega,by have:=r.un;rw[mZ];omega⟩
def kY.depth(r:kY k A):A.depth<recursionLimit:=by have:=r.dp;omega
def kY.units(r:kY k A):A.units+64<cLine:=by have:=r.un;omega
def Lg:TA:=λ_ H Q=>Q [] H
def Fp(ta:TE)(tr:TA):TA:=λσ H Q=>ta σ H λx H1=>tr σ H1 λxs H2=>Q (x::xs) H2
section
variable {X:Cx}{e:Oq}{es:Om}{te:TE}{t:TA}{pos:Pos}
def Xr:PA X [] Lg:=λ_ _ _ _ H Q I h=>a2n ⟨[],H,I,.nil,h⟩
def QK(ha:PE X e te)(hr:PA X es t)(hs:starEach (e::es) X.env=(false,eval e X.env)::starEach es X.env:=by rfl):PA X (e::es) (Fp te t):=by intro pos pins s σ H Q I h;rw[hs];show wpAny _ _ (spliced ((false,eval e X.env)::backTo pos (starEach es X.env))) _ _ s;refine a1x (thn (ha pins s σ H _ I h) λu s1 ⟨x,H1,I1,r1,q1⟩=>?_);exact thn (hr pos pins s1 σ H1 _ I1 q1) λus s2 ⟨xs,H2,I2,r2,q2⟩=>⟨x::xs,H2,I2,.cons r1 r2,q2⟩
def MK(t:TA):TE:=λσ H Q=>t σ H λxs H1=>xs.length<=sizeLine/\∀p,H1 p=none->Q (.ref p) (upd H1 p (.tup xs))
def ND(t:TA):TE:=λσ H Q=>t σ H λxs H1=>xs.length<=sizeLine/\∀p,H1 p=none->Q (.ref p) (upd H1 p (.lst xs))
def aT{x1}(h:PA X es t):PE X (.Tuple es x1 pos) (MK t):=by intro pins s σ H Q I hq;refine wpAny_Tuple_spliced (thn (h pos pins s σ H _ I hq) λus s1 ⟨xs,H1,I1,r,z,q⟩=>⟨by rw[<- r.length];exact z,?_⟩);have hf:H1 s1.heap.objs.size=none:=I1.hok.fresh (O2 _);refine⟨.ref s1.heap.objs.size,upd H1 s1.heap.objs.size (.tup xs),I1.laid (t':=s1.toks) (λb u e=>v4 _ e) (O2 _) ?_,rfl,q _ hf⟩;exact⟨z,us,r,⟨_,P2 _ rfl,rfl,_,rfl⟩⟩
def Fq(h:PA X es t):PE X (.List es pos) (ND t):=by intro pins s σ H Q I hq;refine wpAny_List_spliced (thn (h pos pins s σ H _ I hq) λus s1 ⟨xs,H1,I1,r,z,q⟩=>⟨by rw[<- r.length];exact z,?_⟩);have hf:H1 s1.heap.objs.size=none:=I1.hok.fresh (O2 _);refine⟨.ref s1.heap.objs.size,upd H1 s1.heap.objs.size (.lst xs),I1.laid (t':=s1.toks) (λb u e=>v4 _ e) (O2 _) ?_,rfl,q _ hf⟩;exact⟨z,us,0,r,P2 _ rfl⟩
end
abbrev Sp:=List V->Hp->VK->XK->Prop
abbrev CXT:=List Env->Hp->Shared->XK->Value->Shared->Prop
structure o_(P:Ot)(w:Ox)(K:Oj)(mg:N_)(base:Heap)(A:Oy)(outer:List Env)(s:Oe)(H:Hp):Prop where
 frames:A.frames=some outer
 mod:Mod K mg base
 bs:∀b o,base.get? b=some o->s.heap.get? b=some o/\H b=none
 bsz:base.objs.size<=s.heap.objs.size
 dz:s.heap.FunFrames base outer
 frf:∀b∈frs outer,H b=none
 hok:HOk P w H s.heap
 bare:AllBare s.gens
def CE(outer:List Env)(P:Ot)(w:Ox)(H:Hp)(s:Oe)(Q:VK)(u:Value)(s':Oe):Prop:=
 ∃v H',s'.os=s.os/\AllBare s'.gens/\Un (frs outer) [] H H' s.heap s'.heap/\HOk P w H' s'.heap/\RelV v u/\Q v H'
def CR(CX:CXT)(outer:List Env)(P:Ot)(w:Ox)(H:Hp)(s:Oe)(Q:VK)(E:XK)(r:Result)(s':Oe):Prop:=
 match r with
 |.ok (.ret u)=>CE outer P w H s Q u s'
 |.ok _=>False
 |.error e=>CX outer H s E e s'
structure qO(P:Ot)(w:Ox)(K:Oj)(mg:N_)(base:Heap)(CX:CXT)(k:Nat)(f:Addr)(fd:OC)(ps:Ob)(sp:Sp):Prop where
 len:∀vs H Q E,sp vs H Q E->vs.length=ps.length
 run:∀(A:Oy)(outer:List Env)(s:Oe)(H:Hp)(args:Args)(us:Og)(vs:Oi) (Q:VK) (E:XK),kY k A->o_ P w K mg base A outer s H->BindsTo s fd args (ps.zip us)->Vals vs us->sp vs H Q E->
  codeAny (model P w) A (.call (.ref f) args) (CR CX outer P w H s Q E) s
def qO.imp{P:Ot}{w:Ox}{K:Oj}{mg:N_}{base:Heap}{CX:CXT}{k:Nat}{f:Addr}{fd:OC}{ps:Ob}{sp sp':Sp}(F:qO P w K mg base CX k f fd ps sp)
  (h:∀vs H Q E,sp' vs H Q E->sp vs H Q E):qO P w K mg base CX k f fd ps sp':=
 ⟨λvs H Q E q=>F.len vs H Q E (h _ _ _ _ q),λA outer s H args us vs Q E hr he hb hv hs=>F.run A outer s H args us vs Q E hr he hb hv (h _ _ _ _ hs)⟩
def o_.make{P:Ot}{w:Ox}{K:Oj}{mg:N_}{base:Heap}{A:Oy}{outer:List Env}{s:Oe}{H:Hp}(e:o_ P w K mg base A outer s H)(C:Addr)(us:Og)(kw:OS):
  o_ P w K mg base (A.under (.builtin "type.__call__" ⟨.ref C::us,kw⟩)) outer s H:=⟨by first|exact e.frames|(simpa[Around.under,Code.envs,Code.isFrame,pushEnvs]using e.frames),e.mod,e.bs,e.bsz,e.dz,e.frf,e.hok,e.bare⟩
def Inv.m5(I:Inv X pins σ H s):o_ X.prog X.w X.K X.mg X.base X.A X.stack s H:=
 ⟨I.ok.frames,I.ok.mod,I.bs,P7 I.ok.bsz I.sz,I.stack,I.bJ,I.hok,I.bare⟩
def Inv.after(I:Inv X pins σ H s)(h:CE X.stack X.prog X.w H s Q u s'):EP X pins σ Q u s':=by obtain⟨v,H',os,bare,un,hok,r,q⟩:=h;obtain⟨hh,g,d,t,os'⟩:=s';obtain rfl:os'=s.os:=os;exact⟨v,H',I.call (h':=hh) (g':=g) (d':=d) (t':=t) (ch:=[]) un hok bare (λb z=>absurd z (by simp)),r,q⟩
def Lh(sp:Sp)(dvs:Oi)(E:XK)(t:TA):TE:=λσ H Q=>t σ H λvs H1=>sp (vs++dvs) H1 Q E
def Li(C:Addr)(sp:Sp)(dvs:Oi)(E:XK)(t:TA):TE:=λσ H Q=>t σ H λvs H1=>∀x dx,H1 x=none->H1 dx=none->dx≠x->
 sp (.ref x::(vs++dvs)) (upd (upd H1 dx (.own x)) x (.ins C dx [])) (λv H2=>v=.non/\Q (.ref x) H2) E
def Binds(K:Oj)(fd:OC)(ps:Ob)(ds:Og):Prop:=
 ∀(s:Oe)(us:Og),K.In s.heap->(us++ds).length=ps.length->BindsTo s fd ⟨us,[]⟩ (ps.zip (us++ds))
def Binds.all{K:Oj}{fd:OC}{ps:Ob}(h:∀us:List Value,us.length=ps.length->bindArgs fd ⟨us,[]⟩=pure (ps.zip us)):Binds K fd ps []:=λs us _ hl=>by rw[R8]at hl ⊢;exact .of_eq (h us hl)
def Passes(CX:CXT)(X:Cx)(E:XK):Prop:=∀(pins:Oa)(σ:St)(H:Hp)(s:Oe)(e:Value)(s':Oe),Inv X pins σ H s->CX X.stack H s E e s'->X.xe e s'
section
variable {X:Cx}{CX:CXT}{k:Nat}{f C:Addr}{fd:OC}{ps:Ob}{sp:Sp}{dvs:Oi}{ds:Og}{E:XK}{x m:Str}{p pos vE:Pos}{e o:Oq}{es:Om}{ta:TE}{t:TA}
def pb(F:qO X.prog X.w X.K X.mg X.base CX k f fd ps sp)(hr:kY k X.A)(hb:Binds X.K fd ps ds)(hd:Vals dvs ds)(hx:Passes CX X E)
  (I:Inv X pins σ H s) (r:Vals vs us) (h:sp (vs++dvs) H Q E):wpAny (Ph X) X.A (call (.ref f) us) (EP X pins σ Q) X.xe s:=by
 have r2:Vals (vs++dvs) (us++ds):=r.append hd;have hl:(us++ds).length=ps.length:=by rw[<- r2.length];exact F.len _ _ _ _ h
 refine a0M (a0P (F.run X.A X.stack s H ⟨us,[]⟩ (us++ds) (vs++dvs) Q E hr I.m5 (hb s us I.kIn hl) r2 h) λr s' hq=>?_);cases r with
 |error e=>exact hx pins σ H s e s' I hq
 |ok fl=>
  cases fl with
  |ret u=>exact I.after hq
  |next=>exact False.elim hq
  |brk=>exact False.elim hq
  |cont=>exact False.elim hq
def gz(F:qO X.prog X.w X.K X.mg X.base CX k f fd ps sp)(hr:kY k X.A)(hg:Gl X x)(hm:X.mg x=some (.ref f))(hk:PySem.W.keepIn X.K (.ref f)=true)(hb:Binds X.K fd ps ds)(hd:Vals dvs ds)(hx:Passes CX X E)
  (ha:PA X (e::es) t) (hdb:(x==("__debug__":Str))=false:=by decide) (he:starEach (e::es) X.env=(false,eval e X.env)::starEach es X.env:=by rfl) (hpl:(backTo pos (starEach es X.env)).any (·.1)=false:=by rfl):
  PE X (.Call (.Name x p) (e::es) [] pos) (Lh sp dvs E t):=by
 intro pins s σ H Q I h;refine a0x (Kx I hg hm ?_ hdb);refine a0Q (h₀:=X.base) I.ok.mod.kin hk (thn (ha pos pins s σ H _ I h) λus s1 ⟨vs,H1,I1,r,q⟩=>⟨I1.kIn,?_⟩) he hpl;exact pb F hr hb hd hx I1 r q
structure Mk(K:Oj)(C f:Addr):Prop where
 makes:PySem.W.makesIn K C=true
 init:PySem.W.findIn K (.ref C) "__init__"=some (some (.ref f))
 fn:PySem.W.isFn K (.ref f)=true
 kp:PySem.W.keepIn K (.ref C)=true
def uV(M:Mk X.K C f)(F:qO X.prog X.w X.K X.mg X.base CX k f fd ps sp)(hr:kY (k+1) X.A)(hb:Binds X.K fd ps ds)(hd:Vals dvs ds)
  (hx:Passes CX X E) (I:Inv X pins σ H s) (r:Vals vs us)
  (h:∀x dx,H x=none->H dx=none->dx≠x->sp (.ref x::(vs++dvs)) (upd (upd H dx (.own x)) x (.ins C dx [])) (λv H2=>v=.non/\Q (.ref x) H2) E):
  wpAny (Ph X) X.A (call (.ref C) us) (EP X pins σ Q) X.xe s:=by
 have hq:=h (s.heap.objs.size+1) s.heap.objs.size (I.hok.fresh (a0w _)) (I.hok.fresh (O2 _)) (P1 (a0a _));have I2:=Inv.made (C:=C) I;have r2:Vals (V.ref (s.heap.objs.size+1)::(vs++dvs)) (Value.ref (s.heap.objs.size+1)::(us++ds)):=.cons rfl (r.append hd);have hl:(Value.ref (s.heap.objs.size+1)::us++ds).length=ps.length:=by have e:=r2.length;rw[F.len _ _ _ _ hq]at e;exact e.symm
 refine a0M (iW (f:=f) I.kIn M.makes M.init (S9.mp M.fn) (a0P (F.run _ X.stack _ _ ⟨Value.ref (s.heap.objs.size+1)::us,[]⟩ (Value.ref (s.heap.objs.size+1)::(us++ds)) _ _ E (hr.make C us [])
  (I2.m5.make C us []) (hb _ (Value.ref (s.heap.objs.size+1)::us) I2.kIn hl) r2 hq) λr s' hq'=>?_))
 cases r with
 |error e=>exact hx pins σ _ _ e s' I2 hq'
 |ok fl=>
  cases fl with
  |ret u=>obtain⟨v,H',I3,rv,ev,q3⟩:=I2.after hq';subst ev;exact⟨rv,⟨V.ref (s.heap.objs.size+1),H',I3,rfl,q3⟩⟩
  |next=>exact False.elim hq'
  |brk=>exact False.elim hq'
  |cont=>exact False.elim hq'
def pd(M:Mk X.K C f)(F:qO X.prog X.w X.K X.mg X.base CX k f fd ps sp)(hr:kY (k+1) X.A)(hg:Gl X x)(hm:X.mg x=some (.ref C))(hb:Binds X.K fd ps ds)(hd:Vals dvs ds)(hx:Passes CX X E)
  (ha:PA X (e::es) t) (hdb:(x==("__debug__":Str))=false:=by decide) (he:starEach (e::es) X.env=(false,eval e X.env)::starEach es X.env:=by rfl) (hpl:(backTo pos (starEach es X.env)).any (·.1)=false:=by rfl):
  PE X (.Call (.Name x p) (e::es) [] pos) (Li C sp dvs E t):=by
 intro pins s σ H Q I h;refine a0x (Kx I hg hm ?_ hdb);refine a0Q (h₀:=X.base) I.ok.mod.kin M.kp (thn (ha pos pins s σ H _ I h) λus s1 ⟨vs,H1,I1,r,q⟩=>⟨I1.kIn,?_⟩) he hpl;exact uV M F hr hb hd hx I1 r q
end
def PK(X:Cx)(kws:List Keyword)(t:TA):Prop:=
 ∀(pos:Pos)(pins:Oa)(s:Oe)(σ:St)(H:Hp)(Q:List V->Hp->Prop),Inv X pins σ H s->t σ H Q->wpAny (Ph X) X.A (evalAll ((backToKw pos (keywordEach kws X.env)).map (·.2))) (AP X pins σ Q) X.xe s
section
variable {X:Cx}{CX:CXT}{k:Nat}{f C:Addr}{fd:OC}{ps ks:Ob}{sp:Sp}{E:XK}{x m:Str}{p pos vE kpos:Pos}{e o:Oq}{es:Om}{kws:List Keyword}{te ta:TE}{t tk:TA}{nm:Option Str}
def Fs:PK X [] Lg:=λ_ _ _ _ H Q I h=>wpAny_evalAll_nil ⟨[],H,I,.nil,h⟩
def CD(ha:PE X e te)(hr:PK X kws t):PK X (⟨nm,e,kpos⟩::kws) (Fp te t):=by intro pos pins s σ H Q I h;show wpAny _ _ (evalAll ((do let v<-eval e X.env;standAt pos;pure v)::(backToKw pos (keywordEach kws X.env)).map (·.2))) _ _ s;refine wpAny_evalAll_cons (f8 (thn (ha pins s σ H _ I h) λu s1 ⟨x,H1,I1,r1,q1⟩=>f8 (a1q (O0 ?_))));exact thn (hr pos pins s1 σ H1 _ I1 q1) λus s2 ⟨xs,H2,I2,r2,q2⟩=>⟨x::xs,H2,I2,.cons r1 r2,q2⟩
variable {g:List Value->List Value->List Value}{gV:List V->List V->List V}
end
structure zE(N P:Ob)(sc:Scope):Prop where
 kind:sc.kind=.function
 co:sc.isCoroutine=false
 gen:sc.isGenerator=false
 nd:N.Nodup
 pre:N.take P.length=P
 par:∀x∈P,sc.names.lookup x=some .local\/sc.names.lookup x=some .cell
 Ip:∀y∈sc.names,y.2≠.free
def dF{kindOf:OY}{x:Str}:∀{binds:OS}{m:N_},(∀v,(x,v)∉binds)->bindL kindOf binds m x=m x
 |[],_,_=>rfl
 | (n,v)::r,m,h=>by
  unfold bindL;rw[dF λw hw=>h w (O3 _ hw)];split
  .have:x≠n:=by rintro rfl;exact h v O1
   simp[this]
  .rfl
def dG{kindOf:OY}{x:Str}:∀{binds:OS}{m:N_},(∀v,(x,v)∉binds)->bindC kindOf binds m x=m x
 |[],_,_=>rfl
 | (n,v)::r,m,h=>by
  unfold bindC;rw[dG λw hw=>h w (O3 _ hw)];split
  .rfl
  .have:x≠n:=by rintro rfl;exact h v O1
   simp[this]
def dH{kindOf:OY}{x:Str}{v:Value}:∀{P:Ob}{vs:Og}{i:Nat}{m:N_},P.Nodup->P[i]?=some x->vs[i]?=some v->kindOf x=some .local->
  bindL kindOf (P.zip vs) m x=some v
 |[],_,_,_,_,h,_,_=>by simp at h
 |_::_,[],_,_,_,_,h,_=>by simp at h
 |p::P,w::vs,0,m,nd,h1,h2,hk=>by simp at h1 h2;subst h1;subst h2;show bindL kindOf ((p,w)::P.zip vs) m p=_;unfold bindL;rw[dF λv hv=>(a0U.mp nd).1 (a1Y hv).1,if_pos hk];simp
 |p::P,w::vs,i+1,m,nd,h1,h2,hk=>by show bindL kindOf ((p,w)::P.zip vs) m x=_;unfold bindL;exact dH (i:=i) (a0U.mp nd).2 (by simpa using h1) (by simpa using h2) hk
def dI{kindOf:OY}{x:Str}{v:Value}:∀{P:Ob}{vs:Og}{i:Nat}{m:N_},P.Nodup->P[i]?=some x->vs[i]?=some v->kindOf x≠some .local->
  bindC kindOf (P.zip vs) m x=some v
 |[],_,_,_,_,h,_,_=>by simp at h
 |_::_,[],_,_,_,_,h,_=>by simp at h
 |p::P,w::vs,0,m,nd,h1,h2,hk=>by simp at h1 h2;subst h1;subst h2;show bindC kindOf ((p,w)::P.zip vs) m p=_;unfold bindC;rw[dG λv hv=>(a0U.mp nd).1 (a1Y hv).1,if_neg hk];simp
 |p::P,w::vs,i+1,m,nd,h1,h2,hk=>by show bindC kindOf ((p,w)::P.zip vs) m x=_;unfold bindC;exact dI (i:=i) (a0U.mp nd).2 (by simpa using h1) (by simpa using h2) hk
def start(N:Ob)(vs:Oi):St:=vs.map some++List.replicate (N.length-vs.length) none
def aU(CX:CXT)(P:Ot)(w:Ox)(K:Oj)(mg:N_)(base:Heap)(N:Ob)(qual:Str)(scope:Scope)(f:Addr)(cd:Value)(A:Oy)(outer:List Env)(s:Oe)(H:Hp)(E:XK):Cx where
 prog:=P
 w:=w
 K:=K
 mg:=mg
 base:=base
 A:=A.deeper (envOfC qual scope s.heap.objs.size f cd)
 N:=N
 s₀:=s
 H₀:=H
 env:=envOfC qual scope s.heap.objs.size f cd
 outer:=outer
 stack:=envOfC qual scope s.heap.objs.size f cd::outer
 ex:=[]
 calm:=true
 fn:=λ_=>true
 pn:=[]
 xe:=λe s'=>wpAny (model P w) (A.deeper (envOfC qual scope s.heap.objs.size f cd)) (leaving (envOfC qual scope s.heap.objs.size f cd) e) (λ_ s''=>CX outer H s E e s'') (λe' s''=>CX outer H s E e' s'') s'
def iX{sc:Scope}{n:Nat}{x:Str}(h:sc.names.lookup x=some .cell):∃c,(cellsFrom n sc.names []).lookup x=some c:=by have q:=a1K sc.names n [] (.inl h);exact a0q.mp q
def dJ{CX:CXT}{P:Ot}{w:Ox}{K:Oj}{mg:N_}{base:Heap}{N ps:Ob}{qual:Str}{scope:Scope}{f:Addr}{cd:Value}{A:Oy}{outer:List Env}{s s1:Oe}{H:Hp}{E:XK}{us:Og}{vs:Oi}
  (S:zE N ps scope) (hd:A.handled=none) (e0:o_ P w K mg base A outer s H) (hl:vs.length=ps.length) (r:Vals vs us)
  (x:InCallC s s.heap.objs.size (bindL (envOfC qual scope s.heap.objs.size f cd).kindOf (ps.zip us) λ_=>none) (cellsFrom (s.heap.objs.size+1) scope.names []) (bindC (envOfC qual scope s.heap.objs.size f cd).kindOf (ps.zip us) λ_=>none) s1):
  Inv (aU CX P w K mg base N qual scope f cd A outer s H E) [] (start N vs) H s1:=by
 have hpl:ps.length<=N.length:=by have:=a0e List.length S.pre;rw[a0f]at this;omega
 obtain⟨h1,tk,rfl,hk⟩:=x.done;have noA:∀b:Addr,b∉(aU CX P w K mg base N qual scope f cd A outer s H E).ex:=λb z=>absurd (show b∈([]:List Addr)from z) (by simp);refine⟨⟨e0.mod,S.kind,rfl,rfl,O2 _,λy z c h1 h2=>?_,λy hy=>?_,λy c _ h=>?_,λ_=>hd,Around.frames_deeper e0.frames,.inr ⟨rfl,rfl⟩,λb z=>absurd z (noA b),e0.bs,e0.bsz,λb _ _=>noA b,λb z=>absurd z (noA b),e0.dz,e0.frf⟩,
  rfl,e0.bare,Un.kept hk,⟨_,x.toInCall.ns,λi y v h1 h2 h3=>?_⟩,λy c h=>⟨_,x.cell y c h⟩,e0.hok.fresh (O2 _),λy c h=>?_,λp hp=>absurd (show p∈([]:List (Addr×Obj))from hp) (by simp),e0.hok.kept hk,?_⟩
 .exact name_of_addr x.apart (a06 h1) (a06 h2)
 .have hy:scope.names.lookup y=some .cell\/scope.names.lookup y=some .free:=hy;rcases hy with hy|hy
  .exact iX hy
  .exact absurd rfl (S.Ip _ (a06 hy))
 .exact a1V (x.above y c (a06 h))
 .have hi:i<vs.length:=by
   unfold start at h2;by_cases hi:i<vs.length
   .exact hi
   .rw[a2g (by simpa using hi)]at h2;rw[a0J]at h2;split at h2<;>cases h2
  have ha:vs[i]?=some v:=by
   unfold start at h2;rw[a0h (by simpa using hi),S4]at h2;cases e:vs[i]? with
   |none=>rw[e]at h2;cases h2
   |some a=>rw[e]at h2;cases h2;rfl
  obtain⟨u,hu,rv⟩:=r.get ha;have hp:ps[i]?=some y:=by rw[<- S.pre,List.getElem?_take_of_lt (by omega)];exact h1
  have ndP:ps.Nodup:=by rw[<- S.pre];exact S.nd.sublist (List.take_sublist _ _)
  refine⟨u,rv,?_⟩;rcases S.par y (a1k hp)with k|k
  .exact .inl ⟨k,dH ndP hp hu k⟩
  .obtain⟨c,e⟩:=iX (n:=s.heap.objs.size+1) k;refine .inr ⟨.inl k,c,e,?_⟩;have q:=x.cell y c e;rw[dI ndP hp hu (by show scope.names.lookup y≠_;rw[k];decide)]at q;exact q
 .exact e0.hok.fresh (a1V (x.above y c (a06 h)))
 .unfold start;show _=N.length;rw[O9,u8,a0V];omega
def Lj{CX:CXT}{P:Ot}{w:Ox}{K:Oj}{mg:N_}{base:Heap}{k:Nat}{f:Addr}{name qual:Str}{params:Arguments}{body:OG}{scope:Scope}{dV kV doc pm cdv ct oc:Value}{an od:OL}
  {osl:OI}{N ps:Ob}{sp:Sp}(lk:K.lookup f=some ⟨oc,od,.func (PySem.W.fnOf name qual params body scope dV kV doc pm an cdv ct),osl⟩) (hcd:PySem.W.codeIn K cdv qual=true) (S:zE N ps scope)
  (len:∀vs H Q E,sp vs H Q E->vs.length=ps.length)
  (aO:∀(A:Oy)(outer:List Env)(s:Oe)(H:Hp)(vs:Oi)(Q:VK)(E:XK),kY k (A.deeper (envOfC qual scope s.heap.objs.size f cdv))->sp vs H Q E->
   ∃t,PSs (aU CX P w K mg base N qual scope f cdv A outer s H E) body t/\t { nx:=λ_ H'=>Q .non H',rt:=Q } (start N vs) H):
  qO P w K mg base CX (k+1) f (PySem.W.fnOf name qual params body scope dV kV doc pm an cdv ct) ps sp:=by
 refine⟨len,λA outer s H args us vs Q E hr e0 hb r hsp=>?_⟩;have hl:=len _ _ _ _ hsp;have KX:K.In s.heap:=e0.mod.kin.keeps λb o e=>(e0.bs b o e).1;have lim:s.heap.NoLimit:=e0.mod.nolimit.keeps λb o e=>(e0.bs b o e).1;have hkind:∀y∈ps.zip us,scope.names.lookup y.1=some .local\/(scope.names.lookup y.1=some .cell/\((cellsFrom (s.heap.objs.size+1) scope.names []).lookup y.1).isSome=true):=λ⟨n,v⟩ hy=>by
  rcases S.par n (a1Y hy).1 with q|q
  .exact .inl q
  .exact .inr ⟨q,a1K _ _ _ (.inl q)⟩
 refine a2S hr.depth (KX _ _ lk) rfl S.co S.gen rfl (a3d KX hcd) (hb _ _ _ _ ?_);refine a2h S.kind hkind λenv he s1 x=>?_;subst he;refine⟨lim.keeps x.toInCall.keep,codeAny_func ?_⟩;obtain⟨t,ht,hq⟩:=aO A outer s H vs Q E (hr.deeper _) hsp;have I:Inv (aU CX P w K mg base N qual scope f cdv A outer s H E) [] (start N vs) H s1:=dJ S hr.hd e0 hl r x;refine a0c (ht [] s1 (start N vs) H _ I hq) (λfl s' hs=>?_) λe s' hs=>hs;have fin:∀{σ':St}{H':Hp}{v:V}{u:Value},Inv (aU CX P w K mg base N qual scope f cdv A outer s H E) [] σ' H' s'->RelV v u->Q v H'->CE outer P w H s Q u s':=
  λ{σ' H' v u} J rv q=>⟨v,H',J.os,J.bare,J.base,J.hok,rv,q⟩
 cases fl with
 |ret u=>obtain⟨v,σ',H',J,rv,q⟩:=hs;exact fin J rv q
 |next=>obtain⟨σ',H',J,q⟩:=hs;exact fin (v:=V.non) (u:=Value.none) J rfl q
 |brk=>obtain⟨_,_,_,q⟩:=hs;exact False.elim q
 |cont=>obtain⟨_,_,_,q⟩:=hs;exact False.elim q
section
variable {X:Cx}{x:Str}{p pos:Pos}{e:Oq}{es:Om}{t:TA}{id T:String}{r:List V->Hp->VK->Prop}
def tCB(r:List V->Hp->VK->Prop)(t:TA):TE:=λσ H Q=>t σ H λvs H1=>r vs H1 Q
def Xc(hc:vU X (.builtin id) r)(hg:Gl X x)(hm:X.mg x=none)(hv:bootBuiltins x=some (.builtin id))(ha:PA X (e::es) t)(hn:x≠"__name__":=by decide)(hdb:(x==("__debug__":Str))=false:=by decide)
  (he:starEach (e::es) X.env=(false,eval e X.env)::starEach es X.env:=by rfl) (hpl:(backTo pos (starEach es X.env)).any (·.1)=false:=by rfl):PE X (.Call (.Name x p) (e::es) [] pos) (tCB r t):=by
 intro pins s σ H Q I h;refine a0x (aR I hg hm hv ?_ hn hdb);exact PyProof.Rows.callWith_builtin1 (thn (ha pos pins s σ H _ I h) λus s1 ⟨vs,H1,I1,r1,q1⟩=>hc pins s1 σ H1 vs us Q I1 r1 q1) he hpl
def dM(hc:vU X (.type T) r)(hg:Gl X x)(hm:X.mg x=none)(hv:bootBuiltins x=some (.type T))(ha:PA X (e::es) t)(hn:x≠"__name__":=by decide)(hdb:(x==("__debug__":Str))=false:=by decide)
  (he:starEach (e::es) X.env=(false,eval e X.env)::starEach es X.env:=by rfl) (hpl:(backTo pos (starEach es X.env)).any (·.1)=false:=by rfl):PE X (.Call (.Name x p) (e::es) [] pos) (tCB r t):=by
 intro pins s σ H Q I h;refine a0x (aR I hg hm hv ?_ hn hdb);exact a1j (thn (ha pos pins s σ H _ I h) λus s1 ⟨vs,H1,I1,r1,q1⟩=>hc pins s1 σ H1 vs us Q I1 r1 q1) he hpl
end
end L2
namespace HT
open PySem PyProof.Rows
section
open PySem.SeqAt
open PySem.AutoSeq1 (wpAny_loadPart')
open PySem.MeetsSeq PySem.MeetsSeq2 PySem.MeetsSeq3
end
section
variable {prog:Ot}{w:Ox}{A:Oy}{E:Oc}{s:Oe}
def sIx(n d:Nat):Option Int->Nat
 |none=>d
 |some v=>if v<0 then(v+(n:Int)).toNat else min v.toNat n
end
end HT
namespace L2
open PySem PySem.Spec PyProof.Rows
abbrev TO:=St->Hp->(Option Int->Hp->Prop)->Prop
def PO(X:Cx)(e:Pd)(t:TO):Prop:=
 ∀(pins:Oa)(s:Oe)(σ:St)(H:Hp)(Q:Option Int->Hp->Prop),Inv X pins σ H s->t σ H Q->
  wpAny (Ph X) X.A (evalPart e X.env) (λu s'=>∃o H',Inv X pins σ H' s'/\IsPart u o/\Q o H') X.xe s
def CF:TO:=λ_ H Q=>Q none H
def Lk(t:TE):TO:=λσ H Q=>t σ H λx H1=>∃i,x=.int i/\Q (some i) H1
section
variable {X:Cx}{e:Oq}{te:TE}{lo hi:Pd}{tl th:TO}{pos p2:Pos}
def CG:PO X none CF:=by intro pins s σ H Q I h;rw[evalPart_none];exact O0 ⟨none,H,I,.none,h⟩
def CH(h:PE X e te):PO X (some e) (Lk te):=by intro pins s σ H Q I hw;rw[evalPart_some];refine thn (h pins s σ H _ I hw) λu s1 ⟨x,H1,I1,r1,q1⟩=>?_;obtain⟨i,rfl,q⟩:=q1;obtain⟨t,rfl⟩:=r1;exact⟨some i,H1,I1,.int i t,q⟩
def SlR(X:Cx)(r:V->Option Int->Option Int->Hp->VK->Prop):Prop:=
 ∀(pins:Oa)(s:Oe)(σ:St)(H:Hp)(x:V)(v vl vu:Value)(lo hi:OV) (sl:Addr) (Q:VK),Inv X pins σ H s->RelV x v->s.heap.IsSliceOf sl vl vu .none->IsPart vl lo->IsPart vu hi->r x lo hi H Q->
  ∃T id,typeLookup (.type T) "__getitem__"=pure (some (.builtin id))/\s.TypeIs v T/\wpAny (Ph X) X.A (getItem v (.ref sl)) (EP X pins σ Q) X.xe s
def SlR.or(h:SlR X r)(h':SlR X r'):SlR X (λx lo hi H Q=>r x lo hi H Q\/r' x lo hi H Q):=by
 intro pins s σ H x v vl vu lo hi sl Q I rx hs pl pu q;rcases q with q|q
 .exact h pins s σ H x v vl vu lo hi sl Q I rx hs pl pu q
 .exact h' pins s σ H x v vl vu lo hi sl Q I rx hs pl pu q
def tSl(r:V->Option Int->Option Int->Hp->VK->Prop)(te:TE)(tl th:TO):TE:=λσ H Q=>te σ H λx H1=>tl σ H1 λl H2=>th σ H2 λu H3=>r x l u H3 Q
def iY(hr:SlR X r)(he:PE X e te)(hl:PO X lo tl)(hu:PO X hi th):PE X (.Subscript e (.Slice lo hi none p2) pos) (tSl r te tl th):=by intro pins s σ H Q I h;refine Subscript_ (thn (he pins s σ H _ I h) λv s1 ⟨x,H1,I1,r1,q1⟩=>?_);refine wpAny_Slice (thn (hl pins s1 σ H1 _ I1 q1) λvl s2 ⟨l,H2,I2,pl,q2⟩=>thn (hu pins s2 σ H2 _ I2 q2) λvu s3 ⟨u,H3,I3,pu,q3⟩=>?_);rw[evalPart_none];refine O0 ?_;have I4:Inv X pins σ H3 { s3 with heap:=s3.heap.push { cls:=.type "slice",data:=.fields #[vl,vu,.none] } }:=I3.kept (t':=s3.toks) λb ob q=>v4 _ q;obtain⟨T,id,hT,ht,hg⟩:=hr pins { s3 with heap:=s3.heap.push { cls:=.type "slice",data:=.fields #[vl,vu,.none] } } σ H3 x v vl vu l u s3.heap.objs.size Q I4 r1 (Heap.IsSliceOf.new ..) pl pu q3;show wpAny (Ph X) X.A (subscriptTail e (.Slice lo hi none p2) v (.ref s3.heap.objs.size)) (EP X pins σ Q) X.xe { s3 with heap:=s3.heap.push { cls:=.type "slice",data:=.fields #[vl,vu,.none] } };exact tail_any (ops:=[.ref s3.heap.objs.size,v]) ht hT hg (by with_unfolding_all rfl)
def Bi(xs:Oi)(lo hi:OV):List V:=(xs.drop (HT.sIx xs.length 0 lo)).take (HT.sIx xs.length xs.length hi-HT.sIx xs.length 0 lo)
def gB(xs:Oi)(lo hi:OV):(Bi xs lo hi).length<=xs.length:=by unfold Bi;rw[a0f,a0K];omega
end
def ixN(n:Nat)(i:Int):Option Nat:=if 0<=i then(if i<n then some i.toNat else none)else if -(n:Int)<=i then some (i+n).toNat else none
def atI{α:Type}(xs:List α)(i:Int):Option α:=(ixN xs.length i).bind λj=>xs[j]?
def pe(h:ixN n i=some j):seqIndex? i n=some j/\j<n/\-(n:Int)<=i/\i<n:=by
 unfold ixN at h;by_cases h0:0<=i
 .rw[if_pos h0]at h;by_cases h1:i<n
  .rw[if_pos h1]at h;have e:i.toNat=j:=T4 h;exact⟨by rw[a3l h0 h1,e],by omega,by omega,h1⟩
  .rw[if_neg h1]at h;cases h
 .rw[if_neg h0]at h;by_cases h1:-(n:Int)<=i
  .rw[if_pos h1]at h;have e:(i+n).toNat=j:=T4 h;exact⟨by rw[a3e (by omega) h1,e],by omega,h1,by omega⟩
  .rw[if_neg h1]at h;cases h
def gC{α:Type}{xs:List α}{v:α}(h:atI xs i=some v):∃j,seqIndex? i xs.length=some j/\xs[j]?=some v/\j<xs.length/\-(xs.length:Int)<=i/\i<xs.length:=by
 unfold atI at h;cases e:ixN xs.length i with
 |none=>rw[e]at h;cases h
 |some j=>rw[e]at h;obtain⟨h1,h2,h3,h4⟩:=pe e;exact⟨j,h1,h,h2,h3,h4⟩
def bQ(b:Oq):Prop:=∀o i,subscripted b false o i=operate [o,i] (getItem o i)
def IxR(X:Cx)(r:R2):Prop:=
 ∀(value slice:Oq)(pins:Oa)(s:Oe)(σ:St)(H:Hp)(x y:V)(v u:Value) (Q:VK),Inv X pins σ H s->RelV x v->RelV y u->r x y H Q->
  subscripted slice false v u=operate [v,u] (getItem v u)->wpAny (Ph X) X.A (subscriptTail value slice v u) (EP X pins σ Q) X.xe s
def MtR(X:Cx)(id:String)(r:V->List V->Hp->VK->Prop):Prop:=
 ∀(pins:Oa)(s:Oe)(σ:St)(H:Hp)(x:V)(xs:Oi)(v:Value) (us:Og) (Q:VK),Inv X pins σ H s->RelV x v->Vals xs us->r x xs H Q->
  wpAny (Ph X) X.A (call (.builtin id) (v::us)) (EP X pins σ Q) X.xe s
section
variable {X:Cx}{a b:Oq}{ta tb:TE}{pos:Pos}
def IxR.or(h:IxR X r)(h':IxR X r'):IxR X (λx y H Q=>r x y H Q\/r' x y H Q):=by
 intro value slice pins s σ H x y v u Q I rx ry q hs;rcases q with q|q
 .exact h value slice pins s σ H x y v u Q I rx ry q hs
 .exact h' value slice pins s σ H x y v u Q I rx ry q hs
def Ft(hr:IxR X r)(ha:PE X a ta)(hb:PE X b tb)(hs:bQ b):PE X (.Subscript a b pos) (tOp r ta tb):=by intro pins s σ H Q I h;exact Subscript_ (Lc ha hb I h λv u s2 x y H2 I2 rx ry q=>hr a b pins s2 σ H2 x y v u Q I2 rx ry q (hs _ _))
def ML(K:Oj):R2:=λx y H Q=>∃p xs i v,x=.ref p/\y=.int i/\SqL K H p xs/\atI xs i=some v/\Q v H
def MM(K:Oj):R2:=λx y H Q=>∃p xs i v,x=.ref p/\y=.int i/\SqT K H p xs/\atI xs i=some v/\Q v H
def MN:R2:=λx y H Q=>∃z i c,x=.str z/\y=.int i/\z.length<=sizeLine/\atI z.cps.toList i=some c/\Q (.str ⟨#[c]⟩) H
def CJ:IxR X (ML X.K):=by
 intro value slice pins s σ H x y v u Q I rx ry h hs;obtain⟨p,xs,i,z,rfl,rfl,hq,he,q⟩:=h;cases rx;obtain⟨t,rfl⟩:=ry;obtain⟨its,r,pl,hz⟩:=I.list hq;obtain⟨j,h1,h2,h3,h4,h5⟩:=gC he;obtain⟨w,ew,rw'⟩:=r.get h2;have hl:=r.length;have hn:=dD;have fin:EP X pins σ Q w s:=⟨z,H,I,rw',q⟩;by_cases h0:0<=i
 .have hj:i.toNat=j:=by rw[a3l h0 h5]at h1;exact T4 h1
  exact item_listR pl.isList h0 (by omega) (by rw[hj];simpa using ew) fin hs
 .have hj:(i+(its.toArray.size:Int)).toNat=j:=by rw[a3e (by omega) h4]at h1;rw[P9,<- hl];exact T4 h1
  exact a2P (x:=w) pl.isList.typeIs slot_list_getitem.lookup
   (wpAny_getItem_list_neg (Q:=λr s'=>r=w/\EP X pins σ Q r s') pl.isList (by omega) (by rw[P9]<;>omega) (by omega) (by rw[hj];simpa using ew) ⟨rfl,fin⟩) hs
def Fu:IxR X (MM X.K):=by
 intro value slice pins s σ H x y v u Q I rx ry h hs;obtain⟨p,xs,i,z,rfl,rfl,hq,he,q⟩:=h;cases rx;obtain⟨t,rfl⟩:=ry;obtain⟨its,r,pl,hz⟩:=I.tuple hq;obtain⟨j,h1,h2,h3,h4,h5⟩:=gC he;obtain⟨w,ew,rw'⟩:=r.get h2;have hl:=r.length;have hn:=dD;have fin:EP X pins σ Q w s:=⟨z,H,I,rw',q⟩;exact a2P (x:=w) pl.typeIs slot_tuple_getitem.lookup
  (getItem_tuple (j:=j) (Q:=λr s'=>r=w/\EP X pins σ Q r s') pl (by omega) (by omega) (by rw[P9,<- hl];exact h1) (by simpa using ew) ⟨rfl,fin⟩) hs
def aV:IxR X MN:=by
 intro value slice pins s σ H x y v u Q I rx ry h hs;obtain⟨z,i,c,rfl,rfl,hz,he,q⟩:=h;obtain⟨t,rfl⟩:=rx;obtain⟨t',rfl⟩:=ry;obtain⟨j,h1,h2,h3,h4,h5⟩:=gC he;have hl:z.cps.toList.length=z.length:=by simp[Str.length]
 rw[hl]at h1 h4 h5;have hn:=dD;exact tail_any (typeIs_str s z t) slot_str_getitem.lookup (getItem_str (c:=c) (by
  have e1:decide (i < -(2 ^ 63:Int))=false:=O6 (by omega);have e2:decide (i ≥ 2 ^ 63)=false:=O6 (by omega);rw[e1,e2,Bool.or_false]) (by rw[h1];simpa using h2) ⟨.str ⟨#[c]⟩,H,I.tok _,⟨_,rfl⟩,q⟩) hs
def rIx(K:Oj):R2:=λx y H Q=>ML K x y H Q\/MM K x y H Q\/MN x y H Q
def Fv:IxR X (rIx X.K):=CJ.or (Fu.or aV)
def m6(its:Og)(n j:Nat)(u:Value):Obj.mapSeq (·.setIfInBounds j u) { cls:=.type "list",data:=.seq its.toArray n }={ cls:=.type "list",data:=.seq (its.set j u).toArray n }:=by simp[Obj.mapSeq]
def Inv.lst(I:Inv X pins σ H s)(h:H p=some (.lst xs)):
  ∃(its:Og)(n:Nat),Vals xs its/\s.heap.get? p=some { cls:=.type "list",data:=.seq its.toArray n }/\xs.length<=sizeLine:=by
 obtain⟨z,its,n,r,e⟩:=I.hok p _ h;exact⟨its,n,r,e,z⟩
def Inv.Fx{pins:Oa}{σ:St}{H:Hp}{s:Oe}{p:Addr}{xs ys:Oi}{its its':Og}{n n':Nat}{f:Obj->Obj}(I:Inv X pins σ H s)(h:H p=some (.lst xs))
  (ho:s.heap.get? p=some { cls:=.type "list",data:=.seq its.toArray n }) (hf:f { cls:=.type "list",data:=.seq its.toArray n }={ cls:=.type "list",data:=.seq its'.toArray n' }) (r:Vals ys its') (hz:ys.length<=sizeLine) (t:Nat):
  Inv X pins σ (upd H p (.lst ys)) { s with heap:=s.heap.update p f,toks:=t }:=by
 have e:(s.heap.update p f).get? p=some { cls:=.type "list",data:=.seq its'.toArray n' }:=by rw[a0r f ho (by rw[hf]<;>rfl),hf]
 refine I.write (x:=p) (e:=p) (by rw[h];trivial) (.inl rfl) (λb u hb q=>(S7 _ _ (Ne.symm hb)).trans q) ⟨_,e⟩ ?_;exact⟨hz,its',n',r,e⟩
def Ll:V->V->V->Hp->(Hp->Prop)->Prop:=λo i v H Q=>∃p xs k j,o=.ref p/\i=.int k/\H p=some (.lst xs)/\ixN xs.length k=some j/\Q (upd H p (.lst (xs.set j v)))
def set_list:MF X Ll:=by
 intro pins s σ H o i v ov iv u Q I ro ri rv h;obtain⟨p,xs,k,j,rfl,rfl,hp,hj,q⟩:=h;cases ro;obtain⟨t,rfl⟩:=ri;obtain⟨its,n,r,ho,hz⟩:=I.lst hp;obtain⟨h1,h2,h3,h4⟩:=pe hj;have hl:=r.length;have hn:=dD;have I':Inv X pins σ (upd H p (.lst (xs.set j v))) { s with heap:=s.heap.update p (Obj.mapSeq (·.setIfInBounds j u)) }:=
  I.Fx hp ho (m6 its n j u) (r.set rv j) (by rw[T5];exact hz) s.toks
 by_cases h0:0<=k
 .have hk:k.toNat=j:=by rw[a3l h0 h4]at h1;exact T4 h1
  exact PySem.W.ki_setAt ho h0 (by omega) (by rw[P9,<- hl];exact h4) (by rw[hk];exact⟨_,I',q⟩)
 .have hk:(k+(its.toArray.size:Int)).toNat=j:=by rw[a3e (by omega) h3]at h1;rw[P9,<- hl];exact T4 h1
  exact PySem.W.ki_setBack ho (by omega) (by rw[P9,<- hl];exact h3) (by omega) (by rw[hk];exact⟨_,I',q⟩)
def dN(lo hi:OV)(n:Nat):(sliceBounds lo hi none n).1=((HT.sIx n 0 lo:Nat):Int)/\(sliceBounds lo hi none n).2.1=((HT.sIx n n hi:Nat):Int)/\(sliceBounds lo hi none n).2.2=1:=by
 refine⟨?_,?_,rfl⟩
 .cases lo with
  |none=>simp[sliceBounds,HT.sIx]
  |some i=>
   simp only[sliceBounds,HT.sIx,Option.getD_none,show(1:Int)>0 by decide,if_true];by_cases h:i<0
   .simp only[h,if_true]<;>omega
   .simp only[h,if_false]<;>omega
 .cases hi with
  |none=>simp[sliceBounds,HT.sIx]
  |some i=>
   simp only[sliceBounds,HT.sIx,Option.getD_none,show(1:Int)>0 by decide,if_true];by_cases h:i<0
   .simp only[h,if_true]<;>omega
   .simp only[h,if_false]<;>omega
def bR(its:Og)(lo hi:OV):slicePick its.toArray lo hi none=((its.drop (HT.sIx its.length 0 lo)).take (HT.sIx its.length its.length hi-HT.sIx its.length 0 lo)).toArray:=by obtain⟨h1,h2,h3⟩:=dN lo hi its.toArray.size;unfold slicePick;rw[h1,h2,h3];simp only[sliceRange_one,pick_run,List.size_toArray]<;>rfl
def NF(K:Oj):V->Option Int->Option Int->Hp->VK->Prop:=λx lo hi H Q=>∃a xs,x=.ref a/\SqL K H a xs/\∀p,H p=none->Q (.ref p) (upd H p (.lst (Bi xs lo hi)))
def pf:SlR X (NF X.K):=by intro pins s σ H x v vl vu lo hi sl Q I rx hs pl pu h;obtain⟨a,xs,rfl,hx,q⟩:=h;cases rx;obtain⟨its,r,ht,hz⟩:=I.list hx;have hlen:=r.length;refine⟨"list",_,slot_list_getitem.lookup,ht.isList.typeIs,?_⟩;refine wpAny_getItem_list_slice ht.isList hs pl pu .none (by simp) ?_ (by rw[List.size_toArray]<;>omega);rw[bR,<- hlen];refine⟨.ref s.heap.objs.size,_,I.laid (t':=s.toks) (o:=.lst (Bi xs lo hi)) (λb ob q=>v4 _ q) (O2 _) ?_,rfl,q _ (I.hok.fresh (O2 _))⟩;exact⟨P7 (gB xs lo hi) hz,_,0,(r.drop (HT.sIx xs.length 0 lo)).take (HT.sIx xs.length xs.length hi-HT.sIx xs.length 0 lo),P2 _ rfl⟩
def WO:V->Bool
 |.non=>true
 |.bl _=>true
 |.int _=>true
 |.str _=>true
 |_=>false
def eqV:V->V->Bool
 |.non,.non=>true
 |.bl a,.bl b=>a==b
 |.bl a,.int b=>(if a then 1 else 0)==b
 |.int a,.bl b=>a==(if b then 1 else 0)
 |.int a,.int b=>a==b
 |.str a,.str b=>a==b
 |_,_=>false
def Bj(ry:RelV y u)(rx:RelV x v)(fy:WO y=true)(fx:WO x=true):SeqAt.EqAt A s u v (eqV y x):=by
 cases y with
 |non=>
  cases ry;cases x with
  |non=>cases rx;exact SeqAt.EqAt.same _
  |bl b=>cases rx;exact SeqAt.EqAt.none_bool b
  |int b=>obtain⟨t,rfl⟩:=rx;exact SeqAt.EqAt.none_int b t
  |str b=>obtain⟨t,rfl⟩:=rx;exact SeqAt.EqAt.none_str b t
  |_=>exact absurd (show false=true from fx) P5
 |bl a=>
  cases ry;cases x with
  |non=>cases rx;exact SeqAt.EqAt.bool_none a
  |bl b=>cases rx;exact SeqAt.EqAt.bool_bool a b
  |int b=>obtain⟨t,rfl⟩:=rx;exact SeqAt.EqAt.bool_int a b t
  |str b=>obtain⟨t,rfl⟩:=rx;exact SeqAt.EqAt.bool_str a b t
  |_=>exact absurd (show false=true from fx) P5
 |int a=>
  obtain⟨t',rfl⟩:=ry;cases x with
  |non=>cases rx;exact SeqAt.EqAt.int_none a t'
  |bl b=>cases rx;exact SeqAt.EqAt.int_bool a t' b
  |int b=>obtain⟨t,rfl⟩:=rx;exact SeqAt.EqAt.int_int a t' b t
  |str b=>obtain⟨t,rfl⟩:=rx;exact a27 a t' b t
  |_=>exact absurd (show false=true from fx) P5
 |str a=>
  obtain⟨t',rfl⟩:=ry;cases x with
  |non=>cases rx;exact SeqAt.EqAt.str_none a t'
  |bl b=>cases rx;exact SeqAt.EqAt.str_bool a t' b
  |int b=>obtain⟨t,rfl⟩:=rx;exact a28 a t' b t
  |str b=>obtain⟨t,rfl⟩:=rx;exact SeqAt.EqAt.str_str a t' b t
  |_=>exact absurd (show false=true from fx) P5
 |_=>exact absurd (show false=true from fy) P5
def eqU(x:V)(u:Value):Bool:=match u with
 |.none=>eqV .non x
 |.bool b=>eqV (.bl b) x
 |.int i _=>eqV (.int i) x
 |.str z _=>eqV (.str z) x
 |_=>false
def Bk(r:RelV y u)(f:WO y=true):eqU x u=eqV y x:=by
 cases y with
 |non=>cases r;rfl
 |bl b=>cases r;rfl
 |int i=>obtain⟨t,rfl⟩:=r;rfl
 |str z=>obtain⟨t,rfl⟩:=r;rfl
 |_=>exact absurd (show false=true from f) P5
def Xs{x:V}:∀{xs:Oi}{us:Og},Vals xs us->xs.all WO=true->us.any (eqU x)=xs.any λy=>eqV y x
 |_,_,.nil,_=>rfl
 |y::xs,u::us,.cons r t,f=>by rw[a1N,a04]at f;rw[a0p,a0p,Bk r f.1,Xs t f.2]
def K8{A:Oy}{s:Oe}{x:V}{v:Value}(rx:RelV x v)(fx:WO x=true):∀{xs:Oi}{us:Og},Vals xs us->xs.all WO=true->∀u∈us,SeqAt.EqAt A s u v (eqU x u)
 |_,_,.nil,_=>λu hu=>by cases hu
 |y::xs,u::us,.cons r t,f=>λu' hu=>by
  rw[a1N,a04]at f;rcases P8.mp hu with rfl|hu
  .rw[Bk r f.1];exact Bj r rx f.1 fx
  .exact K8 rx fx t f.2 u' hu
def inV(x:V)(xs:Oi):Bool:=xs.any λy=>eqV y x
def rIn(K:Oj)(neg:Bool):R2:=λx y H Q=>∃p xs,y=.ref p/\(SqL K H p xs\/SqT K H p xs)/\WO x=true/\xs.all WO=true/\Q (.bl (if neg then !inV x xs else inV x xs)) H
def ph:OpR X (compareOp .In) (rIn X.K false):=by
 intro pins s σ H x y v u Q I rx ry h;obtain⟨p,xs,rfl,hq,fx,fs,q⟩:=h;cases ry;rcases hq with hq|hq
 .obtain⟨its,r,pl,hz⟩:=I.list hq;refine SeqAt.in_listAt (eqU x) pl.isList (λw hw=>K8 rx fx r fs w (by simpa using hw)) ⟨.bl _,H,I,rfl,?_⟩;rw[show its.toArray.any (eqU x)=its.any (eqU x) by simp,Xs r fs];exact q
 .obtain⟨its,r,pl,hz⟩:=I.tuple hq;refine SeqAt.in_tupleAt (eqU x) pl (λw hw=>K8 rx fx r fs w (by simpa using hw)) ⟨.bl _,H,I,rfl,?_⟩;rw[show its.toArray.any (eqU x)=its.any (eqU x) by simp,Xs r fs];exact q
def dO:OpR X (compareOp .NotIn) (rIn X.K true):=by
 intro pins s σ H x y v u Q I rx ry h;obtain⟨p,xs,rfl,hq,fx,fs,q⟩:=h;cases ry;rcases hq with hq|hq
 .obtain⟨its,r,pl,hz⟩:=I.list hq;refine SeqAt.notIn_listAt (eqU x) pl.isList (λw hw=>K8 rx fx r fs w (by simpa using hw)) ⟨.bl _,H,I,rfl,?_⟩;rw[show its.toArray.any (eqU x)=its.any (eqU x) by simp,Xs r fs];exact q
 .obtain⟨its,r,pl,hz⟩:=I.tuple hq;refine SeqAt.notIn_tupleAt (eqU x) pl (λw hw=>K8 rx fx r fs w (by simpa using hw)) ⟨.bl _,H,I,rfl,?_⟩;rw[show its.toArray.any (eqU x)=its.any (eqU x) by simp,Xs r fs];exact q
def dP:OpR X (compareOp .NotIn) (λx y H Q=>∃i j,x=.str i/\y=.str j/\Q (.bl (!(!(Builtin.Str.occurrences j i 0 j.length 1).isEmpty))) H):=by intro pins s σ H x y v u Q I rx ry h;obtain⟨i,j,rfl,rfl,q⟩:=h;obtain⟨t,rfl⟩:=rx;obtain⟨t',rfl⟩:=ry;exact notIn_str ⟨.bl _,H,I,rfl,q⟩
def vU.or(h:vU X f r)(h':vU X f r'):vU X f (λxs H Q=>r xs H Q\/r' xs H Q):=by
 intro pins s σ H xs us Q I rs q;rcases q with q|q
 .exact h pins s σ H xs us Q I rs q
 .exact h' pins s σ H xs us Q I rs q
def dQ:vU X (.type "list") (λxs H Q=>∃p ys,xs=[.ref p]/\(SqL X.K H p ys\/SqT X.K H p ys)/\∀l,H l=none->Q (.ref l) (upd H l (.lst ys))):=by
 intro pins s σ H xs us Q I r h;obtain⟨p,ys,rfl,hq,q⟩:=h;obtain⟨u,rfl,rx⟩:=vals1 r;cases rx;have fin:∀(its:Og),Vals ys its->ys.length<=sizeLine->∀(h':Heap)(c':Nat),(∀b o',s.heap.get? b=some o'->h'.get? b=some o')->
   h'.get? s.heap.objs.size=some { cls:=.type "list",dict:=none,data:=.seq its.toArray c',slots:=#[] }->EP X pins σ Q (.ref s.heap.objs.size) { s with heap:=h' }:=λits r' hz h' c' kp e=>
  ⟨.ref s.heap.objs.size,_,I.laid (t':=s.toks) kp (O2 _) (show qE X.prog X.w _ h' _ (.lst ys)from⟨hz,its,c',r',e⟩),rfl,q _ (I.hok.fresh (O2 _))⟩
 rcases hq with hq|hq
 .obtain⟨its,r',pl,hz⟩:=I.list hq;have hlen:=r'.length;obtain⟨o,ho,hc,n,hd⟩:=pl.isList;exact call_list_seq p (.inl rfl) ho hc hd (λh' c' kp e=>fin its r' hz h' c' kp e) (by simp only[List.size_toArray]<;>omega)
 .obtain⟨its,r',pl,hz⟩:=I.tuple hq;have hlen:=r'.length;obtain⟨o,ho,hc,n,hd⟩:=pl;exact call_list_seq p (.inr rfl) ho hc hd (λh' c' kp e=>fin its r' hz h' c' kp e) (by simp only[List.size_toArray]<;>omega)
def tyV(K:Oj)(T:String)(x:V)(H:Hp):Prop:=match x with
 |.str _=>T="str"
 |.int _=>T="int"
 |.ref p=>(T="list" /\ ∃xs,SqL K H p xs)\/(T="tuple" /\ ∃o,K.lookup p=some o/\o.cls=.type "tuple"/\o.dict=none)\/
   (T="dict"/\((∃kvs,H p=some (.dK kvs))\/∃kvs,H p=some (.dT kvs)))\/(T="set" /\ ∃S n,H p=some (.set S n))
 |_=>False
def Fy(I:Inv X pins σ H s)(r:RelV x v)(ty:tyV X.K T x H):
  s.TypeIs v T/\∀a,v=.ref a->∃ob,s.heap.get? a=some ob/\ob.dict=none:=by
 cases x with
 |str z=>obtain⟨t,rfl⟩:=r;cases(show T="str" from ty);exact⟨typeIs_str s z t,λ_ e=>nomatch e⟩
 |int i=>obtain⟨t,rfl⟩:=r;cases(show T="int" from ty);exact⟨typeIs_int s i t,λ_ e=>nomatch e⟩
 |ref p=>
  cases r;rcases ty with⟨rfl,xs,hq⟩|⟨rfl,o,hk,hc,hd⟩|⟨rfl,hk⟩|⟨rfl,S,n,hk⟩
  .obtain⟨its,_,pl,_⟩:=I.list hq;refine⟨pl.isList.typeIs,λa e=>?_⟩;cases e;obtain⟨o,n,e,c,hd,_⟩:=pl;exact⟨o,e,hd⟩
  .refine⟨⟨o,I.kIn p o hk,hc⟩,λa e=>?_⟩;cases e;exact⟨o,I.kIn _ o hk,hd⟩
  .have z:∃o,s.heap.get? p=some o/\o.ExactDict:=by
    rcases hk with⟨kvs,hk⟩|⟨kvs,hk⟩
    .obtain⟨_,_,_,_,o,_,_,e,ex,_⟩:=I.hok p _ hk;exact⟨o,e,ex⟩
    .obtain⟨_,_,_,_,o,_,_,e,ex,_⟩:=I.hok p _ hk;exact⟨o,e,ex⟩
   obtain⟨o,e,ex⟩:=z;refine⟨⟨o,e,ex.1⟩,λa e2=>?_⟩;cases e2;exact⟨o,e,ex.2.1⟩
  .obtain⟨o,_,_,_,e,ex,_⟩:=I.hok p _ hk;refine⟨⟨o,e,ex.1⟩,λa e2=>?_⟩;cases e2;exact⟨o,e,ex.2.1⟩
 |_=>exact False.elim ty
def tBM(K:Oj)(T:String)(r:V->List V->Hp->VK->Prop)(to:TE)(t:TA):TE:=λσ H Q=>to σ H λx H1=>tyV K T x H1/\t σ H1 λxs H2=>r x xs H2 Q
variable {o e:Oq}{es:Om}{to:TE}{t:TA}{name:Str}{vE Zi:Pos}{T id:String}{r:V->List V->Hp->VK->Prop}
def uW(pa:PlainAttrs T)(slot:Slot T name id)(hty:typeOf (.builtin id)=pure (.type "method_descriptor"))(hm:MtR X id r)(ho:PE X o to)(ha:PA X (e::es) t)
  (dv:attributeBase o name X.env (eval o X.env)=eval o X.env:=by rfl)
  (Bb:((backTo Zi (starEach (e::es) X.env)).all (λx=>!x.1)&&(backToKw Zi (keywordEach [] X.env)).all (λx=>x.1.isSome)
   && decide ((e::es).length+([]:List Keyword).length+(if([]:List Keyword).isEmpty then 0 else 1)<30))=true:=by rfl)
  (dr:(vE.endLine==Zi.line)=true:=by rfl) (hs:starEach (e::es) X.env=(false,eval e X.env)::starEach es X.env:=by rfl) (hplain:(backTo Zi (starEach es X.env)).any (·.1)=false:=by rfl):
  PE X (.Call (.Attribute o name vE) (e::es) [] Zi) (tBM X.K T r to t):=by
 intro pins s σ H Q I h;refine wpAny_Call_method_late dv Bb dr rfl (thn (ho pins s σ H _ I h) λv s1 ⟨x,H1,I1,r1,ty,q1⟩=>?_);obtain⟨h1,h2⟩:=Fy I1 r1 ty;refine⟨T,id,pa,slot,hty,h1,h2,?_⟩;have hA:=ha Zi pins s1 σ H1 _ I1 q1;rw[hs]at hA ⊢;refine a1L (by show(false||(backTo Zi (starEach es X.env)).any (·.1))=false;rw[hplain]<;>rfl) (a1Z ?_);exact thn hA λus s2 ⟨vs,H2,I2,r2,q2⟩=>hm pins s2 σ H2 x vs v us Q I2 r1 r2 q2
end
def MtM(X:Cx)(id:String)(r:V->List V->Hp->VK->Prop):Prop:=
 ∀(pins:Oa)(s:Oe)(σ:St)(H:Hp)(x:V)(xs:Oi)(v:Value) (us:Og) (Q:VK),Inv X pins σ H s->RelV x v->Vals xs us->r x xs H Q->
  wpAny (Ph X) X.A (call (.builtin id) (v::us)) (EP X pins σ Q) X.xe s
def Vals.one:∀{x:V}{us:Og},Vals [x] us->∃u,us=[u]/\RelV x u
 |_,_,.cons r .nil=>⟨_,rfl,r⟩
def Vals.rep{xs:Oi}{us:Og}(h:Vals xs us):∀k:Nat,Vals (List.replicate k xs).flatten (List.replicate k us).flatten
 |0=>.nil
 |k+1=>by rw[a0D,a0D,a00,a00];exact Vals.append h (Vals.rep h k)
def foldl_rep(its:Og):∀(k:Nat)(acc:Og),
  List.foldl (λx1 x2=>x1++x2) acc.toArray (List.replicate k its.toArray)=(acc++(List.replicate k its).flatten).toArray
 |0,acc=>by simp
 |k+1,acc=>by
  have e:acc.toArray++its.toArray=(acc++its).toArray:=by simp
  have e2:(acc++its)++(List.replicate k its).flatten=acc++(List.replicate (k+1) its).flatten:=by rw[a0D,a00,a0m]
  rw[<- e2,<- foldl_rep its k (acc++its),<- e,a0D,a0W]
def Inv.NG{its its':Og}{n:Nat}{f:Array Value->Array Value}{t':Nat}(I:Inv X pins σ H s)(hH:H l=some (.lst xs))
  (e:s.heap.get? l=some { cls:=.type "list",data:=.seq its.toArray n }) (hf:f its.toArray=its'.toArray) (hv:Vals ys its') (hz:ys.length<=sizeLine):
  Inv X pins σ (upd H l (.lst ys)) { s with heap:=s.heap.update l (Obj.mapSeq f),toks:=t' }:=by
 have q:=PySem.IsL.update e f;rw[hf]at q;refine I.write (x:=l) (e:=l) (by rw[hH];exact trivial) (.inl rfl) (λb' u hb hu=>(S7 s.heap (Obj.mapSeq f) (Ne.symm hb)).trans hu) ⟨_,q⟩ ?_;exact⟨hz,its',_,hv,q⟩
def Inv.Lm(I:Inv X pins σ H s)(hv:Vals ys its)(hz:ys.length<=sizeLine):
  Inv X pins σ (upd H s.heap.objs.size (.lst ys)) { s with heap:=s.heap.push { cls:=.type "list",data:=.seq its.toArray },toks:=t' }:=
 I.laid (λ_ _ q=>v4 _ q) (O2 _) ⟨hz,its,0,hv,P2 _ rfl⟩
def Inv.fresh(I:Inv X pins σ H s):H s.heap.objs.size=none:=I.hok.fresh (O2 _)
def Inv.Iy(I:Inv X pins σ H s)(hH:H l=some (.lst xs)):xs.length<=sizeLine/\∃(its:Og)(n:Nat),Vals xs its/\xs.length=its.length/\s.heap.get? l=some { cls:=.type "list",data:=.seq its.toArray n }:=by obtain⟨z,its,n,r,e⟩:=I.hok l _ hH;exact⟨z,its,n,r,r.length,e⟩
def uX(h:n<=sizeLine):Builtin.List.listTooLong n=false:=by unfold Builtin.List.listTooLong;exact O6 (by omega)
section
variable {X:Cx}
def CK:V->List V->Hp->VK->Prop:=λx vs H Q=>∃l xs y,x=.ref l/\vs=[y]/\H l=some (.lst xs)/\xs.length<sizeLine/\Q .non (upd H l (.lst (xs++[y])))
def dR:MtM X "list.append" CK:=by intro pins s σ H x vs v us Q I rx rv h;obtain⟨l,xs,y,rfl,rfl,hH,hz,q⟩:=h;cases rx;obtain⟨u,rfl,ru⟩:=rv.one;obtain⟨z,its,n,r,hl,e⟩:=I.Iy hH;refine a2q F.slot_list_append ⟨_,e,rfl⟩ F.entry_list_append (F.args_list_append_2 _ _) (PySem.list_append l its.toArray n u (by rw[P9];omega)) ⟨e,?_⟩;refine⟨.non,_,I.NG (its':=its++[u]) hH e (by simp) (r.append (.cons ru .nil)) ?_,rfl,q⟩;rw[O9,a0F];omega
def MP:R2:=λx y H Q=>∃l b xs zs,x=.ref l/\y=.ref b/\H l=some (.lst xs)/\H b=some (.lst zs)/\xs.length+zs.length<=sizeLine/\∀p,H p=none->Q (.ref p) (upd H p (.lst (xs++zs)))
def Bl:OpR X (binaryOp .Add) MP:=by
 intro pins s σ H x y v u Q I rx ry h;obtain⟨l,b,xs,zs,rfl,rfl,hH,hB,hz,q⟩:=h;cases rx;cases ry;obtain⟨z,its,n,r,hl,e⟩:=I.Iy hH;obtain⟨z2,its2,n2,r2,hl2,e2⟩:=I.Iy hB;refine PySem.P.add_list e e2 ?_ (by rw[P9,P9];omega);have ea:its.toArray++its2.toArray=(its++its2).toArray:=by simp
 rw[ea];exact⟨.ref _,_,I.Lm (t':=s.toks) (r.append r2) (by rw[O9];omega),rfl,q _ I.fresh⟩
def MQ:R2:=λx y H Q=>∃l k xs,x=.ref l/\y=.int k/\H l=some (.lst xs)/\-(2 ^ 63)<=k/\k<2 ^ 63/\xs.length*k.toNat<=sizeLine/\
 ∀p,H p=none->Q (.ref p) (upd H p (.lst (List.replicate k.toNat xs).flatten))
def len_rep{α:Type}(xs:List α)(k:Nat):(List.replicate k xs).flatten.length=k*xs.length:=by
 induction k with
 |zero=>simp
 |succ k ih=>rw[a0D,a00,O9,ih,Nat.succ_mul,Nat.add_comm]
def Fz:OpR X (binaryOp .Mult) MQ:=by
 intro pins s σ H x y v u Q I rx ry h;obtain⟨l,k,xs,rfl,rfl,hH,h1,h2,hz,q⟩:=h;cases rx;obtain⟨t,rfl⟩:=ry;obtain⟨z,its,n,r,hl,e⟩:=I.Iy hH;have hlen:its.toArray.size*k.toNat<=sizeLine:=by rw[P9,<- hl];exact hz
 have hcap:¬its.toArray.size*k.toNat>(2 ^ 63-1) / 8:=by
  have:(sizeLine:Nat)<=(2 ^ 63-1) / 8:=by decide
  omega
 have hfit:¬(!Builtin.List.listFitsIndex k)=true:=by rw[fitsIndex_both h1 h2];exact P5
 have hlong:¬Builtin.List.listTooLong (its.toArray.size*k.toNat)=true:=by rw[uX hlen];exact P5
 have hnew:List.foldl (λx1 x2=>x1++x2) #[] (List.replicate (if its.toArray.isEmpty=true then 0 else k.toNat) its.toArray)=(List.replicate k.toNat its).flatten.toArray:=by
  have f0:∀m:Nat,List.foldl (λx1 x2=>x1++x2) #[] (List.replicate m its.toArray)=(List.replicate m its).flatten.toArray:=λm=>by have:=foldl_rep its m [];rw[a1v]at this;exact this
  rw[f0];cases its with
  |nil=>simp
  |cons a r'=>rw[if_neg (by simp)]
 refine wpAny_binaryOp_repeat_ref (T:="list") (U:="int") (by decide) ⟨_,e,rfl⟩ (λs'=>typeIs_int s' k t) noFill_list_mul F.fills_int_mul F.slot_int_rmul repeat_list F.slot_int_index.lookup
  (a2q F.slot_int_rmul (typeIs_int s k t) F.entry_int_rmul (F.args_int_rmul_2 _ _) (int___rmul___int_list k t l its.toArray n)
   ⟨e,rfl,⟨_,e,rfl⟩,a2q F.slot_list_mul ⟨_,e,rfl⟩ F.entry_list_mul (F.args_list_mul_2 _ _) (AutoListH.list___mul___list_int_3 l its.toArray n k t hfit hcap hlong) ⟨e,?_⟩⟩)
 rw[hnew];exact⟨.ref _,_,I.Lm (t':=s.toks) (r.rep k.toNat) (by rw[len_rep,Nat.mul_comm];exact hz),rfl,q _ I.fresh⟩
end
section
variable {prog:Ot}{w:Ox}{A:Oy}{E:Oc}{s:Oe}
end
section
variable {X:Cx}
end
section
variable {κ:Type}[DecidableEq κ]
def UZ(kvs:List (κ×V))(k:κ):Option V:=(kvs.find? λkv=>decide (kv.1=k)).map (·.2)
def putK(kvs:List (κ×V))(k:κ)(v:V):List (κ×V):=
 if(kvs.any λkv=>decide (kv.1=k))=true then kvs.map (λkv=>if kv.1=k then(kv.1,v)else kv)else kvs++[(k,v)]
def bS{p:κ×V}{r:List (κ×V)}{k:κ}(e:p.1=k):UZ (p::r) k=some p.2:=by simp[UZ,List.find?_cons,e]
def bV{p:κ×V}{r:List (κ×V)}{k:κ}(e:¬p.1=k):UZ (p::r) k=UZ r k:=by simp[UZ,List.find?_cons,e]
def iZ(k:κ):∀kvs:List (κ×V),(kvs.any λkv=>decide (kv.1=k))=(UZ kvs k).isSome
 |[]=>rfl
 |p::r=>by
  rw[a0p];by_cases e:p.1=k
  .simp only[bS e,decide_eq_true e,Bool.true_or,Option.isSome_some]
  .rw[bV e,O6 e,Bool.false_or];exact iZ k r
def KA(kvs:List (κ×V))(k:κ)(v:V):(putK kvs k v).length<=kvs.length+1:=by
 unfold putK;split
 .rw[u8];omega
 .rw[O9,N9,a0X];omega
def WN.QL(r:WN o u):o.isSome=u.isSome:=by
 cases o with
 |none=>cases u with
  |none=>rfl
  |some _=>exact(show False from r).elim
 |some _=>cases u with
  |none=>exact(show False from r).elim
  |some _=>rfl
def WN.getD(r:WN o u)(rd:RelV d d'):RelV (o.getD d) (u.getD d'):=by
 cases o with
 |none=>cases u with
  |none=>exact rd
  |some _=>exact(show False from r).elim
 |some _=>cases u with
  |none=>exact(show False from r).elim
  |some _=>exact r
def KV.val{kvs:List (κ×V)}{vs:List (κ×Value)}(r:KV kvs vs)(k:κ):WN (UZ kvs k) (valueAt vs k):=by
 unfold KV at r
 induction r with
 |nil=>exact True.intro
 |@cons p q ps qs h t ih=>
  obtain⟨h1,h2⟩:=h;by_cases e:p.1=k
  .have e':q.1=k:=h1.symm.trans e;have b:valueAt (q::qs) k=some q.2:=by simp[valueAt,List.find?_cons,e']
   rw[bS e,b];exact h2
  .have e':¬q.1=k:=λz=>e (h1.trans z);have b:valueAt (q::qs) k=valueAt qs k:=by simp[valueAt,List.find?_cons,e']
   rw[bV e,b];exact ih
def KV.any{kvs:List (κ×V)}{vs:List (κ×Value)}(r:KV kvs vs)(k:κ):(kvs.any λkv=>decide (kv.1=k))=vs.any λkv=>decide (kv.1=k):=by
 unfold KV at r
 induction r with
 |nil=>rfl
 |cons h t ih=>rw[a0p,a0p,ih,h.1]
def KV.Ln{kvs:List (κ×V)}{vs:List (κ×Value)}(r:KV kvs vs)(k:κ)(ry:RelV y u):
  KV (kvs.map λkv=>if kv.1=k then(kv.1,y)else kv) (vs.map λkv=>if kv.1=k then(kv.1,u)else kv):=by
 unfold KV at r ⊢
 induction r with
 |nil=>exact .nil
 |@cons p q ps qs h t ih=>
  rw[O8,O8];refine .cons ?_ ih;obtain⟨h1,h2⟩:=h;by_cases e:p.1=k
  .rw[if_pos e,if_pos (h1.symm.trans e)];exact⟨h1,ry⟩
  .rw[if_neg e,if_neg (λz=>e (h1.trans z))];exact⟨h1,h2⟩
def KV.put{kvs:List (κ×V)}{vs:List (κ×Value)}(r:KV kvs vs)(k:κ)(ry:RelV y u):KV (putK kvs k y) (stored vs k u):=by
 unfold putK stored;rw[r.any k];by_cases e:(vs.any λkv=>decide (kv.1=k))=true
 .rw[if_pos e,if_pos e];exact r.Ln k ry
 .rw[if_neg e,if_neg e];exact Paired.snoc r ⟨rfl,ry⟩
def KV.length{kvs:List (κ×V)}{vs:List (κ×Value)}(r:KV kvs vs):kvs.length=vs.length:=a09 r
end
def bW(r:RelV (kV k) u):(yY P w).is k u=true:=by
 cases k with
 |inl i=>obtain⟨t,e⟩:=(show ∃t,u=Value.int i t from r);subst e;exact gp P w i t
 |inr x=>obtain⟨t,e⟩:=(show ∃t,u=Value.str x t from r);subst e;exact gq P w x t
def dU{P:Ot}{w:Ox}:∀{ks:OR}{us:Og},Vals (ks.map kV) us->ItemsAre (yY P w) ks us
 |[],_,r=>by rw[a2x]at r;cases r;exact .nil
 |k::ks,_,r=>by
  rw[O8]at r;cases r with
  |cons h t=>exact .cons (bW h) (dU t)
abbrev KT(H:Hp):List (List Key×V)->List (List Key×Addr×Value)->Prop:=Paired λp q=>p.1=q.1/\H q.2.1=some (.tup (p.1.map kV))/\RelV p.2 q.2.2
def KT.val(r:KT H kvs xs)(k:OR):WN (UZ kvs k) ((atKey xs k).map (·.2)):=by
 induction r with
 |nil=>exact True.intro
 |@cons p q ps qs h t ih=>
  obtain⟨h1,_,h2⟩:=h;by_cases e:p.1=k
  .have e':q.1=k:=h1.symm.trans e;have b:atKey (q::qs) k=some q.2:=by simp[atKey,List.find?_cons,e']
   rw[bS e,b];exact h2
  .have e':¬q.1=k:=λz=>e (h1.trans z);have b:atKey (q::qs) k=atKey qs k:=by simp[atKey,List.find?_cons,e']
   rw[bV e,b];exact ih
def KT.Ln(r:KT H kvs xs)(k:OR)(ry:RelV y u):
  KT H (kvs.map λkv=>if kv.1=k then(kv.1,y)else kv) (xs.map (putAt k u)):=by
 induction r with
 |nil=>exact .nil
 |@cons p q ps qs h t ih=>
  rw[O8,O8];refine .cons ?_ ih;obtain⟨h1,h2,h3⟩:=h;unfold putAt;by_cases e:p.1=k
  .rw[if_pos e,if_pos (h1.symm.trans e)];exact⟨h1,h2,ry⟩
  .rw[if_neg e,if_neg (λz=>e (h1.trans z))];exact⟨h1,h2,h3⟩
def KT.put(r:KT H kvs xs)(k:OR)(hb:H b=some (.tup (k.map kV)))(ry:RelV y u):
  KT H (putK kvs k y) (storedH xs k b u):=by
 have e:(kvs.any λkv=>decide (kv.1=k))=(atKey xs k).isSome:=by rw[iZ,(r.val k).QL,a1g]
 unfold putK storedH;rw[e];by_cases q:(atKey xs k).isSome=true
 .rw[if_pos q,if_pos q];exact r.Ln k ry
 .rw[if_neg q,if_neg q];exact Paired.snoc r ⟨rfl,hb,ry⟩
def KT.keeps(r:KT H kvs xs)(ht:∀b ys,H b=some (.tup ys)->H' b=some (.tup ys)):KT H' kvs xs:=
 Paired.IW r λ_ _ z=>⟨z.1,ht _ _ z.2.1,z.2.2⟩
def FA(ok:HOk P w H h)(e:Rd H a u):qE P w H h a u:=e.ok ok
def JM(ok:HOk P w H h)(e:Rd H a (.dK kvs)):kvs.length<=sizeLine/\(a==sysModules)=false/\∃vs,KV kvs vs/\h.DictOf (yY P w) a vs:=
 show qE P w H h a (.dK kvs)from FA ok e
def FC(ok:HOk P w H h)(e:H a=some (.dK kvs)):kvs.length<=sizeLine/\(a==sysModules)=false/\∃vs,KV kvs vs/\h.DictOf (yY P w) a vs:=JM ok (.inl e)
def Xt(ok:HOk P w H h)(e:H a=some (.tup (ks.map kV))):(tupleKind (yY P w)).is h ks a:=by obtain⟨_,its,r,o,h1,h2,n,h3⟩:=(show qE P w H h a (.tup (ks.map kV))from ok a _ e);exact⟨o,its.toArray,n,h1,h2,h3,by simpa using dU r⟩
def dW(ok:HOk P w H h)(e:Rd H a (.dT kvs)):kvs.length<=sizeLine/\(a==sysModules)=false/\
  ∃xs,KT H kvs xs/\h.DictOfH (tupleKind (yY P w)) a xs:=by
 obtain⟨z,y,xs,r,o,es,ep,h1,h2,h3,h4,h5⟩:=(show qE P w H h a (.dT kvs)from FA ok e);refine⟨z,y,xs,r,o,es,ep,h1,h2,h3,h4,λx hx=>?_,h5⟩;have all:∀{l:OZ}{m:List (List Key×Addr×Value)},KT H l m->∀x∈m,(tupleKind (yY P w)).is h x.1 x.2.1:=by
  intro l m q
  induction q with
  |nil=>intro x hx;exact nomatch hx
  |@cons p q ps qs hq t ih=>
   intro x hx;rcases P8.mp hx with e|hx
   .subst e;exact Xt ok (by rw[<- hq.1];exact hq.2.1)
   .exact ih x hx
 exact all r x hx
def Lo(ok:HOk P w H h)(e:H a=some (.dT kvs)):kvs.length<=sizeLine/\(a==sysModules)=false/\
  ∃xs,KT H kvs xs/\h.DictOfH (tupleKind (yY P w)) a xs:=dW ok (.inl e)
def i4(H:Hp)(a:Addr)(y:V)(r:Option V):Prop:=
 (∃kvs k,Rd H a (.dK kvs)/\y=kV k/\r=UZ kvs k)\/∃kvs k b,Rd H a (.dT kvs)/\y=.ref b/\H b=some (.tup (k.map kV))/\r=UZ kvs k
def uY(H:Hp)(a:Addr)(y v:V)(H':Hp):Prop:=
 (∃kvs k,H a=some (.dK kvs)/\y=kV k/\kvs.length<sizeLine/\H'=upd H a (.dK (putK kvs k v)))\/
 ∃kvs k b,H a=some (.dT kvs)/\y=.ref b/\H b=some (.tup (k.map kV))/\kvs.length<sizeLine/\H'=upd H a (.dT (putK kvs k v))
def uY.k{H:Hp}{a:Addr}{kvs:Oo}{k:Key}{v:V}(e:H a=some (.dK kvs))(hl:kvs.length<sizeLine):uY H a (kV k) v (upd H a (.dK (putK kvs k v))):=.inl ⟨kvs,k,e,rfl,hl,rfl⟩
def uY.t{H:Hp}{a b:Addr}{kvs:OZ}{k:OR}{v:V}(e:H a=some (.dT kvs))(eb:H b=some (.tup (k.map kV)))(hl:kvs.length<sizeLine):
  uY H a (.ref b) v (upd H a (.dT (putK kvs k v))):=.inr ⟨kvs,k,b,e,rfl,eb,hl,rfl⟩
def Inv.big(I:Inv X pins σ H s):sysModules<s.heap.objs.size:=by have h:mainGlobals<s.heap.objs.size:=(I.mod.glob.keeps I.bk).lt;exact a10 (by decide) h
def pq(hu:A.units+1<cLine)(I:Inv X pins σ H s)(g:i4 H a y (some v))(ry:RelV y u)(h:∀w' s',Inv X pins σ H s'->RelV v w'->Q w' s'):
  wpAny (Ph X) A (getItem (.ref a) u) Q E s:=by
 rcases g with⟨kvs,k,e,ey,l⟩|⟨kvs,k,b,e,ey,eb,l⟩
 .subst ey;obtain⟨z,hd,vs,rel,dd⟩:=JM I.hok e;obtain⟨w',hw,rw'⟩:=WN.some_of (v:=v) (o:=valueAt vs k) (by rw[l];exact rel.val k);exact wpAny_getItem_of (bW ry) dd.mapOf hw (h w' _ (I.tok _) rw')
 .subst ey;cases(show u=Value.ref b from ry);obtain⟨z,hd,xs,rel,dd⟩:=dW I.hok e;obtain⟨w',hw,rw'⟩:=WN.some_of (v:=v) (o:=(atKey xs k).map (·.2)) (by rw[l];exact rel.val k);obtain⟨p,hp,hp2⟩:=N8.mp hw;refine wpAny_getItem_heap (a0R hu) (Xt I.hok eb) dd hp ?_;rw[hp2];exact h w' _ (I.tok _) rw'
def NH(hu:A.units+1<cLine)(I:Inv X pins σ H s)(g:i4 H a y o)(ry:RelV y u)(h:∀s',Inv X pins σ H s'->Q (.bool o.isSome) s'):
  wpAny (Ph X) A (compareOp .In u (.ref a)) Q E s:=by
 rcases g with⟨kvs,k,e,ey,l⟩|⟨kvs,k,b,e,ey,eb,l⟩
 .subst ey;obtain⟨z,hd,vs,rel,dd⟩:=JM I.hok e;refine wpAny_in_of (bW ry) hd dd.mapOf ?_;rw[<- (rel.val k).QL,<- l];exact h _ (I.tok _)
 .subst ey;cases(show u=Value.ref b from ry);obtain⟨z,hd,xs,rel,dd⟩:=dW I.hok e;refine wpAny_in_heap (a0R hu) (Xt I.hok eb) hd dd ?_;have q:=(rel.val k).QL;rw[a1g]at q;rw[<- q,<- l];exact h _ (I.tok _)
def CL(hu:A.units+1<cLine)(I:Inv X pins σ H s)(g:i4 H a y o)(ry:RelV y u)(h:∀s',Inv X pins σ H s'->Q (.bool (!o.isSome)) s'):
  wpAny (Ph X) A (compareOp .NotIn u (.ref a)) Q E s:=by
 rcases g with⟨kvs,k,e,ey,l⟩|⟨kvs,k,b,e,ey,eb,l⟩
 .subst ey;obtain⟨z,hd,vs,rel,dd⟩:=JM I.hok e;refine wpAny_notIn_of (bW ry) hd dd.mapOf ?_;rw[<- (rel.val k).QL,<- l];exact h _ (I.tok _)
 .subst ey;cases(show u=Value.ref b from ry);obtain⟨z,hd,xs,rel,dd⟩:=dW I.hok e;refine wpAny_notIn_heap (a0R hu) (Xt I.hok eb) hd dd ?_;have q:=(rel.val k).QL;rw[a1g]at q;rw[<- q,<- l];exact h _ (I.tok _)
def gD(I:Inv X pins σ H s)(mu:Mut (H a))(hs:Heap.SameBut a s.heap h')(he:∃q,h'.get? a=some q)(new:qE X.prog X.w (upd H a ob) h' a ob):
  Inv X pins σ (upd H a ob) { s with heap:=h',toks:=t' }:=
 I.write (x:=a) (e:=a) mu (.inl rfl) (λb q hb z=>(hs.2 b hb).trans z) he new
def i5(z:kvs.length<=sizeLine)(hd:(a==sysModules)=false)(rel:KV kvs vs)(dd:h'.DictOf (yY P w) a vs):
  qE P w H' h' a (.dK kvs):=⟨z,hd,vs,rel,dd⟩
def pw(hu:A.units+1<cLine)(I:Inv X pins σ H s)(g:uY H a y v H')(ry:RelV y u)(rv:RelV v r)(h:∀s',Inv X pins σ H' s'->Q () s'):
  wpAny (Ph X) A (setItem (.ref a) u r) Q E s:=by
 rcases g with⟨kvs,k,e,ey,l,eH⟩|⟨kvs,k,b,e,ey,eb,l,eH⟩
 .subst ey eH;obtain⟨z,hd,vs,rel,dd⟩:=FC I.hok e;have hz:vs.length<=sizeLine:=by rw[<- rel.length];exact z
  have hl:(putK kvs k v).length<=sizeLine:=by have:=KA kvs k v;omega
  refine wpAny_setItem_pairs (hsz:=hz) (bW ry) dd λh' dd' hs=>h _ ?_;have he:∃q,h'.get? a=some q:=let⟨q,_,_,hq,_⟩:=dd';⟨q,hq⟩
  exact gD I (by rw[e];exact True.intro) hs he (i5 hl hd (rel.put k rv) dd')
 .subst ey eH;cases(show u=Value.ref b from ry);obtain⟨z,hd,xs,rel,dd⟩:=Lo I.hok e;have hz:xs.length<=sizeLine:=by rw[<- a09 rel];exact z
  have hl:(putK kvs k v).length<=sizeLine:=by have:=KA kvs k v;omega
  refine wpAny_setItem_heap (hsz:=hz) (a0R hu) (Xt I.hok eb) dd λh' dd' hs=>h _ ?_;obtain⟨q,es,ep,hq,h2,h3,h4,_,h5⟩:=dd';refine gD I (by rw[e];exact True.intro) hs ⟨q,hq⟩ ⟨hl,hd,_,(rel.put k eb rv).keeps λc ys ec=>?_,q,es,ep,hq,h2,h3,h4,h5⟩;rw[zg (IV ec e (λz=>nomatch z))];exact ec
def Lp(I:Inv X pins σ H s)(e:Rd H a (.dK kvs))(h:∀t s',Inv X pins σ H s'->Q (.int kvs.length t) s'):wpAny (Ph X) A (call (.builtin "len") [.ref a]) Q E s:=by obtain⟨z,hd,vs,rel,dd⟩:=JM I.hok e;refine call_len_dict hd dd (by rw[<- rel.length];rw[a0l]at z;omega) ?_;rw[<- rel.length];exact h _ _ (I.tok _)
def gE(I:Inv X pins σ H s)(g:i4 H a y o):s.TypeIs (.ref a) "dict":=by
 rcases g with⟨kvs,k,e,_,_⟩|⟨kvs,k,b,e,_,_,_⟩
 .obtain⟨_,_,vs,_,dd⟩:=JM I.hok e;exact dd.typeIs
 .obtain⟨_,_,xs,_,dd⟩:=dW I.hok e;exact dd.typeIs
def Lq(td ty tv:TE):TS:=λD σ H=>tv σ H λv H1=>td σ H1 λx H2=>ty σ H2 λy H3=>∃a H4,x=.ref a/\uY H3 a y v H4/\D.nx σ H4
def gG(hu:X.A.units+1<cLine)(ho:PE X o td)(hi:PE X i ty)(hv:PE X value tv)(hs:swapsWith value (some (.Subscript o i pos')) pos.line X.env=pure false):
  PS X (.Assign [.Subscript o i pos'] value pos) (Lq td ty tv):=by
 intro pins s σ H D I h;refine wpAny_Assign_Subscript (thn (hv pins s σ H _ I h) λr s1 ⟨v,H1,I1,rv,q1⟩=>thn (ho pins s1 σ H1 _ I1 q1) λu s2 ⟨x,H2,I2,rx,q2⟩=>thn (hi pins s2 σ H2 _ I2 q2) λiv s3 ⟨y,H3,I3,ry,a,H4,ex,g,q3⟩=>?_) hs;subst ex;obtain rfl:u=Value.ref a:=rx;exact pw hu I3 g ry rv λs4 I4=>⟨σ,H4,I4,q3⟩
def i6(h:Heap)(hb:sysModules<h.objs.size):qE P w H (h.push { cls:=.type "dict",data:=.dict #[] }) h.objs.size (.dK []):=
 ⟨T6 _,a0d.mpr (Ne.symm (P1 hb)),[],.nil,Heap.DictOf.new h⟩
def uZ(h:Heap)(hb:sysModules<h.objs.size):qE P w H (h.push { cls:=.type "dict",data:=.dict #[] }) h.objs.size (.dT []):=
 ⟨T6 _,a0d.mpr (Ne.symm (P1 hb)),[],.nil,_,#[],0,P2 _ rfl,⟨rfl,rfl,rfl⟩,rfl,rfl,a2T⟩
def FD:TE:=λ_ H Q=>∀p,H p=none->Q (.ref p) (upd H p (.dK []))
def FE:TE:=λ_ H Q=>∀p,H p=none->Q (.ref p) (upd H p (.dT []))
def u6:PE X (.Dict [] [] pos) FD:=λpins s σ H Q I h=>
 wpAny_Dict_empty ⟨.ref s.heap.objs.size,_,I.laid (a:=s.heap.objs.size) (o:=.dK []) (t':=s.toks) (λ_ _ q=>v4 _ q) (O2 _) (i6 s.heap I.big),rfl,h _ (I.hok.fresh (O2 _))⟩
def u7:PE X (.Dict [] [] pos) FE:=λpins s σ H Q I h=>
 wpAny_Dict_empty ⟨.ref s.heap.objs.size,_,I.laid (a:=s.heap.objs.size) (o:=.dT []) (t':=s.toks) (λ_ _ q=>v4 _ q) (O2 _) (uZ s.heap I.big),rfl,h _ (I.hok.fresh (O2 _))⟩
def px:List (TE×TE)->St->Hp->(List (V×V)->Hp->Prop)->Prop
 |[],_,H,Q=>Q [] H
 | (tk,tv)::r,σ,H,Q=>tk σ H λx H1=>tv σ H1 λy H2=>px r σ H2 λps H3=>Q ((x,y)::ps) H3
abbrev VV:List (V×V)->List (Value×Value)->Prop:=Paired λp q=>RelV p.1 q.1/\RelV p.2 q.2
def PPs(X:Cx)(pos:Pos)(keys:List (Option Expr))(values:Om)(trs:List (TE×TE)):Prop:=
 ∀(pins:Oa)(s:Oe)(σ:St)(H:Hp)(Q:List (V×V)->Hp->Prop),Inv X pins σ H s->px trs σ H Q->
  wpAny (Ph X) X.A (evalPairs (pairTrees keys values X.env pos)) (λvs s'=>∃ps H',Inv X pins σ H' s'/\VV ps vs/\Q ps H') X.xe s
def CM:PPs X pos [] [] []:=λpins s σ H Q I h=>pairTrees_nil_walk ⟨[],H,I,.nil,h⟩
def u9(hk:PE X k tk)(hv:PE X v tv)(hr:PPs X pos ks vs trs):
  PPs X pos (some k::ks) (v::vs) ((tk,tv)::trs):=λpins s σ H Q I h=>
 pairTrees_cons_walk (thn (hk pins s σ H _ I h) λu s1 ⟨x,H1,I1,rx,q1⟩=>thn (hv pins s1 σ H1 _ I1 q1) λw2 s2 ⟨y,H2,I2,ry,q2⟩=>
  thn (hr pins s2 σ H2 _ I2 q2) λws s3 ⟨ps,H3,I3,rel,q3⟩=>⟨(x,y)::ps,H3,I3,.cons ⟨rx,ry⟩ rel,q3⟩)
def dX(kvs more:Oo):List (Key×V):=more.foldl (λacc kv=>putK acc kv.1 kv.2) kvs
def KV.merge:∀{more:Oo}{rs:OT}{kvs:Oo}{vs:OT},KV more rs->KV kvs vs->KV (dX kvs more) (merged vs rs):=by
 intro more rs kvs vs r;unfold KV at r
 induction r generalizing kvs vs with
 |nil=>intro q;exact q
 |@cons p q ps qs h t ih=>
  intro r0;have e:KV (putK kvs p.1 p.2) (stored vs q.1 q.2):=by have:=r0.put p.1 h.2;rw[<- h.1];exact this
  exact ih e
def K9:∀(more kvs:Oo),(dX kvs more).length<=kvs.length+more.length
 |[],kvs=>by show kvs.length<=kvs.length+0;omega
 |p::r,kvs=>by have h1:=K9 r (putK kvs p.1 p.2);have h2:=KA kvs p.1 p.2;show(dX (putK kvs p.1 p.2) r).length<=_;rw[N9];omega
def aW{P:Ot}{w:Ox}:∀{kvs:Oo}{ws:List (Value×Value)},VV (kvs.map λkv=>(kV kv.1,kv.2)) ws->∃rs,Carries (yY P w) ws rs/\KV kvs rs
 |[],_,r=>by rw[a2x]at r;cases r;exact⟨[],True.intro,.nil⟩
 |p::kvs,_,r=>by
  rw[O8]at r;cases r with
  |@cons a b as bs h t=>obtain⟨rs,c,q⟩:=aW (P:=P) (w:=w) t;obtain⟨b1,b2⟩:=b;exact⟨(p.1,b2)::rs,⟨bW h.1,rfl,c⟩,.cons ⟨rfl,h.2⟩ q⟩
def Lr(trs:List (TE×TE)):TE:=λσ H Q=>∀p,H p=none->px trs σ (upd H p (.dK [])) λps H2=>H2 p=some (.dK [])/\∃kvs:List (Key×V),ps=kvs.map (λkv=>(kV kv.1,kv.2))/\kvs.length<=15/\Q (.ref p) (upd H2 p (.dK (dX [] kvs)))
def CN(h:PPs X pos keys values trs)(hall:keys.all (·.isSome)=true)(hl:keys.length=values.length)(h0:keys≠[])
  (h15:keys.length<=15):PE X (.Dict keys values pos) (Lr trs):=by
 intro pins s σ H Q I q;have hn:=I.hok.fresh (O2 s.heap.objs.size);have I1:=I.laid (a:=s.heap.objs.size) (o:=.dK []) (h':=s.heap.push { cls:=.type "dict",data:=.dict #[] }) (t':=s.toks) (λ_ _ q=>v4 _ q) (O2 _) (i6 s.heap I.big);refine wpAny_Dict_walk (knd:=yY X.prog X.w) hall hl h0 h15 (thn (h pins _ σ _ _ I1 (q _ hn)) λws s2 ⟨ps,H2,I2,rel,e,kvs,ep,lk,q2⟩=>?_);subst ep;obtain⟨rs,c,rk⟩:=aW (P:=X.prog) (w:=X.w) rel;obtain⟨z,hd,vs0,r0,dd⟩:=FC I2.hok e;cases r0;refine⟨rs,c,dd,λh' dd' hs=>⟨.ref s.heap.objs.size,_,?_,rfl,q2⟩⟩;have hz:(dX [] kvs).length<=sizeLine:=by have h1:=K9 kvs [];rw[a0X]at h1;rw[a0l];omega
 have he:∃q,h'.get? s.heap.objs.size=some q:=let⟨q,_,_,hq,_⟩:=dd';⟨q,hq⟩
 exact gD I2 (by rw[e];exact True.intro) hs he (i5 hz hd (rk.merge .nil) dd')
structure M1(X:Cx)(o:Oq)(m:Str)(vE:Pos)(e:Oq)(Zi:Pos):Prop where
 base:attributeBase o m X.env (eval o X.env)=eval o X.env
 few:((backTo Zi (starEach [e] X.env)).all (λx=>!x.1)&&(backToKw Zi (keywordEach [] X.env)).all (λx=>x.1.isSome)
  && decide (([e]:List Expr).length+([]:List Keyword).length+(if([]:List Keyword).isEmpty then 0 else 1)<30))=true
 line:(vE.endLine==Zi.line)=true
 trees:backTo Zi (starEach [e] X.env)=[(false,eval e X.env)]
structure M2(X:Cx)(o:Oq)(m:Str)(vE:Pos)(e f:Oq)(Zi:Pos):Prop where
 base:attributeBase o m X.env (eval o X.env)=eval o X.env
 few:((backTo Zi (starEach [e,f] X.env)).all (λx=>!x.1)&&(backToKw Zi (keywordEach [] X.env)).all (λx=>x.1.isSome)
  && decide (([e,f]:List Expr).length+([]:List Keyword).length+(if([]:List Keyword).isEmpty then 0 else 1)<30))=true
 line:(vE.endLine==Zi.line)=true
 trees:backTo Zi (starEach [e,f] X.env)=[(false,eval e X.env),(false,eval f X.env)]
def IsD(H:Hp)(a:Addr):Prop:=(∃kvs,Rd H a (.dK kvs))\/∃kvs,Rd H a (.dT kvs)
def Bm(I:Inv X pins σ H s)(d:IsD H a):
  s.TypeIs (.ref a) "dict"/\(∀b,Value.ref a=.ref b->∃ob,s.heap.get? b=some ob/\ob.dict=none)/\(a==sysModules)=false:=by
 rcases d with⟨kvs,e⟩|⟨kvs,e⟩
 .obtain⟨_,hd,vs,_,dd⟩:=JM I.hok e;refine⟨dd.typeIs,λb q=>?_,hd⟩;cases q;obtain⟨ob,_,_,h1,h2,_⟩:=dd;exact⟨ob,h1,h2.2.1⟩
 .obtain⟨_,hd,xs,_,dd⟩:=dW I.hok e;refine⟨dd.typeIs,λb q=>?_,hd⟩;cases q;obtain⟨ob,_,_,h1,h2,_⟩:=dd;exact⟨ob,h1,h2.2.1⟩
def FF(hu:A.units+1<cLine)(I:Inv X pins σ H s)(g:i4 H a y o)(ry:RelV y u)(h:∀w' s',Inv X pins σ H s'->RelV (o.getD .non) w'->Q w' s'):
  wpAny (Ph X) A (call (.builtin "dict.get") [.ref a,u]) Q E s:=by
 rcases g with⟨kvs,k,e,ey,l⟩|⟨kvs,k,b,e,ey,eb,l⟩
 .subst ey;obtain⟨z,hd,vs,rel,dd⟩:=JM I.hok e;refine a2y a0G dd.typeIs a1f (a2G _ _) (meets_dict_get (yY X.prog X.w) a (bW ry) hd) ⟨_,dd.mapOf,h _ _ (I.tok _) ?_⟩;rw[l];exact(rel.val k).getD rfl
 .subst ey;cases(show u=Value.ref b from ry);obtain⟨z,hd,xs,rel,dd⟩:=dW I.hok e;refine a2y a0G dd.typeIs a1f (a2G _ _) (meetsH_dict_get (tupleKind (yY X.prog X.w)) a b hd) ⟨a0R hu,k,xs,Xt I.hok eb,dd,h _ _ (I.tok _) ?_⟩;rw[l];exact(rel.val k).getD rfl
def FG(hu:A.units+1<cLine)(I:Inv X pins σ H s)(g:i4 H a y o)(ry:RelV y u)(rd:RelV d r)(h:∀w' s',Inv X pins σ H s'->RelV (o.getD d) w'->Q w' s'):
  wpAny (Ph X) A (call (.builtin "dict.get") [.ref a,u,r]) Q E s:=by
 rcases g with⟨kvs,k,e,ey,l⟩|⟨kvs,k,b,e,ey,eb,l⟩
 .subst ey;obtain⟨z,hd,vs,rel,dd⟩:=JM I.hok e;refine a2y a0G dd.typeIs a1f (a2H _ _ _) (meets_dict_get_default (yY X.prog X.w) a (bW ry) hd r) ⟨_,dd.mapOf,h _ _ (I.tok _) ?_⟩;rw[l];exact(rel.val k).getD rd
 .subst ey;cases(show u=Value.ref b from ry);obtain⟨z,hd,xs,rel,dd⟩:=dW I.hok e;refine a2y a0G dd.typeIs a1f (a2H _ _ _) (meetsH_dict_get_default (tupleKind (yY X.prog X.w)) a b hd r) ⟨a0R hu,k,xs,Xt I.hok eb,dd,h _ _ (I.tok _) ?_⟩;rw[l];exact(rel.val k).getD rd
def FH(td ty:TE):TE:=λσ H Q=>td σ H λx H1=>∃a,x=.ref a/\IsD H1 a/\ty σ H1 λy H2=>∃o,i4 H2 a y o/\Q (o.getD .non) H2
def FI(td ty tx:TE):TE:=λσ H Q=>td σ H λx H1=>∃a,x=.ref a/\IsD H1 a/\ty σ H1 λy H2=>tx σ H2 λz H3=>∃o,i4 H3 a y o/\Q (o.getD z) H3
def u_(hu:X.A.units+1<cLine)(ho:PE X o td)(he:PE X e ty)(m:M1 X o "get" vE e Zi):PE X (.Call (.Attribute o "get" vE) [e] [] Zi) (FH td ty):=by intro pins s σ H Q I h;refine wpAny_Call_method m.base m.few m.line a2I a0G a2U (thn (ho pins s σ H _ I h) λu s1 ⟨x,H1,I1,rx,a,ex,d,q1⟩=>?_);subst ex;obtain rfl:u=Value.ref a:=rx;obtain⟨t1,t2,_⟩:=Bm I1 d;refine⟨t1,t2,?_⟩;rw[m.trees];refine a1L rfl (a1Z (a1x (thn (he pins s1 σ H1 _ I1 q1) λiv s2 ⟨y,H2,I2,ry,ov,g,q2⟩=>a2n ?_)));exact FF hu I2 g ry λw' s3 I3 rw'=>⟨_,H2,I3,rw',q2⟩
def xa(hu:X.A.units+1<cLine)(ho:PE X o td)(he:PE X e ty)(hf:PE X f tx)(m:M2 X o "get" vE e f Zi):PE X (.Call (.Attribute o "get" vE) [e,f] [] Zi) (FI td ty tx):=by
 intro pins s σ H Q I h;refine wpAny_Call_method m.base m.few m.line a2I a0G a2U (thn (ho pins s σ H _ I h) λu s1 ⟨x,H1,I1,rx,a,ex,d,q1⟩=>?_);subst ex;obtain rfl:u=Value.ref a:=rx;obtain⟨t1,t2,_⟩:=Bm I1 d;refine⟨t1,t2,?_⟩;rw[m.trees];refine a1L rfl (a1Z (a1x (thn (he pins s1 σ H1 _ I1 q1) λiv s2 ⟨y,H2,I2,ry,q2⟩=>
  a1x (thn (hf pins s2 σ H2 _ I2 q2) λfv s3 ⟨z,H3,I3,rz,ov,g,q3⟩=>a2n ?_))))
 exact FG hu I3 g ry rz λw' s4 I4 rw'=>⟨_,H3,I4,rw',q3⟩
def xb(I:Inv X pins σ H s)(e:Rd H a (.dK kvs))(h:∀p s',H p=none->Inv X pins σ (upd H p (.dK kvs)) s'->Q (.ref p) s'):wpAny (Ph X) A (call (.type "dict") [.ref a]) Q E s:=by obtain⟨z,hd,vs,rel,dd⟩:=JM I.hok e;refine kt_call_dict hd dd (by rw[<- rel.length];exact z) λh' dd' hs=>?_;refine h _ _ (I.hok.fresh (O2 _)) (I.laid (a:=s.heap.objs.size) (o:=.dK kvs) (t':=s.toks) (λb q hq=>?_) (O2 _) (i5 z (a0d.mpr (Ne.symm (P1 I.big))) rel dd'));exact(hs.2 b (P1 (O5 hq))).trans (v4 _ hq)
section
variable {X:Cx}{pins:Oa}{σ:St}{H:Hp}{s:Oe}{a:Addr}{y:V}{u:Value}{A:Oy}{E:Oc}
end
end L2
namespace Att
open PySem PySem.W PySem.Calls PyProof.Rows
def Xu:∀(ns:OB)(vs:Og),WellAll P h vs (ns.map WData.int)->IntsAre vs ns:=by
 intro ns
 induction ns with
 |nil=>intro vs w;rw[a2x]at w;cases w;exact .nil
 |cons n ns ih=>
  intro vs w;rw[O8]at w;cases w with
  |cons a b=>cases a;exact .cons _ _ (ih _ b)
def pA{l:OpenLaw}{n:Nat}(hn:l.most=some n){P:Params}{h:Heap}{args:List WData}{vals:Og}
  (hpre:l.row.toRowW.claim.pre args=true) (hwl:WellAll P h vals args):
  ∃a vs ns,vals=[Value.ref a]/\args=[WData.list (ns.map WData.int)]/\h.get? a=some { cls:=.type "list",data:=.seq vs.toArray }/\IntsAre vs ns/\ns.length<=n:=by
 have hsh:WShape.hasAll [] args [.list .int]=true:=(pre_splitW hpre).1;have hc:l.pre.holds [] { args:=args }=true:=(pre_splitW hpre).2;obtain⟨d,r,rfl,h1,h2⟩:=hasAllW_cons hsh;obtain rfl:=hasAllW_nil h2;obtain⟨xs,rfl,h3⟩:=hasW_list h1;obtain⟨ns,rfl⟩:=items_int h3;have hlen:ns.length<=n:=by
  unfold OpenLaw.pre at hc;have h4:(WTm.not (.lt (.lit (.int (n:Int))) (.len (.arg 0)))).holds [] { args:=[.list (ns.map .int)] }=true:=by have h4:=(holds_andW hc).1;rw[hn]at h4;exact h4
  have h5:=condW_of h4 (w_not (w_lt w_lit (w_len_list (w_arg rfl))));rw[u8]at h5;refine Nat.le_of_not_lt λq=>?_;have q':(n:Int)<((ns.length:Nat):Int):=by omega
  first
   | (rw[O4 q']at h5;exact absurd h5 (by decide))
   | (simp at h5;omega)
 cases hwl with
 |cons w1 w2=>
  cases w2;cases w1 with
  |list ho hall=>exact⟨_,_,ns,rfl,rfl,ho,Xu ns _ hall,hlen⟩
def pB(l:OpenLaw)(args:List WData):l.row.toRowW.claim.post args (.bool true) args=true:=
 postW_of (r:=l.row.toRowW) (X:=(true==true))
  (show WShape.has [] (.bool true) .bool=true by first|rfl|decide|simp[WShape.has,WShape.arms,WShape.armsAll])
  (show(WTm.eq .res (.lit (.bool true))).value [] { args:=args,res:=some (.bool true),after:=args }=some (.bool (true==true))from w_eq_bool (w_res rfl) w_lit) rfl
def gH{l:OpenLaw}{n:Nat}{q:Ot}{loose:Ob}{XP:(Str->Option Value)->Heap->Prop}{YP:World->Heap->Prop}{d:DefRec}
  (hn:l.most=some n) (hdf:d.params.defaults=[])
  (call:∀(w:Ox)(s₀ s₁:Oe)(mg mb:N_)(fa:Addr)(o:Obj)(pm cd doc:Value)(a:Addr) (vs:Og) (ns:OB),
   Ground q loose [] XP w s₀ mg mb s₁.heap->YP w s₁.heap->
   s₁.heap.get? fa=some o->o.data=.func (docDef d.name d.params d.body d.scope pm cd doc)->s₁.heap.CodeRec cd d.name->mg d.name=some (.ref fa)->
   s₁.heap.get? a=some { cls:=.type "list",data:=.seq vs.toArray }->IntsAre vs ns->ns.length<=n->s₁.gens = #[]->
   codeAny (model l.prog w) callerA (.call (.ref fa) ⟨[.ref a],[]⟩) (λr s'=>r=.ok (.ret (.bool true))/\OldK s₁.heap s'.heap/\s'.os=s₁.os/\AllBare s'.gens) s₁):
  WalkO q loose XP YP l.row.toRowW d [] (λf vs=>PySem.call f vs):=by
 intro w s₀ s₁ mg mb G Y fa o pm cd doc dV kV ho hd hcd hD hmg hg args vals as hpre hlay hrd hwl hlo;obtain rfl:dV=.none:=Dflts.none hD hdf;obtain rfl:kV=.none:=Dflts.noKw hD;obtain⟨a,vs,ns,rfl,rfl,hobj,hints,hlen⟩:=pA hn hpre hwl;refine enter_call (a0P (call w s₀ s₁ mg mb fa o pm cd doc a vs ns G Y ho (fd_plain hd) hcd hmg hobj hints hlen hg) λr s' hq=>?_);obtain⟨rfl,h2,h3,h4⟩:=hq;exact⟨.inl ⟨.bool true,.bool true,[],rfl,λ_=>rfl,.bool true,pB l _,λ_=>⟨List.Pairwise.nil,λ_ hm=>(nomatch hm)⟩⟩,h2,h3,h4⟩
section
variable {prog:Ot}{w:Ox}{A:Oy}{E:Oc}{s:Oe}{K:OF}
end
end Att
namespace L2
open PySem PySem.Spec PyProof.Rows
def dY:∀{vs:Og}{ns:OB},IntsAre vs ns->Vals (ns.map V.int) vs
 |_,_,.nil=>.nil
 |_,_,.cons n t h=>.cons ⟨t,rfl⟩ (dY h)
def Ls(H:Hp):Prop:=∀b,H b=none\/∃o xs,H b=some (.frz o (.lst xs))
def xf{P:Ot}{w:Ox}{K:Oj}{mg mb:N_}{CX:CXT}{k:Nat}{fa a:Addr}{fd:OC}{x:Str}{sp:Sp}{s₁:Oe}{vs:Og}{ns:OB}
  (KX:K.In s₁.heap) (hns:s₁.heap.Ns mainGlobals mg) (hb:s₁.heap.Ns builtinsNs mb) (hbb:∀x:Str,x≠"__name__"->mb x=bootBuiltins x) (hlim:s₁.heap.NoLimit) (hg:s₁.gens = #[])
  (ha:s₁.heap.get? a=some { cls:=.type "list",data:=.seq vs.toArray }) (hi:IntsAre vs ns) (hl:ns.length<=sizeLine) (hr:kY k callerA)
  (F:∀base:Heap,K.In base->base.Ns mainGlobals mg->qO P w K mg base CX k fa fd [x] sp) (hbind:∀(s:Oe)(u:Value),BindsTo s fd ⟨[u],[]⟩ [(x,u)])
  (hsp:∀H:Hp,Ls H->SqL K H a (ns.map V.int)->sp [.ref a] H (λv _=>v=.bl true) λ_ _ _=>False)
  (hCX:∀H e s',CX [] H s₁ (λ_ _ _=>False) e s'->False):
  codeAny (model P w) callerA (.call (.ref fa) ⟨[.ref a],[]⟩) (λr s'=>r=.ok (.ret (.bool true))/\OldK s₁.heap s'.heap/\s'.os=s₁.os/\AllBare s'.gens) s₁:=by
 have rv:=dY hi;have E1:=hi.length
 -- from an abstract heap in which nothing but the script may be tracked
 have core:∀H:Hp,Ls H->SqL K H a (ns.map V.int)->HOk P w H s₁.heap->(∀b,H b≠none->b=a)->(H a≠none->K.lookup a=none)->
   codeAny (model P w) callerA (.call (.ref fa) ⟨[.ref a],[]⟩) (λr s'=>r=.ok (.ret (.bool true))/\OldK s₁.heap s'.heap/\s'.os=s₁.os/\AllBare s'.gens) s₁:=by
  intro H hO hS hok hA hK;have base_of:∀{b:Addr}{o:Obj},s₁.heap.get? b=some o->H b=none->(uL s₁.heap H).get? b=some o:=λe n=>uM e n;have noA:∀{b:Addr}{o:Obj}{es:Array DictEntry}{ep:Nat},s₁.heap.get? b=some o->o.data=.dict es ep->H b=none:=λ{b o es ep} e d=>by
   cases q:H b with
   |none=>rfl
   |some u=>have e':b=a:=hA b (by rw[q];simp);subst e';rw[ha]at e;cases e;have d':Data.seq vs.toArray _=Data.dict es ep:=d;cases d'
  have nsK:∀{b:Addr}{m:N_},s₁.heap.Ns b m->(uL s₁.heap H).Ns b m:=λ{b m} ⟨o,es,ep,e,d,r⟩=>⟨o,es,ep,base_of e (noA e d),d,r⟩;have hKb:K.In (uL s₁.heap H):=λb o e=>base_of (KX b o e) (by
   cases q:H b with
   |none=>rfl
   |some u=>
    have e':b=a:=hA b (by rw[q];simp);subst e';rw[hK (by rw[q];simp)]at e;cases e)
  have hM:Mod K mg (uL s₁.heap H):=⟨hKb,nsK hns,⟨mb,nsK hb,hbb⟩,let⟨mc,h1,h2⟩:=hlim;⟨mc,nsK h1,h2⟩⟩;have e0:o_ P w K mg (uL s₁.heap H) callerA [] s₁ H:=⟨rfl,hM,λb o e=>Ct e,a1X (oN _ _),trivial,λb hb=>absurd (show b∈([]:List Addr)from hb) (by simp),hok,.of_eq hg⟩;refine a0P ((F _ hKb (nsK hns)).run callerA [] s₁ H ⟨[.ref a],[]⟩ [.ref a] [.ref a] _ _ hr e0 (hbind s₁ (.ref a)) (.cons rfl .nil) (hsp H hO hS)) λr s' h=>?_;cases r with
  |error e=>exact(hCX H e s' h).elim
  |ok fl=>
   cases fl with
   |next=>exact False.elim h
   |brk=>exact False.elim h
   |cont=>exact False.elim h
   |ret u=>
    obtain⟨v,H',os,bare,un,hok',r',q⟩:=h;have q':v=.bl true:=q;subst q';obtain rfl:u=Value.bool true:=r';refine⟨rfl,OldK.of_keep λb o e=>?_,os,bare⟩;cases q:H b with
    |none=>exact un.keep b o e q (by intro z;exact absurd (show b∈([]:List Addr)from z) (by simp)) (by simp)
    |some u=>
     rcases hO b with z|⟨ob,xs,z⟩
     .rw[q]at z;cases z
     .have z2:=un.uK b ob _ z;obtain⟨e1,_⟩:=hok b _ z;obtain⟨e2,_⟩:=hok' b _ z2;rw[e]at e1;cases e1;exact e2
 cases hk:K.lookup a with
 |some o=>
  -- the script is one of the module's own objects
  have e:=KX a o hk;rw[ha]at e;cases e;refine core (λ_=>none) (λ_=>.inl rfl) (.inr ⟨_,vs.toArray,_,hk,rfl,rfl,rfl,by rw[P9,E1];exact hl,by simpa using rv⟩) (λb u z=>by have z':(none:Option HO)=some u:=z;cases z') (λb z=>absurd rfl z) λz=>absurd rfl z
 |none=>
  refine core (λb=>if b=a then some (.frz { cls:=.type "list",data:=.seq vs.toArray } (.lst (ns.map V.int)))else none) (λb=>?_) (.inl (.inr ⟨{ cls:=.type "list",data:=.seq vs.toArray },if_pos rfl⟩)) (λb u z=>?_) (λb z=>?_) λ_=>hk
  .by_cases hb:b=a
   .exact .inr ⟨_,_,if_pos hb⟩
   .exact .inl (if_neg hb)
  .by_cases hb:b=a
   .have z':=(if_pos hb).symm.trans z;cases z';subst hb;exact⟨ha,by rw[u8];exact hl,vs,_,rv,ha⟩
   .have z':=(if_neg hb).symm.trans z;cases z'
  .by_cases hb:b=a
   .exact hb
   .exact absurd (if_neg hb) z
def CO{l:PySem.W.OpenLaw}{n k:Nat}{q:Ot}{loose:Ob}{XP:(Str->Option Value)->Heap->Prop}{YP:World->Heap->Prop}{d:DefRec}{K:Params->PySem.W.Frag}{CX:World->CXT}{sp:World->Sp}{x:Str}
  (hn:l.most=some n) (hn2:n<=sizeLine) (hdf:d.params.defaults=[]) (hr:kY k callerA)
  (hY:∀(w:Ox)(h:Heap),YP w h->(K w.params).In h)
  (F:∀(w:Ox)(mg:N_)(fa:Addr)(h:Heap),(K w.params).In h->h.Ns mainGlobals mg->mg d.name=some (.ref fa)->
   ∃fd:FuncData,(∀(s:Oe)(u:Value),BindsTo s fd ⟨[u],[]⟩ [(x,u)])/\
    ∀base:Heap,(K w.params).In base->base.Ns mainGlobals mg->qO l.prog w (K w.params) mg base (CX w) k fa fd [x] (sp w))
  (hsp:∀(w:Ox)(H:Hp)(a:Addr)(ns:OB),ns.length<=n->Ls H->SqL (K w.params) H a (ns.map V.int)->sp w [.ref a] H (λv _=>v=.bl true) λ_ _ _=>False)
  (hCX:∀(w:Ox)(H:Hp)(s:Oe)(e:Value)(s':Oe),CX w [] H s (λ_ _ _=>False) e s'->False):
  PySem.W.WalkO q loose XP YP l.row.toRowW d [] (λf vs=>PySem.call f vs):=by
 refine Att.gH hn hdf λw s₀ s₁ mg mb fa o pm cd doc a vs ns G Y ho hd hcd hmg hobj hints hlen hg=>?_;have KX:=hY w _ Y;obtain⟨fd,hb,hF⟩:=F w mg fa _ KX G.T.g hmg;exact xf KX G.T.g G.T.b G.T.builtins G.T.nolimit hg hobj hints (P7 hlen hn2) hr hF hb (λH hO hS=>hsp w H a ns hlen hO hS) λH e s'=>hCX w H s₁ e s'
def inClass(s:OO)(j:Nat):Stmt:=match s with
 |.ClassDef _ _ _ body _ _ _ _ _ _ _=>body.getD j (.Pass ⟨0,0,0,0⟩)
 |_=>.Pass ⟨0,0,0,0⟩
def Xv(s:OO):Arguments:=match s with
 |.FunctionDef _ a _ _ _ _ _ _ _ _=>a
 |_=>{ posonlyargs:=[],args:=[],vararg:=none,kwonlyargs:=[],kw_defaults:=[],kwarg:=none,defaults:=[] }
def vV(s:OO):List Stmt:=match s with
 |.FunctionDef _ _ b _ _ _ _ _ _ _=>b
 |_=>[]
def zh(s:OO):Scope:=match s with
 |.FunctionDef _ _ _ _ _ _ sc _ _ _=>sc
 |_=>{ kind:=.function,names:=[],isGenerator:=false,isCoroutine:=false }
abbrev E0:XK:=λ_ _ _=>False
structure Fun(K:Oj)(x qual:Str)(st:OO)(f:Addr)(fd:OC):Prop where
 ex:∃(oc:Value)(od:OL)(kV doc pm:Value)(an:OL)(cdv ct:Value)(osl:OI),
  fd=PySem.W.fnOf x qual (Xv st) (vV st) (zh st) .none kV doc pm an cdv ct/\K.lookup f=some ⟨oc,od,.func fd,osl⟩/\PySem.W.codeIn K cdv qual=true
 kp:PySem.W.keepIn K (.ref f)=true
section
variable {P:Ot}{w:Ox}{K:Oj}{mg:N_}{base:Heap}
def Fun.binds{x qual:Str}{st:OO}{f:Addr}{fd:OC}{ps:Ob}(F:Fun K x qual st f fd)
  (h:∀(kV doc pm:Value)(an:OL)(cdv ct:Value)(us:Og),us.length=ps.length->bindArgs (PySem.W.fnOf x qual (Xv st) (vV st) (zh st) .none kV doc pm an cdv ct) ⟨us,[]⟩=pure (ps.zip us)):Binds K fd ps []:=by
 obtain⟨oc,od,kV,doc,pm,an,cdv,ct,osl,rfl,lk,hcd⟩:=F.ex;exact .all (h kV doc pm an cdv ct)
def Bn{x qual:Str}{st:OO}{f:Addr}{oc:Value}{od an:OL}{osl:OI}{kV doc pm cdv ct:Value}(l:K.lookup f=some ⟨oc,od,.func (PySem.W.fnOf x qual (Xv st) (vV st) (zh st) .none kV doc pm an cdv ct),osl⟩)
  (c:PySem.W.codeIn K cdv qual=true) (k:PySem.W.keepIn K (.ref f)=true):Fun K x qual st f (PySem.W.fnOf x qual (Xv st) (vV st) (zh st) .none kV doc pm an cdv ct):=⟨⟨oc,od,kV,doc,pm,an,cdv,ct,osl,rfl,l,c⟩,k⟩
end
def ja(hr:kY k A):A.units+1<cLine:=a1c (a26 (by decide:1<=64) _) hr.units
def pv(i:Nat)(hN:X.N[i]?=some x:=by rfl)(hv:Vis X.env.scope x:=by first|exact Or.inl rfl|exact Or.inr (Or.inl rfl)|exact Or.inr (Or.inr rfl))(hd:(x==("__debug__":Str))=false:=by decide)
  (hcd:(x==("__classdict__":Str))=false:=by decide):PE X (.Name x pos) (mQ i):=E7 hN hv hd hcd
def CP{A B:Prop}(h:B):if false=true then A else B:=by rw[if_neg P5];exact h
def CQ{A B:Prop}(h:A):if true=true then A else B:=by rw[if_pos rfl];exact h
def zI(H H':Hp):Prop:=∀b o,H b=some o->H' b=some o
def zI.refl(H:Hp):zI H H:=λ_ _ h=>h
def zI.trans(a:zI H H1)(b:zI H1 H2):zI H H2:=λc o h=>b c o (a c o h)
section
variable {κ:Type}[DecidableEq κ]
end
end L2
set_option maxHeartbeats 4000000
namespace L2
open PySem PySem.Spec PyProof.Rows PySem.W
def kZ:List Value:=[.type "ValueError",.type "Exception",.type "BaseException",.type "object"]
def dZ:List Value->List Value
 |.ref _::r=>dZ r
 |l=>l
structure JN(K:OF)(C:Addr):Prop where
 over:(clsIn K C).any (λcd=>dZ cd.mro==kZ && !cd.mro.isEmpty&&cd.hasDict)=true
 sa:findIn K (.ref C) "__setattr__"=some (some (.builtin "object.__setattr__"))
 ga:findIn K (.ref C) "__getattribute__"=some (some (.builtin "BaseException.__getattribute__"))
 gn:findIn K (.ref C) "__getattr__"=some none
 ty:typeIn K (.ref C)=some (.type "type")
def Wf(self:Value):∀l:List Value,dZ l=kZ->refuseLoop self "__setattr__" l=pure ()
 |[],e=>by cases e
 |.ref c::r,e=>by rw[refuseLoop_ref];exact Wf self r e
 |.type n::r,e=>by rw[show Value.type n::r=kZ from e];exact PySem.F.store_ValueError.passes self
 |.none::r,e=>by cases e
 |.bool _::r,e=>by cases e
 |.int _ _::r,e=>by cases e
 |.str _ _::r,e=>by cases e
 |.bytes _ _::r,e=>by cases e
 |.float _ _::r,e=>by cases e
 |.builtin _::r,e=>by cases e
 |.ellipsis::r,e=>by cases e
 |.notImplemented::r,e=>by cases e
def d0{x:String}(hx:kZ.contains (.type x)=true):∀l:List Value,dZ l=kZ->l.contains (.type x)=true
 |[],e=>by cases e
 |.ref c::r,e=>by rw[List.contains_cons,d0 hx r e,Bool.or_true]
 |.type n::r,e=>by rw[show Value.type n::r=kZ from e];exact hx
 |.none::r,e=>by cases e
 |.bool _::r,e=>by cases e
 |.int _ _::r,e=>by cases e
 |.str _ _::r,e=>by cases e
 |.bytes _ _::r,e=>by cases e
 |.float _ _::r,e=>by cases e
 |.builtin _::r,e=>by cases e
 |.ellipsis::r,e=>by cases e
 |.notImplemented::r,e=>by cases e
def JN.cd{K:OF}{C:Addr}(c:JN K C):∃cd,clsIn K C=some cd/\dZ cd.mro=kZ/\cd.mro.isEmpty=false/\cd.hasDict=true:=by obtain⟨cd,hc,h⟩:=any_some c.over;simp only[Bool.and_eq_true,beq_iff_eq,Bool.not_eq_true']at h;exact⟨cd,hc,h.1.1,h.1.2,h.2⟩
def JN.sub{K:OF}{C:Addr}(c:JN K C){x:String}(hx:kZ.contains (.type x)=true):mroIn K C (.type x)=some true:=by obtain⟨cd,hc,h1,h2,_⟩:=c.cd;unfold mroIn;rw[hc,Option.bind_some,if_neg (by rw[h2];decide),d0 hx _ h1]
def qo(C:Addr)(od:OL)(t:Addr)(T:Value)(sl:OI):Obj:=⟨.ref C,od,.fields #[.ref t,T,.none,.none,.bool false,.none],sl⟩
section
variable {prog:Ot}{w:Ox}{A:Oy}{E:Oc}{s:Oe}{K:OF}{x dx C t:Addr}{T:Value}{sl:OI}{mA:N_}{name:Str}{v:Value}{R:Result->Shared->Prop}
def i7(X:K.In s.heap)(c:JN K C)(I:InstAt s.heap x (qo C od t T sl) C oo)(ht:takerIn K C name=some none)
  (h:∀b,wpAny (model prog w) A.in1 (Builtin.ObjectAttr.storeInOwnDict (.ref x) (.ref C) (.str name tk) name v b)
   (λfin s'=>match fin with | .done f=>R (.ok f) s' | .again c'=>c'.quiet=true/\codeAny (model prog w) A c' R s') (λe s'=>R (.error e) s') s):
  codeAny (model prog w) A (.call (.builtin "object.__setattr__") ⟨[.ref x,.str name tk,v],[]⟩) R s:=by
 have SF:=PySem.F.store_object;obtain⟨cd,hc,ho,ne,_⟩:=c.cd;have sub:Looks (model prog w) s.heap (isInstance (.ref x) (.type "object")) true:=I.type.andThen (a2a X (c.sub (x:="object") (by decide)));refine a1l SF.slot.plain SF.entry (@check_slot (model prog w) _ _ s "object.__setattr__" "object" "__setattr__" (.ref x) [.str name tk,v] [] _ SF.kind SF.split sub (SF.args (.ref x) (.str name tk) v) ?_);obtain⟨attr,ha,hr⟩:=R9.mp ht;have hm:Looks (model prog w) s.heap (mroOf (.ref C)) cd.mro:=(a3m X hc).andThen .now;have L3:Looks (model prog w) s.heap (Builtin.ObjectAttr.storeTaker? attr) none:=by
  cases attr with
  |none=>exact .now
  |some a=>
   obtain⟨b,hb,e⟩:=N8.mp hr;refine(looks_takesIn X hb).andThen ?_;cases b with
   |true=>cases e
   |false=>exact .now
 rw[osa_eq,refuse_eq];refine f8 (f8 (I.type.here (f8 (hm.here ?_))));rw[Wf _ _ ho];refine O0 (f8 (I.type.here (f8 ((a1y X ha).here (f8 (L3.here ?_))))));exact h _
def m7(X:K.In s.heap)(c:JN K C)(hx:s.heap.get? x=some (qo C none t T sl))(ht:takerIn K C name=some none)
  (h:∀h',h'.get? x=some (qo C (some s.heap.objs.size) t T sl)->h'.Ns1 s.heap.objs.size (λy=>if y=name then some v else none)->
   (∀b o,b≠x->s.heap.get? b=some o->h'.get? b=some o)->Q () { s with heap:=h',toks:=s.toks+2 }):
  wpAny (model prog w) A (setAttr (.ref x) name v) Q E s:=by
 have I:InstAt s.heap x (qo C none t T sl) C none:=⟨hx,rfl,rfl,trivial⟩;refine set_plain X I c.sa (i7 (s:={ s with toks:=s.toks+1 }) X c I ht λb=>?_);obtain⟨cd,hc,_,_,hd⟩:=c.cd;have hxs:x≠s.heap.objs.size:=P1 (O5 hx);have hx1:(s.heap.push emptyDict).get? x=some (qo C none t T sl):=v4 _ hx;refine f8 (O0 (f8 (f8 (a1h hx (f8 (Looks.here (s:={ s with toks:=s.toks+1 }) (a3m X hc) ?_))))));rw[hd];refine f8 (wpAny_alloc' (f8 (wpAny_update' hx1 (O0 ?_))));have hgx:((s.heap.push emptyDict).update x λo=>{ o with dict:=some s.heap.objs.size }).get? x=some (qo C (some s.heap.objs.size) t T sl):=a0r _ hx1 rfl;have hgd:((s.heap.push emptyDict).update x λo=>{ o with dict:=some s.heap.objs.size }).get? s.heap.objs.size=some emptyDict:=(a16 _ _ _ _ hxs.symm).trans (Heap.get?_push_at rfl rfl);have hnd:((s.heap.push emptyDict).update x λo=>{ o with dict:=some s.heap.objs.size }).Ns s.heap.objs.size (λ_=>none):=⟨_,#[],_,hgd,rfl,λe he=>absurd he (by simp),λ_=>rfl⟩;refine f8 (O0 (f8 ?_));refine a3c (s:={ s with heap:=(s.heap.push emptyDict).update x λo=>{ o with dict:=some s.heap.objs.size },toks:=s.toks+1 }) (Heap.Ns1.of_empty hnd) λh' hn' hs=>?_;obtain⟨oD,esD,epD,hoD,hdD,hcD⟩:=hn'.count (a2m name v PySem.Within.nil);refine f8 (a2v hoD (by rw[hdD];exact a2w (P7 hcD (by rw[N9,a0X,a0l];omega))) ?_);refine O0 (h _ ((hs.2 _ hxs).trans hgx) hn' λb o hb e=>?_);exact(hs.2 _ (P1 (O5 e))).trans ((a16 _ _ _ _ hb).trans (v4 _ e))
def pC(X:K.In s.heap)(c:JN K C)(hx:s.heap.get? x=some (qo C (some dx) t T sl))(hn:s.heap.Ns1 dx mA)(hne:dx≠x)(ht:takerIn K C name=some none)
  (hw:PySem.Within mA ns) (hsz:ns.length<=sizeLine)
  (h:∀h',h'.Ns1 dx (λy=>if y=name then some v else mA y)->Heap.SameBut dx s.heap h'->Q () { s with heap:=h',toks:=s.toks+2 }):
  wpAny (model prog w) A (setAttr (.ref x) name v) Q E s:=by
 obtain⟨od,hod,_⟩:=K7 hn;have I:InstAt s.heap x (qo C (some dx) t T sl) C (some od):=⟨hx,rfl,rfl,hod⟩;refine set_plain X I c.sa (i7 (s:={ s with toks:=s.toks+1 }) X c I ht λb=>?_);obtain⟨cd,hc,_,_,hd⟩:=c.cd;refine f8 (O0 (f8 (f8 (a1h hx (f8 (Looks.here (s:={ s with toks:=s.toks+1 }) (a3m X hc) ?_))))));rw[hd];refine O0 (a:=some dx) (f8 (O0 (f8 ?_)));refine a3c (s:={ s with toks:=s.toks+1 }) hn λh' hn2 hs2=>?_;obtain⟨oD,esD,epD,hoD,hdD,hcD⟩:=hn2.count (a2m name v hw);refine f8 (a2v hoD (by rw[hdD];exact a2w (P7 hcD (by rw[N9];omega))) ?_);exact O0 (h _ hn2 hs2)
def NI(X:K.In s.heap)(c:JN K C)(hx:s.heap.get? x=some (qo C (some dx) t T sl))(hn:s.heap.Ns1 dx mA)(ha:findIn K (.ref C) name=some none)
  (hv:mA name=some v) (hh:handedIn v=true) (h:Q v { s with toks:=s.toks+1 }):wpAny (model prog w) A (getAttr (.ref x) name expr) Q E s:=by
 obtain⟨od,hod,hl⟩:=K7 hn;have I:InstAt s.heap x (qo C (some dx) t T sl) C (some od):=⟨hx,rfl,rfl,hod⟩;obtain⟨cd,hc,ho,ne,hdct⟩:=c.cd;obtain⟨hp,g,d,tk,os⟩:=s;have L0:=I.type (M:=model prog w);have L1:=a1y (M:=model prog w) X c.ga;have L2:=a1y (M:=model prog w) X c.gn;have Lb:Looks (model prog w) hp (isInstance (.ref x) (.type "BaseException")) true:=L0.andThen (a2a X (c.sub (x:="BaseException") (by decide)));have L3:=looks_find (M:=model prog w) X I (findObj_own (by unfold hasDictIn;rw[hc];exact hdct) ha rfl (by rw[hl,hv]));have ga:=PySem.F.excAttr_ValueError.ga;have f3:=ga.bind (.ref x);unfold getAttr getAttrBy;refine f8 (a2z (a0i (f8 (L0.at (f8 (L1.at ?_))))));dsimp only;rw[show(onTheHeap (Value.ref C)&&Value.builtin "BaseException.__getattribute__"==Value.builtin "object.__getattribute__")=false from by
  rw[show(Value.builtin "BaseException.__getattribute__"==Value.builtin "object.__getattribute__")=false from by decide +kernel];rfl]
 show wpAny _ _ (getAttrByItsOwn _ _ _ _ _ _) _ _ _;unfold getAttrByItsOwn;refine f8 (show wpAny _ _ (typeLookup (.ref C) "__getattr__") _ _ _ from L2.at ?_);unfold callGetattribute boundAndCalled;rw[show(expr&&onTheHeap (Value.builtin "BaseException.__getattribute__"))=false from by cases expr<;>rfl];refine f8 (a0Y (a0i ?_));show wpAny _ _ (bindSpecial _ _ >>= _) _ _ _;rw[f3];refine f8 (O0 (a0M (a1l ga.plain F.entry_bexc_ga ?_)));have hk:builtinKind "BaseException.__getattribute__"=some .slot:=by decide +kernel
 have hs:splitId "BaseException.__getattribute__"=some ("BaseException","__getattribute__"):=by decide +kernel
 refine @check_slot (model prog w) _ _ ⟨hp,g,d,tk+1,os⟩ "BaseException.__getattribute__" "BaseException" "__getattribute__" (.ref x) [.str name tk] [] _ hk hs Lb (F.args_bexc_ga (.ref x) (.str name tk)) ?_;unfold Builtin.«object.__getattribute__»
 repeat lk
 show wpAny _ _ (handedOut v) _ _ _;rw[handedOut_of hh];exact O0 h
end
def strKeys(es:Array DictEntry):Bool:=es.toList.all λe=>match e.key with | .str _ _=>true|_=>false
def d3(K:OF):List Value->Bool
 |.ref a::r=>(match K.lookup a with
   |some ⟨_,_,.cls cd,_⟩=>(match K.lookup cd.ns with
     |some ⟨_,_,.dict es _,_⟩=>strKeys es&&(es.toList.all λe=>!e.key.isStr "__init__")
     |_=>false)
   |_=>false)&&d3 K r
 |l=>l==kZ
def m8{h:Heap}{N:Addr}{c:Value}{dd:OL}{es:Array DictEntry}{ep:Nat}{sl:OI}(e:h.get? N=some ⟨c,dd,.dict es ep,sl⟩)(k:strKeys es=true)
  (hi:(es.toList.all λe=>!e.key.isStr "__init__")=true):∃m,h.Ns N m/\m "__init__"=none:=by
 refine⟨λn=>nsFind es n,⟨_,es,ep,e,rfl,λx hx=>?_,λ_=>rfl⟩,?_⟩
 .have q:=a1m.mp k x (a20.mpr hx);split at q
  .rename_i n t hk;exact⟨n,t,hk⟩
  .cases q
 .show nsFind es "__init__"=none;unfold nsFind findBy;rw[<- a3b,List.find?_eq_none.mpr λx hx=>by simpa using a1m.mp hi x hx];rfl
def pD{K:OF}{h:Heap}(X:K.In h):∀l:List Value,d3 K l=true->OwnTail h kZ l
 |.ref a::r,e=>by
  unfold d3 at e;obtain⟨e1,e2⟩:=a21.mp e;split at e1
  .rename_i c dd cd sl hl;split at e1
   .rename_i c2 dd2 es ep sl2 hl2;obtain⟨k1,k2⟩:=a21.mp e1;obtain⟨m,hm,hm0⟩:=m8 (X _ _ hl2) k1 k2;exact .own (X _ _ hl) hm hm0 (pD X r e2)
   .cases e1
  .cases e1
 |[],e=>by cases e
 |.type n::r,e=>by rw[show Value.type n::r=kZ from S9.mp e];exact .base
 |.none::r,e=>by rw[show Value.none::r=kZ from S9.mp e];exact .base
 |.bool _::r,e=>by rw[S9.mp e];exact .base
 |.int _ _::r,e=>by rw[S9.mp e];exact .base
 |.str _ _::r,e=>by rw[S9.mp e];exact .base
 |.bytes _ _::r,e=>by rw[S9.mp e];exact .base
 |.float _ _::r,e=>by rw[S9.mp e];exact .base
 |.builtin _::r,e=>by rw[S9.mp e];exact .base
 |.ellipsis::r,e=>by rw[S9.mp e];exact .base
 |.notImplemented::r,e=>by rw[S9.mp e];exact .base
structure XMk(K:OF)(C f:Addr):Prop where
 cls:∃nm q N bs bm sn sub ab col dd k0 k1 k2 k3 k5,K.lookup C=some (excClassObj nm q C N bs bm true sn sub ab col dd k0 k1 k2 k3 k5 "ValueError.__new__")/\d3 K bm=true
 init:findIn K (.ref C) "__init__"=some (some (.ref f))
 fn:typeIn K (.ref f)=some (.type "function")
 kp:keepIn K (.ref C)=true
section
variable {prog:Ot}{w:Ox}{A:Oy}{E:Oc}{K:OF}{C f:Addr}{h:Heap}{g:Array GenState}{d:Drawn}{t:Nat}{os:OsState}
def Bo(rest:Og):Obj:={ cls:=.type "tuple",data:=.seq rest.toArray }
def Lu{rest:Og}{Q:Oc}(M:XMk K C f)(X:K.In h)(hrest:rest.length<=sizeLine)
  (hq:codeAny (model prog w) (A.under (.builtin "type.__call__" ⟨.ref C::rest,[]⟩)) (.call (.ref f) ⟨.ref (h.objs.size+1)::rest,[]⟩) (λr s'=>match r with | .ok (.ret v)=>v=.none/\Q (.ref (h.objs.size+1)) s' | .ok _=>False | .error e=>E e s')
   ⟨(h.push (Bo rest)).push (qo C none h.objs.size .none #[]),g,d,t,os⟩):
  wpAny (model prog w) A (call (.ref C) rest) Q E ⟨h,g,d,t,os⟩:=by
 obtain⟨nm,q,N,bs,bm,sn,sub,ab,col,dd,k0,k1,k2,k3,k5,hK,hT⟩:=M.cls;have hC:=X _ _ hK;have T:=pD X _ hT;have F:=PySem.F.excBase_ValueError;have f1:=tc_lookup;have f2:=tc_bind (.ref C);have hTy:(⟨h,g,d,t,os⟩:Shared).TypeIs (.ref C) "type":=⟨_,hC,rfl⟩;refine a0M (codeAny_of_tree ?_);show wpAny _ _ (callAny (.ref C) _) _ _ _
 repeat(any_goals(first|assumption|with_reducible refine wpAny_loadPart_at hC ?_|wp_step))
 refine And.intro rfl (codeAny_call_builtin_at (a3f _ (by decide +kernel)) entry_typeCall (wpAny_check_type_call_sub hC ?_))
 repeat(first|with_reducible refine wpAny_loadPart_at hC ?_|with_reducible refine wpAny_madeBy_exc hC ?_|wp_step)
 refine codeAny_call_builtin_code (a3f _ F.quiet) (wpAny_check_new_subT F T hC (codeAny_exc_new_subT F T hC ?_ hrest));show wpAny _ _ _ _ _ ⟨(h.push (Bo rest)).push (qo C none h.objs.size .none #[]),g,d,t,os⟩;have kp:∀b o,h.get? b=some o->((h.push (Bo rest)).push (qo C none h.objs.size .none #[])).get? b=some o:=λb o e=>v4 _ (v4 _ e);have hx:((h.push (Bo rest)).push (qo C none h.objs.size .none #[])).get? (h.objs.size+1)=some (qo C none h.objs.size .none #[]):=by heap_get
 have X1:K.In ((h.push (Bo rest)).push (qo C none h.objs.size .none #[])):=X.keeps kp;have t1:Looks (model prog w) ((h.push (Bo rest)).push (qo C none h.objs.size .none #[])) (typeOf (.ref (h.objs.size+1))) (.ref C):=(Looks.ld hx).andThen .now;have s1:Looks (model prog w) ((h.push (Bo rest)).push (qo C none h.objs.size .none #[])) (isSubtype (.ref C) (.ref C)) true:=a2a X1 (by
  unfold mroIn clsIn;rw[hK];simp)
 have i1:=a1y (M:=model prog w) X1 M.init;have b1:=bind_fn (M:=model prog w) X1 (.ref (h.objs.size+1)) M.fn;unfold isInstance callSpecial? specialOf
 repeat(first|with_reducible refine a0M ?_|lk)
 refine a0P hq λr s' z=>?_;rcases r with e|(v|_|_|_)<;>first|exact z|exact z.elim|skip
 obtain⟨rfl,z⟩:=z;exact O0 (O0 z)
end
def XO(e C:Addr)(od:OL)(T:Value):HO:=.ext λh=>∃t sl,h.get? e=some (qo C od t T sl)
def XD(dx:Addr)(fs:OE):HO:=.ext λh=>∃mA,h.Ns1 dx mA/\(∀f,WN (fs.lookup f) (mA f))/\PySem.Within mA (fs.map (·.1))/\fs.length<=1000
def XO.ok(x:h.get? e=some (qo C od t T sl)):qE P w H h e (XO e C od T):=
 ⟨⟨t,sl,x⟩,⟨_,x⟩,λ_ _ ⟨t',sl',p⟩ k=>⟨t',sl',k _ p⟩⟩
def XO.get(x:qE P w H h e (XO e C od T)):∃t sl,h.get? e=some (qo C od t T sl):=x.1
def XD.ok(n:h.Ns1 dx mA)(r:∀f,WN (fs.lookup f) (mA f))(wi:PySem.Within mA (fs.map (·.1)))(l:fs.length<=1000):qE P w H h dx (XD dx fs):=by refine⟨⟨mA,n,r,wi,l⟩,?_,λh1 h2 ⟨m,⟨o,es,ep,ho,q⟩,r1⟩ k=>⟨m,⟨o,es,ep,k _ ho,q⟩,r1⟩⟩;obtain⟨o,es,ep,ho,_⟩:=n;exact⟨o,ho⟩
def XD.get(x:qE P w H h dx (XD dx fs)):∃mA,h.Ns1 dx mA/\(∀f,WN (fs.lookup f) (mA f))/\PySem.Within mA (fs.map (·.1))/\fs.length<=1000:=x.1
def Inv.CS(I:Inv X pins σ H s)(he:H e=some (XO e C od T))(ch:OP)(hch:∀b∈ch,X.s₀.heap.objs.size<=b/\H b=none/\b≠X.env.locals/\(∀x c,X.env.cells.lookup x=some c->c≠b)/\∀p∈X.pn++pins,p.1≠b)
  (keep:∀b o,b≠e->b∉ch->b∉frs X.stack->s.heap.get? b=some o->h'.get? b=some o)
  (slot:∀b o,b∈frs X.stack->s.heap.get? b=some o->∃sl,h'.get? b=some { o with slots:=sl })
  (hx:∃t sl,h'.get? e=some (qo C od t T' sl)):Inv X pins σ (upd H e (XO e C od T')) { s with heap:=h' }:=by
 have ne:∀b,H b=none->b≠e:=λb n z=>by rw[z,he]at n;cases n
 have nf:∀b o,H b=some o->b∉frs X.stack:=λb o q z=>by rw[I.bJ b z]at q;cases q
 have nc:∀b o,H b=some o->b∉ch:=λb o q z=>by rw[(hch b z).2.1]at q;cases q
 obtain⟨t',sl',hx'⟩:=hx;have any:∀b o,b∉ch->b≠e->s.heap.get? b=some o->∃sl,h'.get? b=some { o with slots:=sl }:=λb o hb hne q=>by
  by_cases hf:b∈frs X.stack
  .exact slot b o hf q
  .exact⟨o.slots,keep b o hne hb hf q⟩
 refine I.step (g':=s.gens) (d':=s.drawn) (t':=s.toks) (ch:=ch) (λb hb=>⟨.inr (hch b hb).1,(hch b hb).2.2⟩) (λb o hL hb hc q n=>keep b o (ne b n) hc (λz=>?_) q) (λb o _ _ hc q n=>any b o hc (ne b n) q)
  (λb o _ _ n=>by rw[zg (ne b n)];exact n) (λb o hc q=>?_) (λb xs q=>?_) (λb o u q=>?_) (λb ps q=>⟨#[],?_⟩) (λm hm=>?_) (λb u q=>?_) I.bare
 .rcases P8.mp (I.aQ b z)with z|z
  .exact hL z
  .exact hb z
 .by_cases hbe:b=e
  .exact⟨_,hbe▸hx'⟩
  .obtain⟨sl,q'⟩:=any b o hc hbe q;exact⟨_,q'⟩
 .have:b≠e:=λz=>by rw[z,he]at q;cases q
  rw[zg this];exact q
 .have:b≠e:=λz=>by rw[z,he]at q;cases q
  rw[zg this];exact q
 .have:b≠e:=λz=>by rw[z,he]at q;cases q
  rw[zg this,q];simp
 .obtain⟨o,es,ep,ho,r⟩:=hm;have hL:H X.env.locals=none:=I.free;obtain⟨sl,q'⟩:=any _ o (λz=>(hch _ z).2.2.1 rfl) (ne _ hL) ho;exact⟨_,es,ep,q',r⟩
 .by_cases hbe:b=e
  .subst hbe;rw[zi]at q;cases q;exact XO.ok hx'
  .rw[zg hbe]at q;refine(I.hok b u q).oC (λc v hc r=>?_) (λc r=>?_) λc xs r=>?_
   .rcases hc with z|z
    .subst z;exact keep c v hbe (nc c u q) (nf c u q) r
    .have:c≠e:=λz2=>by rw[z2,he]at z;cases z
     exact keep c v this (nc c _ z) (nf c _ z) r
   .have:c≠e:=λz2=>by rw[z2,he]at r;cases r
    rw[zg this];exact r
   .have:c≠e:=λz2=>by rw[z2,he]at r;cases r
    rw[zg this];exact r
structure Tb(X:Cx)(pins:Oa)(H:Hp)(s:Oe)(Ta:Addr)(fl:Value):Prop where
 tbk:∃oT ts,s.heap.get? Ta=some oT/\oT.data=.fields ts/\ts[3]?=some fl
 new:X.s₀.heap.objs.size<=Ta
 free:H Ta=none
 pin:∀p∈X.pn++pins,p.1≠Ta
def Own(X:Cx):Prop:=X.stack=X.env::X.outer/\X.env.frame=some X.env.locals
def Tb.ok(I:Inv X pins σ H s)(b:Tb X pins H s Ta fl):Ta≠X.env.locals/\(∀x c,X.env.cells.lookup x=some c->c≠Ta)/\Ta∉frs X.stack:=by
 obtain⟨oT,ts,h1,h2,_⟩:=b.tbk;have nL:Ta≠X.env.locals:=λz=>by obtain⟨m,⟨o,es,ep,ho,hd,_⟩,_⟩:=I.loc;rw[z]at h1;rw[h1]at ho;cases ho;rw[h2]at hd;cases hd
 refine⟨nL,λx c q z=>?_,λz=>?_⟩
 .obtain⟨v,o,ho,hd⟩:=I.cell x c q;rw[z,h1]at ho;cases ho;rw[h2]at hd;cases hd
 .rcases P8.mp (I.aQ _ z)with z|z
  .exact nL z
  .obtain⟨_,o,ho,hn⟩:=I.dz.mem z;rw[h1]at ho;cases ho;exact hn _ h2
def bX(I:Inv X pins σ H s)(he:H e=some (XO e C od (.ref Ta)))(b:Tb X pins H s Ta fl)
  (hQ:∀h',Inv X pins σ (upd H e (XO e C od (.ref Ta))) { s with heap:=h' }->Tb X pins (upd H e (XO e C od (.ref Ta))) { s with heap:=h' } Ta (f.elim .none λf=>rawInt f)->Q () { s with heap:=h' }):
  wpAny M A (setFlight (.ref e) f) Q E s:=by
 obtain⟨t,sl,hx⟩:=XO.get (I.hok e _ he);obtain⟨oT,ts,h1,h2,h3⟩:=id b.tbk;obtain⟨n1,n2,n3⟩:=b.ok I;have nTe:Ta≠e:=λz=>by have:=b.free;rw[z,he]at this;cases this
 have sz:=(a1r.mp h3).1;unfold setFlight;refine f8 (a0n hx rfl (x:=.ref Ta) rfl ?_);rw[if_pos (show(Value.ref Ta != Value.none)=true from by simp)];refine a1D h1 h2 sz ?_;have oth:∀c,c≠Ta->(s.heap.update Ta (Obj.mapFields (·.setIfInBounds 3 (f.elim .none λf=>rawInt f)))).get? c=s.heap.get? c:=λc hc=>S7 _ _ (Ne.symm hc);refine hQ _ (I.CS he [Ta] (λc hc=>?_) (λc o _ hc _ q=>(oth c (by simpa using hc)).trans q) (λc o hc q=>⟨o.slots,(oth c (λz=>n3 (z▸hc))).trans q⟩) ⟨t,sl,(oth e (Ne.symm nTe)).trans hx⟩) ⟨⟨_,_,Heap.get?_update_self _ h1 (Obj.isFreed_of_fields (Obj.data_mapFields h2 _)),Obj.data_mapFields h2 _,by simp[sz]⟩,b.new,by rw[zg nTe];exact b.free,b.pin⟩;obtain rfl:c=Ta:=by simpa using hc
 exact⟨b.new,b.free,n1,n2,b.pin⟩
def xg(I:Inv X pins σ H s)(he:H e=some (XO e C od .none))(hQ:Q () s):wpAny M A (setFlight (.ref e) f) Q E s:=by obtain⟨t,sl,hx⟩:=XO.get (I.hok e _ he);unfold setFlight;refine f8 (a0n hx rfl (x:=.none) rfl ?_);exact O0 hQ
def d6(own:Own X)(hA:A.frames=some X.stack)(I:Inv X pins σ H s)(he:H e=some (XO e C od T))
  (hQ:∀Tn h',Inv X pins σ (upd H e (XO e C od (.ref Tn))) { s with heap:=h' }->Tb X pins (upd H e (XO e C od (.ref Tn))) { s with heap:=h' } Tn (rawInt X.env.locals)->Q () { s with heap:=h' }):
  wpAny M A (do setField (.ref e) 1 (<- EntryCells.newEntry head (<- frameOf X.env) .none (rawInt X.env.locals) .none (<- entryPlaceOf X.env.locals hadNext))) Q E s:=by
 obtain⟨t,sl,hx⟩:=XO.get (I.hok e _ he);have hst:=I.stack;rw[own.1]at hst hA;refine f8 (wpAny_frameOf_fun hA hst own.2 λh1 hs1=>?_);refine f8 (wpAny_entryPlaceOf λpl hpl=>?_);unfold EntryCells.newEntry newFields;refine f8 (a01 ?_ (hpl.sizeOk5 _ _ _ _ _));have nef:e∉frs (X.env::X.outer):=λz=>by have:=I.bJ e (by rw[own.1];exact z);rw[he]at this;cases this
 have hx1:h1.get? e=some (qo C od t T sl):=(hs1.2.1 e nef).trans hx;have hnT:e≠h1.objs.size:=P1 (O5 hx1);refine a1D (v4 _ hx1) rfl (by show 1<6;decide) ?_;have hold:∀c o,c≠e->h1.get? c=some o->∀tb:Obj,((h1.push tb).update e (Obj.mapFields (·.setIfInBounds 1 (Value.ref h1.objs.size)))).get? c=some o:=λc o hc q tb=>
  (S7 _ _ (Ne.symm hc)).trans (v4 _ q)
 have hfr:H h1.objs.size=none:=I.hok.fresh (a1X hs1.1.symm);refine hQ h1.objs.size _ (I.CS he [] (λ_ z=>nomatch z) (λc o hc _ hf q=>hold c o hc ((hs1.2.1 c (by rw[own.1]at hf;exact hf)).trans q) _) (λc o hf q=>?_) ⟨t,sl,?_⟩) ⟨⟨_,_,(S7 _ _ hnT).trans (P2 _ rfl),rfl,?_⟩,?_,?_,λp hp z=>?_⟩
 .obtain⟨sl',q'⟩:=hs1.2.2 c o q;exact⟨sl',hold c _ (λz=>nef (by rw[own.1]at hf;exact z▸hf)) q' _⟩
 .exact a0r _ (v4 _ hx1) rfl
 .rcases hpl with rfl|⟨_,_,_,_,_,_,_,rfl⟩<;>simp
 .rw[hs1.1];exact I.sz
 .rw[zg (Ne.symm hnT)];exact hfr
 .have q:=(I.pin p hp).1;exact absurd (O5 q) (by rw[z,hs1.1];exact a0t _)
structure XIs(K:OF)(C:Addr):Prop where
 ha:findIn K (.ref C) "__class__"=some (some (.builtin "object.__class__"))
 hn:specialIn K (.builtin "object.__class__") "__get__"=some (some (.builtin "getset_descriptor.__get__"))
 htk:takesIn K (.builtin "object.__class__")=some true
section
variable {prog:Ot}{w:Ox}{A:Oy}{E:Oc}{s:Oe}{K:OF}{x dx C t:Addr}{T:Value}{sl:OI}{mA:N_}{name:Str}{v:Value}{R:Result->Shared->Prop}
def FJ(X:K.In s.heap)(c:JN K C)(z:XIs K C)(I:InstAt s.heap x ox C (some od))
  (h:Q (some (.ref C)) { s with toks:=s.toks+1 }):wpAny (model prog w) A (getAttr? (.ref x) "__class__") Q E s:=by
 obtain⟨cd,hc,ho,ne,hdct⟩:=c.cd;have hm:=c.sub (x:="object") (by decide);obtain⟨hp,g,d,tk,os⟩:=s;have L0:=I.type (M:=model prog w);have L1:=a1y (M:=model prog w) X c.ga;have L2:=a1y (M:=model prog w) X c.gn;have Lb:Looks (model prog w) hp (isInstance (.ref x) (.type "BaseException")) true:=L0.andThen (a2a X (c.sub (x:="BaseException") (by decide)));have hf:findObj K C (some od) "__class__"=some (.bind (.builtin "getset_descriptor.__get__") (.builtin "object.__class__")):=findObj_data (by rw[hc];rfl) z.ha z.hn z.htk;have L3:=looks_find (M:=model prog w) X I hf;have ga:=PySem.F.excAttr_ValueError.ga;have f3:=ga.bind (.ref x);unfold getAttr? getAttrBy? getAttrBy;refine f8 (a2z (f8 (a0Y (a0i (f8 (L0.at (f8 (L1.at ?_))))))));dsimp only;rw[show(onTheHeap (Value.ref C)&&Value.builtin "BaseException.__getattribute__"==Value.builtin "object.__getattribute__")=false from by
  rw[show(Value.builtin "BaseException.__getattribute__"==Value.builtin "object.__getattribute__")=false from by decide +kernel];rfl]
 show wpAny _ _ (getAttrByItsOwn _ _ _ _ _ _) _ _ _;unfold getAttrByItsOwn;refine f8 (show wpAny _ _ (typeLookup (.ref C) "__getattr__") _ _ _ from L2.at ?_);refine f8 (a0Y (a0i ?_));show wpAny _ _ (bindSpecial _ _ >>= _) _ _ _;rw[f3];refine f8 (O0 (a0M (a1l ga.plain F.entry_bexc_ga ?_)));have hk:builtinKind "BaseException.__getattribute__"=some .slot:=by decide +kernel
 have hs:splitId "BaseException.__getattribute__"=some ("BaseException","__getattribute__"):=by decide +kernel
 refine @check_slot (model prog w) _ _ ⟨hp,g,d,tk+1,os⟩ "BaseException.__getattribute__" "BaseException" "__getattribute__" (.ref x) [.str "__class__" tk] [] _ hk hs Lb (F.args_bexc_ga (.ref x) (.str "__class__" tk)) ?_;unfold Builtin.«object.__getattribute__»
 repeat(first|with_reducible refine a0M ?_|lk)
 refine class_get (s:=⟨hp,g,d,tk+1,os⟩) (ox:=ox) (od:=some od) X I hm ?_;exact O0 (O0 (O0 h))
def xh{ox od:Obj}(c:JN K C)(z:XIs K C):KitX K (.ref x) (.ref C) (λh=>InstAt h x ox C (some od))where
 ty:=λ_ _ _ I=>I.type
 it:=λ_ _ X _=>by
  obtain⟨cd,hc,_⟩:=c.cd;unfold clsIn at hc;split at hc
  .rename_i c' d' cd' sl' hl;intro A' Q' E' s' k q;unfold isType loadHead;exact f8 (a1h (k _ _ (X _ _ hl)) (O0 q))
  .cases hc
 ne:=λh tp dd its n sl X htp=>by
  obtain⟨cd,hc,_⟩:=c.cd;refine Bool.eq_false_iff.mpr λq=>?_;obtain rfl:C=tp:=Value.ref.inj (S9.mp q);unfold clsIn at hc;split at hc
  .rename_i c' d' cd' sl' hl;cases(X _ _ hl).symm.trans htp
  .cases hc
 ca:=λX I k=>FJ X c z I k
end
def bY(h:H a=some o):upd H a o=H:=by
 funext b;unfold upd;split
 .rename_i e;rw[e,h]
 .rfl
def XC(e C dx:Addr):HO:=.ext λh=>∃t T sl,h.get? e=some (qo C (some dx) t T sl)
def XC.ok(x:h.get? e=some (qo C (some dx) t T sl)):qE P w H h e (XC e C dx):=
 ⟨⟨t,T,sl,x⟩,⟨_,x⟩,λ_ _ ⟨t',T',sl',p⟩ k=>⟨t',T',sl',k _ p⟩⟩
def XC.get(x:qE P w H h e (XC e C dx)):∃t T sl,h.get? e=some (qo C (some dx) t T sl):=x.1
section
variable {X:Cx}{pins:Oa}{σ:St}{H:Hp}{s:Oe}{e C dx Ta:Addr}{od:OL}{T fl:Value}{M:Model}{A:Oy}{E:Oc}{Q:Unit->Shared->Prop}
def Inv.pE(I:Inv X pins σ H s)(he:H e=some (XO e C (some dx) T)):Inv X pins σ (upd H e (XC e C dx)) s:=by
 obtain⟨t,sl,hx⟩:=XO.get (I.hok e _ he);refine I.un (h':=s.heap) (t':=s.toks) ⟨λb o q _ _ _=>q,λb o q _ _ _=>⟨o.slots,q⟩,λb o _ n _=>?_,λb o q _=>⟨o,q⟩,λb xs q=>?_,λb o u q=>?_,λb ps q=>⟨#[],?_⟩⟩ λb u q=>?_
 .have:b≠e:=λz=>by rw[z,he]at n;cases n
  rw[zg this];exact n
 .have:b≠e:=λz=>by rw[z,he]at q;cases q
  rw[zg this];exact q
 .have:b≠e:=λz=>by rw[z,he]at q;cases q
  rw[zg this];exact q
 .have:b≠e:=λz=>by rw[z,he]at q;cases q
  rw[zg this,q];simp
 .by_cases hb:b=e
  .subst hb;rw[zi]at q;cases q;exact XC.ok hx
  .rw[zg hb]at q;refine(I.hok b u q).oC (λ_ _ _ r=>r) (λc r=>?_) λc xs r=>?_
   .have:c≠e:=λz2=>by rw[z2,he]at r;cases r
    rw[zg this];exact r
   .have:c≠e:=λz2=>by rw[z2,he]at r;cases r
    rw[zg this];exact r
def Fl(X:Cx)(pins:Oa)(H:Hp)(s:Oe)(e C:Addr)(od:OL):Prop:=
 ∃T,H e=some (XO e C od T)/\(T=.none\/∃Ta fl,T=.ref Ta/\Tb X pins H s Ta fl/\(fl=.none\/∃n:Int,fl=rawInt n))
def bZ(own:Own X)(hA:A.frames=some X.stack)(I:Inv X pins σ H s)(f:Fl X pins H s e C od)
  (hQ:∀Tn h',Inv X pins σ (upd H e (XO e C od (.ref Tn))) { s with heap:=h' }->Tb X pins (upd H e (XO e C od (.ref Tn))) { s with heap:=h' } Tn (rawInt X.env.locals)->Q () { s with heap:=h' }):
  wpAny M A (noteFrame (.ref e) X.env) Q E s:=by
 obtain⟨T,he,hT⟩:=f;obtain⟨t,sl,hx⟩:=XO.get (I.hok e _ he);unfold noteFrame;simp only[own.2];refine f8 (a0n hx rfl (x:=T) rfl ?_);rcases hT with rfl|⟨Ta,fl,rfl,b,hfl⟩
 .rw[if_neg (by decide)];exact d6 own hA I he hQ
 .rw[if_pos (show(Value.ref Ta != Value.none)=true from by simp)];obtain⟨oT,ts,h1,h2,h3⟩:=id b.tbk;refine f8 (a0n h1 h2 h3 ?_);by_cases hq:¬(fl==rawInt X.env.locals)=true
  .rw[if_neg hq];obtain⟨n1,n2,n3⟩:=b.ok I;have nTe:Ta≠e:=λz=>by have:=b.free;rw[z,he]at this;cases this
   have sz:=(a1r.mp h3).1;refine f8 (a1D h1 h2 sz ?_);have oth:∀c,c≠Ta->(s.heap.update Ta (Obj.mapFields (·.setIfInBounds 3 .none))).get? c=s.heap.get? c:=λc hc=>S7 _ _ (Ne.symm hc);have I2:Inv X pins σ H { s with heap:=s.heap.update Ta (Obj.mapFields (·.setIfInBounds 3 .none)) }:=by
    have:=I.CS (T':=.ref Ta) he [Ta] (h':=s.heap.update Ta (Obj.mapFields (·.setIfInBounds 3 .none))) (λc hc=>by
     obtain rfl:c=Ta:=by simpa using hc
     exact⟨b.new,b.free,n1,n2,b.pin⟩) (λc o _ hc _ q=>(oth c (by simpa using hc)).trans q) (λc o hc q=>⟨o.slots,(oth c (λz=>n3 (z▸hc))).trans q⟩) ⟨t,sl,(oth e (Ne.symm nTe)).trans hx⟩
    rwa [bY he]at this
   exact d6 own hA I2 he λTn h'=>hQ Tn h'
  .have hq:=a1H.mp hq;rw[if_pos hq];obtain rfl:fl=rawInt X.env.locals:=eq_of_beq hq;refine O0 ?_;have:=hQ Ta s.heap (by rw[bY he];exact I) (by rw[bY he];exact b);exact this
end
def Lv(X:Cx)(E:XK)(v:Value)(s':Oe):Prop:=∃σ H' e C dx,v=.ref e/\Inv X.nox [] σ H' s'/\Fl X.nox [] H' s' e C (some dx)/\E (.ref e) (some dx) (upd H' e (XC e C dx))
def CXe(P:Ot)(w:Ox):CXT:=λouter H s E v s'=>∃e C dx Ta oT ts H',v=.ref e/\s'.os=s.os/\AllBare s'.gens/\Un (frs outer) [] H H' s.heap s'.heap/\HOk P w H' s'.heap/\
 H' e=some (XO e C (some dx) (.ref Ta))/\s'.heap.get? Ta=some oT/\oT.data=.fields ts/\ts[3]?=some .none/\H' Ta=none/\s.heap.objs.size<=Ta/\E (.ref e) (some dx) (upd H' e (XC e C dx))
abbrev thr(X:Cx)(E:XK):Cx:=X.dw (Lv X E)
def Inv.thrown(I:Inv X pins σ H s)(h:CXe X.prog X.w X.stack H s E v s'):
  ∃H' e C dx,v=.ref e/\Inv X pins σ H' s'/\Fl X pins H' s' e C (some dx)/\E (.ref e) (some dx) (upd H' e (XC e C dx)):=by
 obtain⟨e,C,dx,Ta,oT,ts,H',rfl,os,bare,un,hok,he,h1,h2,h3,hn,hs,q⟩:=h;have I2:Inv X pins σ H' s':=I.E6 os un hok bare λb z=>absurd z (by simp);refine⟨H',e,C,dx,rfl,I2,⟨_,he,.inr ⟨Ta,_,rfl,⟨⟨oT,ts,h1,h2,h3⟩,P7 I.sz hs,hn,λp hp z=>?_⟩,.inl rfl⟩⟩,q⟩;have:=O5 (I.pin p hp).1;rw[z]at this;exact absurd hs (Nat.not_le.mpr this)
def Inv.i8(I:Inv X pins σ H s):Inv X [] σ H s:=I.bK λ_ h=>nomatch h
def Fl.i8(f:Fl X pins H s e C od):Fl X [] H s e C od:=by obtain⟨T,he,h⟩:=f;refine⟨T,he,h.imp id λ⟨Ta,fl,e1,b,h2⟩=>⟨Ta,fl,e1,⟨b.tbk,b.new,b.free,λp hp=>b.pin p ?_⟩,h2⟩⟩;rw[R8]at hp;exact a1W _ hp
def Fl.dw(f:Fl X pins H s e C od):Fl (X.dw E) pins H s e C od:=by obtain⟨T,he,h⟩:=f;exact⟨T,he,h.imp id λ⟨Ta,fl,e1,b,h2⟩=>⟨Ta,fl,e1,⟨b.tbk,b.new,b.free,b.pin⟩,h2⟩⟩
def yx:Passes (CXe X.prog X.w) (thr X E) E:=λpins σ H s v s' I h=>by obtain⟨H',e,C,dx,rfl,I2,f,q⟩:=Inv.thrown (X:=thr X E) I h;exact⟨σ,H',e,C,dx,rfl,(I2.QI.dw _).i8,(Fl.dw (X:=thr X E) f.i8),q⟩
def FK:Passes (CXe P w) X E0:=λpins σ H s v s' I h=>by obtain⟨e,C,dx,Ta,oT,ts,H',_,_,_,_,_,_,_,_,_,_,_,q⟩:=h;exact False.elim q
def z0(own:Own X):PassesOwn (Ph X) X.A X.env (Lv X E):=λv s' ⟨σ,H',e,C,dx,hv,I,f,q⟩=>by
 subst hv;have hA:X.A.frames=some X.nox.stack:=I.ok.frames;refine bZ (X:=X.nox) own hA I f λTn h' I2 b=>?_;obtain⟨t,sl,hx⟩:=XO.get (I2.hok e _ zi);refine f8 (a0n hx rfl (x:=.ref Tn) rfl ?_);rw[if_neg (show ¬((Value.ref Tn==Value.none)=true)from by simp)];refine bX I2 zi b λh2 I3 b3=>?_;rw[YE]at I3 b3;refine⟨σ,_,e,C,dx,rfl,I3,⟨_,zi,.inr ⟨Tn,_,rfl,b3,.inr ⟨(X.env.locals:Int),?_⟩⟩⟩,?_⟩
 .rw[own.2];rfl
 .rw[YE];exact q
def FL{P:Ot}{w:Ox}{K:OF}{mg:N_}{base:Heap}{N:Ob}{qual:Str}{scope:Scope}{f:Addr}{cd:Value}{A:Oy}{outer:List Env}{s:Oe}{H:Hp}{E:XK}{v:Value}{s':Oe}
  (h:Lv (aU (CXe P w) P w K mg base N qual scope f cd A outer s H E) E v s'):(aU (CXe P w) P w K mg base N qual scope f cd A outer s H E).xe v s':=by
 obtain⟨σ,H',e,C,dx,hv,I,fl,q⟩:=h;subst hv;have own:Own (aU (CXe P w) P w K mg base N qual scope f cd A outer s H E):=⟨rfl,rfl⟩;show wpAny (model P w) _ (leaving _ (.ref e)) _ _ s';unfold leaving;refine f8 (bZ (X:=(aU (CXe P w) P w K mg base N qual scope f cd A outer s H E).nox) own I.ok.frames I fl λTn h' I2 b=>?_);refine bX I2 zi b λh2 I3 b3=>?_;rw[YE]at I3 b3;obtain⟨oT,ts,h1,h2',h3⟩:=b3.tbk;exact⟨e,C,dx,Tn,oT,ts,_,rfl,I3.os,I3.bare,I3.base,I3.hok,zi,h1,h2',h3,b3.free,b3.new,by rw[YE];exact q⟩
def PSs.Lw{X:Cx}{E:Oc}{st:OG}{t:TS}(h:PSs (X.dw E) st t)(hE:∀v s,E v s->X.xe v s):PSs X st t:=λpins s σ H D I hw=>
 a0c (h pins s σ H D (I.dw E) hw) (λ_ _ q=>q.QI) hE
section
variable {P:Ot}{w:Ox}{K:OF}{mg:N_}{base:Heap}
def Fun.okX{x qual:Str}{st:OO}{f:Addr}{fd:OC}{N ps:Ob}{k:Nat}{sp:Sp}(F:Fun K x qual st f fd)(S:zE N ps (zh st))(len:∀vs H Q E,sp vs H Q E->vs.length=ps.length)
  (aO:∀(cdv:Value)(A:Oy)(outer:List Env)(s:Oe)(H:Hp)(vs:Oi)(Q:VK) (E:XK),kY k (A.deeper (envOfC qual (zh st) s.heap.objs.size f cdv))->sp vs H Q E->
   ∃t,PSs (thr (aU (CXe P w) P w K mg base N qual (zh st) f cdv A outer s H E) E) (vV st) t/\t { nx:=λ_ H'=>Q .non H',rt:=Q } (start N vs) H):qO P w K mg base (CXe P w) (k+1) f fd ps sp:=by
 obtain⟨oc,od,kV,doc,pm,an,cdv,ct,osl,rfl,lk,hcd⟩:=F.ex;refine Lj lk hcd S len λA outer s H vs Q E hr hsp=>?_;obtain⟨t,h,q⟩:=aO cdv A outer s H vs Q E hr hsp;exact⟨t,h.Lw λv s h=>FL h,q⟩
end
def FN(C:Addr)(sp:Sp)(E:XK)(t:TA):TE:=λσ H Q=>t σ H λvs H1=>vs.length<=1000/\∀x,H1 x=none->sp (.ref x::vs) (upd H1 x (XO x C none .none)) (λv H2=>v=.non/\Q (.ref x) H2) E
def Inv.Lx(I:Inv X pins σ H s):
  Inv X pins σ (upd H (s.heap.objs.size+1) (XO (s.heap.objs.size+1) C none .none)) { s with heap:=(s.heap.push (Bo us)).push (qo C none s.heap.objs.size .none #[]) }:=
 I.laid (t':=s.toks) (λb u e=>v4 _ (v4 _ e)) (a0w _) (XO.ok (t:=s.heap.objs.size) (sl:=#[]) (by heap_get))
def pF(M:XMk X.K C f)(F:qO X.prog X.w X.K X.mg X.base CX k f fd ps sp)(hr:kY (k+1) X.A)(hb:Binds X.K fd ps [])
  (hx:Passes CX X E) (I:Inv X pins σ H s) (r:Vals vs us) (hl:vs.length<=1000) (h:∀x,H x=none->sp (.ref x::vs) (upd H x (XO x C none .none)) (λv H2=>v=.non/\Q (.ref x) H2) E):
  wpAny (Ph X) X.A (call (.ref C) us) (EP X pins σ Q) X.xe s:=by
 have hq:=h (s.heap.objs.size+1) (I.hok.fresh (a0w _));have I2:=Inv.Lx (C:=C) (us:=us) I;have r2:Vals (V.ref (s.heap.objs.size+1)::vs) (Value.ref (s.heap.objs.size+1)::us):=.cons rfl r;have hl2:(Value.ref (s.heap.objs.size+1)::us++[]).length=ps.length:=by have e:=r2.length;rw[F.len _ _ _ _ hq]at e;rw[R8];exact e.symm
 have bd:=hb _ (Value.ref (s.heap.objs.size+1)::us) I2.kIn hl2;rw[R8]at bd;obtain⟨hh,g,d,tk,os⟩:=s;refine Lu M I.kIn (by rw[<- r.length,a0l];omega) (a0P (F.run _ X.stack _ _ ⟨_::us,[]⟩ _ _ _ E (hr.make C us []) (I2.m5.make C us []) bd r2 hq) λr s' hq'=>?_);cases r with
 |error e=>exact hx pins σ _ _ e s' I2 hq'
 |ok fl=>
  cases fl with
  |ret u=>obtain⟨v,H',I3,rv,ev,q3⟩:=I2.after hq';subst ev;exact⟨rv,⟨V.ref (hh.objs.size+1),H',I3,rfl,q3⟩⟩
  |next=>exact False.elim hq'
  |brk=>exact False.elim hq'
  |cont=>exact False.elim hq'
def xi(M:XMk X.K C f)(F:qO X.prog X.w X.K X.mg X.base CX k f fd ps sp)(hr:kY (k+1) X.A)(hg:Gl X x)(hm:X.mg x=some (.ref C))(hb:Binds X.K fd ps [])(hx:Passes CX X E)
  (ha:PA X (e::es) t) (hdb:(x==("__debug__":Str))=false:=by decide) (he:starEach (e::es) X.env=(false,eval e X.env)::starEach es X.env:=by rfl) (hpl:(backTo pos (starEach es X.env)).any (·.1)=false:=by rfl):
  PE X (.Call (.Name x p) (e::es) [] pos) (FN C sp E t):=by
 intro pins s σ H Q I h;refine a0x (Kx I hg hm ?_ hdb);refine a0Q (h₀:=X.base) I.ok.mod.kin M.kp (thn (ha pos pins s σ H _ I h) λus s1 ⟨vs,H1,I1,r,hl,q⟩=>⟨I1.kIn,?_⟩) he hpl;exact pF M F hr hb hx I1 r hl q
def Ly(K:OF)(ta tv:TE)(f:Str):TS:=λD σ H=>tv σ H λy H1=>ta σ H1 λx H2=>∃e C T,x=.ref e/\JN K C/\takerIn K C f=some none/\
  ((H2 e=some (XO e C none T)/\∀dx,H2 dx=none->D.nx σ (upd (upd H2 dx (XD dx [(f,y)])) e (XO e C (some dx) T)))\/
   (∃dx fs,H2 e=some (XO e C (some dx) T)/\H2 dx=some (XD dx fs)/\dx≠e/\fs.length<1000/\D.nx σ (upd H2 dx (XD dx (VU f y fs)))))
def Lz(K:OF)(ta:TE)(f:Str):TE:=λσ H Q=>ta σ H λx H1=>∃e C dx fs v,x=.ref e/\JN K C/\findIn K (.ref C) f=some none/\(H1 e=some (XC e C dx)\/∃T,H1 e=some (XO e C (some dx) T))/\H1 dx=some (XD dx fs)/\fs.lookup f=some v/\Q v H1
section
variable {X:Cx}{o value:Oq}{f:Str}{pos pos':Pos}{ta tv:TE}
def YF(ha:PE X o ta)(hv:PE X value tv)(hs:swapsWith value (some (.Attribute o f pos')) pos.line X.env=pure false):PS X (.Assign [.Attribute o f pos'] value pos) (Ly X.K ta tv f):=by
 intro pins s σ H D I h;refine a1U (thn (hv pins s σ H _ I h) λu s1 ⟨y,H1,I1,ry,q⟩=>thn (ha pins s1 σ H1 _ I1 q) λov s2 ⟨x,H2,I2,rx,e,C,T,ex,c,tk,q2⟩=>?_) hs;subst ex;obtain rfl:ov=Value.ref e:=rx;rcases q2 with⟨he,q2⟩|⟨dx,fs,he,hd,ne,l,q2⟩
 .obtain⟨t,sl,hx⟩:=XO.get (I2.hok e _ he);have hne:s2.heap.objs.size≠e:=a0O (O5 hx);have hfr:H2 s2.heap.objs.size=none:=I2.hok.fresh (O2 _);refine m7 I2.kIn c hx tk λh' hx' hn' kp=>⟨σ,_,?_,q2 _ hfr⟩;have lt:∀b o,s2.heap.get? b=some o->b≠s2.heap.objs.size:=λb o q=>P1 (O5 q);have ltH:∀b o,H2 b=some o->b≠s2.heap.objs.size:=λb o q z=>by rw[z,hfr]at q;cases q
  refine I2.un (h':=h') (t':=s2.toks+2) ⟨λb o q n _ _=>kp b o (λz=>by rw[z,he]at n;cases n) q,λb o q n _ _=>⟨o.slots,kp b o (λz=>by rw[z,he]at n;cases n) q⟩,λb o q n _=>?_,λb o q _=>?_,λb xs q=>?_,λb o u q=>?_,λb ps q=>⟨#[],?_⟩⟩ λb ob q=>?_
  .rw[zg (λz=>by rw[z,he]at n;cases n),zg (lt b o q)];exact n
  .by_cases hb:b=e
   .exact⟨_,hb▸hx'⟩
   .exact⟨o,kp b o hb q⟩
  .rw[zg (λz=>by rw[z,he]at q;cases q),zg (ltH b _ q)];exact q
  .rw[zg (λz=>by rw[z,he]at q;cases q),zg (ltH b _ q)];exact q
  .rw[zg (λz=>by rw[z,he]at q;cases q),zg (ltH b _ q),q];simp
  .by_cases hb:b=e
   .subst hb;rw[zi]at q;cases q;exact XO.ok hx'
   .rw[zg hb]at q;by_cases hb2:b=s2.heap.objs.size
    .subst hb2;rw[zi]at q;cases q;refine XD.ok hn' (λg=>?_) (λg hg=>?_) (by show 1<=1000;decide)
     .show WN (List.lookup g [(f,y)]) (if g=f then some u else none);by_cases z:g=f
      .subst z;rw[if_pos rfl];simp only[List.lookup,beq_self_eq_true];exact ry
      .rw[if_neg z];simp only[List.lookup,beq_eq_false_iff_ne.mpr z];exact True.intro
     .by_cases z:g=f
      .subst z;exact S0.mpr rfl
      .exact absurd (if_neg z) hg
    .rw[zg hb2]at q;refine(I2.hok b ob q).oC (λc v hc r=>kp c v ?_ r) (λc r=>?_) λc xs r=>?_
     .rcases hc with z|z
      .rw[z];exact hb
      .intro z2;rw[z2,he]at z;cases z
     .rw[zg (λz=>by rw[z,he]at r;cases r),zg (ltH c _ r)];exact r
     .rw[zg (λz=>by rw[z,he]at r;cases r),zg (ltH c _ r)];exact r
 .obtain⟨t,sl,hx⟩:=XO.get (I2.hok e _ he);obtain⟨mA,hn,r,wi,l1⟩:=XD.get (I2.hok dx _ hd);refine pC I2.kIn c hx hn ne tk wi (by rw[u8,a0l];omega) λh' hn' sb=>⟨σ,_,?_,q2⟩;have hdx:∃u,h'.get? dx=some u:=let⟨o,_,_,e',_⟩:=hn';⟨o,e'⟩
  refine I2.write (x:=dx) (e:=dx) (t':=s2.toks+2) (by rw[hd];exact True.intro) (.inl rfl) (λb u hb z=>(sb.2 b hb).trans z) hdx (XD.ok hn' (λg=>?_) (λg hg=>?_) ?_)
  .show WN ((VU f y fs).lookup g) (if g=f then some u else mA g);rw[Ky];by_cases q:g=f
   .rw[if_pos q,if_pos q];exact ry
   .rw[if_neg q,if_neg q];exact r g
  .by_cases q:g=f
   .rw[q];exact(QJ f y fs).1
   .refine(QJ f y fs).2 g (wi g λz=>hg ?_);show(if g=f then some u else mA g)=none;rw[if_neg q];exact z
  .have:=Kz f y fs;omega
def FO(I:Inv X pins σ H s)(he:H e=some (XC e C dx)\/∃T,H e=some (XO e C (some dx) T)):∃t T sl,s.heap.get? e=some (qo C (some dx) t T sl):=by
 rcases he with he|⟨T,he⟩
 .exact XC.get (I.hok e _ he)
 .obtain⟨t,sl,h⟩:=XO.get (I.hok e _ he);exact⟨t,T,sl,h⟩
def CT(he:PE X e ta)(hb:attributeBase e f X.env (eval e X.env)=eval e X.env):PE X (.Attribute e f pos) (Lz X.K ta f):=by intro pins s σ H Q I h;refine o9 hb (thn (he pins s σ H _ I h) λu s1 ⟨x,H1,I1,rx,a,C,dx,fs,v,ex,c,n,ea,ed,l,q⟩=>?_);subst ex;obtain rfl:u=Value.ref a:=rx;obtain⟨t,T,sl,hx⟩:=FO I1 ea;obtain⟨mA,hn,r,_,_⟩:=XD.get (I1.hok dx _ ed);obtain⟨u,hu,ru⟩:=WN.some_of (v:=v) (o:=mA f) (by rw[<- l];exact r f);exact NI I1.kIn c hx hn n hu (dE ru) ⟨v,H1,I1.tok _,ru,q⟩
def FP(K:OF)(E:XK)(te:TE):TS:=λ_ σ H=>te σ H λv H1=>∃e C dx,v=.ref e/\JN K C/\H1 e=some (XO e C (some dx) .none)/\E (.ref e) (some dx) (upd H1 e (XC e C dx))
def xj(hh:X.calm=true)(he:PE (thr X E) e te):PS (thr X E) (.Raise (some e) none pos) (FP X.K E te):=by
 intro pins s σ H D I h;rw[arm_exec_Raise];refine f8 (a1q ?_);show wpAny _ _ (raiseStmt X.env (some (do let v<-eval e X.env;standAt pos;pure v)) none) _ _ s;unfold raiseStmt;refine f8 (f8 (thn (he pins s σ H _ I h) λu s1 ⟨v,H1,I1,rv,a,C,dx,ev,c,hx,q⟩=>f8 (a1q (O0 ?_))));subst ev;obtain rfl:u=Value.ref a:=rv;obtain⟨t,sl,ho⟩:=XO.get (I1.hok a _ hx);obtain⟨cd,hcd,_⟩:=c.cd;have L0:Looks (Ph X) s1.heap (typeOf (.ref a)) (.ref C):=(Looks.ld ho).andThen .now;have Lb:Looks (Ph X) s1.heap (isSubtype (.ref C) (.type "BaseException")) true:=a2a I1.kIn (c.sub (x:="BaseException") (by decide));have LI:Looks (Ph X) s1.heap (isInstance (.ref a) (.type "BaseException")) true:=L0.andThen Lb;have fin:(thr X E).xe (.ref a) s1:=⟨σ,H1,a,C,dx,rfl,(I1.QI.dw _).i8,⟨.none,hx,.inl rfl⟩,q⟩;have hd:(thr X E).A.handled=none:=I1.ok.hd hh;have LT:Looks (Ph X) s1.heap (isType (.ref a)) false:=by intro A' Q' E' s' k q;unfold isType loadHead;exact f8 (a1h (k _ _ ho) (O0 q))
 have LE:Looks (Ph X) s1.heap (isExcClass (.ref a)) false:=LT.andThen .now;refine f8 (O0 ?_);dsimp only;refine f8 (a0i ?_);unfold excFromValue;refine f8 (LE.here ?_);simp only[Bool.false_eq_true,if_false];refine f8 (LI.here ?_);simp only[if_true];refine O0 (f8 (LT.here ?_));simp only[Bool.false_eq_true,if_false];have LC:Looks (Ph X) s1.heap (typeOf (.ref C)) (.type "type"):=looks_typeIn I1.kIn c.ty;have LR:Looks (Ph X) s1.heap (raisedInstance (.ref a)) (.ref a):=by unfold raisedInstance;refine L0.andThen (LC.andThen ?_);rw[if_pos (by simp)];exact .now
 refine f8 (LR.here (f8 (xg I1 hx ?_)));exact wpAny_raiseNew_none hd fin
end
def TyX(K:OF)(H:Hp)(x:V)(t:Value):Prop:=oE K H x t\/
 ∃e C dx fs,x=.ref e/\t=.ref C/\JN K C/\XIs K C/\(H e=some (XC e C dx)\/∃T,H e=some (XO e C (some dx) T))/\H dx=some (XD dx fs)
def LB:V->Option Value
 |.ref a=>some (.ref a)
 |.ty n=>some (.type n)
 |_=>none
def xk(r:RelV c u)(e:LB c=some v):u=v:=by
 cases c with
 |ref a=>cases e;exact r
 |ty n=>cases e;exact r
 |_=>cases e
def gI(I:Inv X pins σ H s)(rx:RelV x u)(ty:TyX X.K H x t):∃P,KitX X.K u t P/\P s.heap/\u≠.builtin "__main__.__loader__#opaque":=by
 rcases ty with ty|⟨e,C,dx,fs,rfl,rfl,c,z,he,hd⟩
 .cases ty with
  |non=>cases(show u=Value.none from rx);exact⟨_,kitx_none,True.intro,λz=>nomatch z⟩
  |bl y=>cases(show u=Value.bool y from rx);exact⟨_,kitx_bool,True.intro,λz=>nomatch z⟩
  |int i=>obtain⟨t,q⟩:=(show ∃t,u=Value.int i t from rx);cases q;exact⟨_,kitx_int,True.intro,λz=>nomatch z⟩
  |str y=>obtain⟨t,q⟩:=(show ∃t,u=Value.str y t from rx);cases q;exact⟨_,kitx_str,True.intro,λz=>nomatch z⟩
  |flt y=>obtain⟨t,q⟩:=(show ∃t,u=Value.float y t from rx);cases q;exact⟨_,kitx_float,True.intro,λz=>nomatch z⟩
  |@lst a xs ea=>cases(show u=Value.ref a from rx);obtain⟨_,_,n,_,h1⟩:=(show qE X.prog X.w H s.heap a (.lst xs)from I.hok a _ ea);exact⟨_,kitx_list,⟨_,h1,rfl⟩,λz=>nomatch z⟩
  |@frz a ob xs ea=>cases(show u=Value.ref a from rx);obtain⟨_,_,_,n,_,h1⟩:=(show qE X.prog X.w H s.heap a (.frz ob (.lst xs))from I.hok a _ ea);exact⟨_,kitx_list,⟨_,h1,rfl⟩,λz=>nomatch z⟩
  |@tup a xs ea=>cases(show u=Value.ref a from rx);obtain⟨_,_,_,p⟩:=(show qE X.prog X.w H s.heap a (.tup xs)from I.hok a _ ea);obtain⟨o,h1,h2,_⟩:=p;exact⟨_,kitx_tuple,⟨o,h1,h2⟩,λz=>nomatch z⟩
  |@dK a kvs ea=>cases(show u=Value.ref a from rx);obtain⟨_,_,vs,_,p⟩:=(show qE X.prog X.w H s.heap a (.dK kvs)from I.hok a _ ea);obtain⟨o,es,ep,h1,h2,_⟩:=p;exact⟨_,kitx_dict,⟨o,h1,h2.1⟩,λz=>nomatch z⟩
  |@dT a kvs ea=>cases(show u=Value.ref a from rx);obtain⟨_,_,xs,_,o,es,ep,h1,h2,_⟩:=(show qE X.prog X.w H s.heap a (.dT kvs)from I.hok a _ ea);exact⟨_,kitx_dict,⟨o,h1,h2.1⟩,λz=>nomatch z⟩
  |@ins a C dx fs ea cl ha hn htk hm=>cases(show u=Value.ref a from rx);obtain⟨mA,O,_⟩:=bP I.hok ea;obtain⟨od,J,_⟩:=O.look;exact⟨_,kitx_own (cl.get _) cl.hd ha hn htk hm,J,λz=>nomatch z⟩
 .cases(show u=Value.ref e from rx);obtain⟨t,T,sl,hx⟩:=FO I he;obtain⟨mA,hn,_⟩:=XD.get (I.hok dx _ hd);obtain⟨od,hod,_⟩:=K7 hn;exact⟨_,xh c z,⟨hx,rfl,rfl,hod⟩,λz=>nomatch z⟩
def XP(X:Cx)(pins:Oa)(σ:St)(Z:XK)(v:Value)(s':Oe):Prop:=∃H' e C dx,v=.ref e/\Inv X pins σ H' s'/\Fl X pins H' s' e C (some dx)/\Z (.ref e) (some dx) (upd H' e (XC e C dx))
abbrev TEx:=St->Hp->VK->XK->Prop
abbrev TSx:=Ends->XK->St->Hp->Prop
def PEx(X:Cx)(e:Oq)(t:TEx):Prop:=
 ∀(pins:Oa)(s:Oe)(σ:St)(H:Hp)(Q:VK)(Z:XK),Inv X pins σ H s->t σ H Q Z->wpAny (Ph X) X.A (eval e X.env) (EP X pins σ Q) (XP X pins σ Z) s
def PSx(X:Cx)(st:OO)(t:TSx):Prop:=
 ∀(pins:Oa)(s:Oe)(σ:St)(H:Hp)(D:Ends)(Z:XK),Inv X pins σ H s->t D Z σ H->wpAny (Ph X) X.A (exec st X.env) (SP X pins D) (XP X pins σ Z) s
def LD(X:Cx)(st:OG)(t:TSx):Prop:=
 ∀(pins:Oa)(s:Oe)(σ:St)(H:Hp)(D:Ends)(Z:XK),Inv X pins σ H s->t D Z σ H->wpAny (Ph X) X.A (execs st X.env) (SP X pins D) (XP X pins σ Z) s
def PA.nox(h:PA X.nox es t)(pos:Pos)(I:Inv X pins σ H s)(hw:t σ H Q):
  wpAny (Ph X) X.A (spliced (backTo pos (starEach es X.env))) (AP X pins σ Q) E s:=
 a0c (h pos pins s σ H Q (I.dw _) hw) (λ_ _ ⟨vs,H',I',r,q⟩=>⟨vs,H',I'.QI,r,q⟩) λ_ _ z=>False.elim z
def xl(he:PEx X e tx)(hs:swapsWith e none pos.line X.env=pure false:=by rfl):PSx X (.Expr e pos) (λD Z σ H=>tx σ H (λ_ H1=>D.nx σ H1) Z):=by intro pins s σ H D Z I h;exact wpAny_Expr_any (thn (he pins s σ H _ Z I h) λv s1 ⟨x,H1,I1,r1,q1⟩=>⟨σ,H1,I1,q1⟩) I.quiet hs
def xm{st:OO}{t:TSx}(h1:PSx X st t):LD X [st] t:=by
 intro pins s σ H D Z I h;refine a2u (thn (h1 pins s σ H D Z I h) λf s1 q=>?_);cases f with
 |next=>exact a1b q
 |ret v=>exact q
 |brk=>exact q
 |cont=>exact q
abbrev Cx.held(X:Cx)(v:Value):Cx:={ X with A:=X.A.mark (some v),calm:=false,xe:=λ_ _=>False }
def Inv.held(I:Inv X pins σ H s)(v:Value):Inv (X.held v) pins σ H s:=
 ⟨⟨I.ok.mod,I.ok.kind,I.ok.glob,I.ok.blt,I.ok.above,I.ok.inj,I.ok.has,I.ok.cab,λz=>Bool.noConfusion z,I.ok.frames,I.ok.stk,I.ok.exf,I.ok.bs,I.ok.bsz,I.ok.EF,I.ok.EG,I.ok.dz,I.ok.frf⟩,I.os,I.bare,I.base,I.loc,I.cell,I.free,I.VG,I.pin,I.hok,I.len⟩
def Inv.FQ(I:Inv (X.held v) pins σ H s)(ok:X.Ok):Inv X pins σ H s:=
 ⟨ok,I.os,I.bare,I.base,I.loc,I.cell,I.free,I.VG,I.pin,I.hok,I.len⟩
def Inv.blank(I:Inv X pins σ H s)(hn:h'.Ns X.env.locals m')(hs:Heap.SameBut X.env.locals s.heap h'):Inv X pins (List.replicate X.N.length none) H { s with heap:=h',toks:=t' }:=by
 have ne:∀b o,X.s₀.heap.get? b=some o->b≠X.env.locals:=λb o e=>P1 (P4 (O5 e) I.ok.above);have neH:∀b o,H b=some o->b≠X.env.locals:=λb o q z=>by rw[z,I.free]at q;cases q
 refine⟨I.ok,I.os,I.bare,⟨λb o e n hb hx=>(hs.2 b (ne b o e)).trans (I.base.keep b o e n hb hx),λb o e n hb hx=>?_,λb o e n hx=>I.base.free b o e n hx,λb o e hx=>?_,I.base.oH,I.base.uK,I.base.A7⟩,⟨m',hn,λi x v _ e2 _=>?_⟩,λx c e=>?_,I.free,I.VG,λp hp=>?_,λb u e=>?_,by simp⟩
 .obtain⟨sl,q⟩:=I.base.slot b o e n hb hx;exact⟨sl,(hs.2 b (ne b o e)).trans q⟩
 .obtain⟨o',q⟩:=I.base.there b o e hx;exact⟨o',(hs.2 b (ne b o e)).trans q⟩
 .rw[a0J]at e2;split at e2<;>cases e2
 .obtain⟨v,o,ho,hd⟩:=I.cell x c e;exact⟨v,o,(hs.2 c (I.cne x c e)).trans ho,hd⟩
 .obtain⟨e,n,nL,nf,d⟩:=I.pin p hp;exact⟨(hs.2 p.1 nL).trans e,n,nL,nf,d⟩
 .refine(I.hok b u e).oC (λc w hc r=>(hs.2 c ?_).trans r) (λ_ r=>r) λ_ _ r=>r;rcases hc with z|z
  .rw[z];exact neH b u e
  .exact neH c _ z
def name_goes(I:Inv X pins σ H s)(hl:X.env.kindOf n=some .local)
  (hQ:∀s',Inv X pins (List.replicate X.N.length none) H s'->Q () s'):wpAny M A (do bindName X.env n .none;unbindBehindTheSuite X.env n pos) Q E s:=by
 obtain⟨m,hn,_⟩:=id I.loc;exact wpAny_nameGoes hl hn (by rw[I.ok.kind];rfl) λh' m' hn' hs=>hQ _ (I.blank hn' hs)
structure Catch(K:OF)(C F:Addr)(b:Bool):Prop where
 ty:typeIn K (.ref F)=some (.type "type")
 cl:(clsIn K F).isSome=true
 ex:subIn K (.ref F) (.type "BaseException")=some true
 su:subIn K (.ref C) (.ref F)=some b
def gJ{K:OF}{M:Model}{h:Heap}{e C F:Addr}{b:Bool}{o:Obj}(X:K.In h)(he:h.get? e=some o)(hc:o.cls=.ref C)(k:Catch K C F b):Looks M h (excMatches (.ref e) (.ref F)) b:=by
 have L0:Looks M h (typeOf (.ref e)) (.ref C):=hc▸(Looks.ld he).andThen .now;have L1:Looks M h (typeOf (.ref F)) (.type "type"):=looks_typeIn X k.ty;have L2:Looks M h (isInstance (.ref F) (.type "tuple")) false:=L1.andThen (Looks.of_pure tc_notTuple);have L3:Looks M h (isType (.ref F)) true:=by
  have hcl:=k.cl;unfold clsIn at hcl;split at hcl
  .rename_i c' d' cd' sl' hl;intro A' Q' E' s' kk q;unfold isType loadHead;exact f8 (a1h (kk _ _ (X _ _ hl)) (O0 q))
  .cases hcl
 have L4:Looks M h (isExcClass (.ref F)) true:=L3.andThen (looks_subIn X k.ex);have L5:=looks_subIn (M:=M) X k.su;intro A Q E s kk q;obtain⟨hp,g,d,tk,os⟩:=s;have M0:=L0.keeps kk;have M2:=L2.keeps kk;have M4:=L4.keeps kk;have M5:=L5.keeps kk;clear L0 L1 L2 L3 L4 L5;unfold excMatches;cases b with
 |true=>(repeat lk);exact q
 |false=>(repeat lk);exact q
def NJ(K:OF)(F:Addr)(tb:TSx)(i:Nat)(ts:Addr->TS):TS:=λD σ H=>
 tb D (λv o H'=>∃e C dx,v=.ref e/\o=some dx/\H' e=some (XC e C dx)/\Catch K C F true/\ts e { nx:=λ_ _=>False,rt:=D.rt } (σ.set i (some (.ref e))) H') σ H
def FR(own:Own X)(hb:LD X body tb)(hg:Gl X cx)(hm:X.mg cx=some (.ref F))
  (hN:X.N.Nodup) (hi:X.N[i]?=some n) (hx:Loc X.env.scope n) (hl:X.env.kindOf n=some .local) (hs:∀e,PSs (X.held (.ref e)) (b₀::suite) (ts e))
  (hdb:(cx==("__debug__":Str))=false:=by decide) (hf:X.fn n=true\/X.env.scope.names.lookup n=some .local:=by first|exact .inl rfl|exact .inr rfl|assumption):
  PS X (.Try body [.ExceptHandler (some (.Name cx np)) (some n) (b₀::suite) hp] [] [] pos) (NJ X.K F tb i ts):=by
 intro pins s σ H D I h;refine wpAny_Try_except (a0c (hb pins s σ H D _ I h) (λf s1 q=>?_) λv s1 q=>?_)
 .cases f with
  |next=>exact a1b q
  |ret u=>exact q
  |brk=>exact q
  |cont=>exact q
 .obtain⟨H',e,C,dx,rfl,I1,fl,e',C',dx',ee,ed,hC,kc,q⟩:=q;cases ee;cases ed;refine bZ own I1.ok.frames I1 fl λTn h2 I2 b2=>?_;refine bX I2 zi b2 λh3 I3 b3=>?_;rw[YE]at I3 b3;have fA:∀(h:Heap),Inv X pins σ (upd H' e (XO e C (some dx) (.ref Tn))) { s1 with heap:=h }->∃o,h.get? e=some o/\o.cls=.ref C':=λh I'=>by have J:=I'.pE zi;rw[YE]at J;obtain⟨t,T,sl,ho⟩:=XC.get (J.hok e _ hC);exact⟨_,ho,rfl⟩
  refine wpAny_handleBy_cons (codeAny_handlers_test ?_) (λz=>by cases z);refine Kx (X:=X.held (.ref e)) (I3.held _) hg hm ?_ hdb;obtain⟨o,ho,hoc⟩:=fA _ I3;refine(gJ I3.kIn ho hoc kc).here ?_;refine codeAny_handlers_suite_as ?_;refine bX I3 zi b3 λh4 I4 b4=>?_;rw[YE]at I4 b4;refine bL (X:=X) I4 hN hi hx (v:=.ref e) rfl (λs5 I5=>?_) hf;have J5:=(I5.pE zi).held (.ref e);rw[YE]at J5;refine a0c (hs e pins s5 _ _ _ J5 q) (λf s6 z=>?_) λ_ _ z=>False.elim z;cases f with
  |ret u=>obtain⟨v,σ',H6,I6,rv,q6⟩:=z;exact name_goes (X:=X) (I6.FQ I.ok) hl λs7 I7=>⟨v,_,H6,I7,rv,q6⟩
  |next=>obtain⟨_,_,_,z⟩:=z;exact False.elim z
  |brk=>obtain⟨_,_,_,z⟩:=z;exact False.elim z
  |cont=>obtain⟨_,_,_,z⟩:=z;exact False.elim z
def xn(i j:Int):Prop:=i.natAbs<2 ^ 8192/\j.natAbs<2 ^ 8192
def xn.ok(h:xn i j):IntMulOk i j:=IntMulOk.of_le (intBits_le_iff.mpr h.1) (intBits_le_iff.mpr h.2) (by decide)
def CU:OpR X (binaryOp .Mult) (rI xn λi j=>.int (i*j)):=opI λ_ _ _ _ _ _ _ hc q=>mul_int q hc.ok
section
variable {H:Hp}{Q:VK}{i j:Int}{x y:Str}{v:V}{o:Option V}{r:St}{n:Nat}
end
section
variable {K:OF}{C:Addr}{f g:Str}{E E':XK}{D:Ends}{σ:St}{H:Hp}{v u:V}{te tu:TE}
end
def zI.upd{H:Hp}{p:Addr}{o:HO}(h:H p=Option.none):zI H (upd H p o):=λb q e=>by rw[zg (zZ e h)];exact e
def gK(cells:OH):List (Str×NameKind)->List (Str×Addr)->List (Str×Addr)
 |[],cs=>cs
 | (n,k)::r,cs=>gK cells r (if k == .free then(match cells.lookup n with|some c=>(n,c)::cs|none=>cs)else cs)
def Wg{env:Env}:∀(names:OJ)(cs:OH),(∀y∈names,y.2=.free->(env.cells.lookup y.1).isSome=true)->
  (forIn names cs λx r=>if(x.2==NameKind.free)=true then do let a<-cellOf env x.1;pure (ForInStep.yield ((x.1,a)::r))else pure (ForInStep.yield r))=(pure (gK env.cells names cs):Sem _)
 |[],cs,_=>rfl
 | (n,k)::r,cs,h=>by
  rw[List.forIn_cons];have ih:=λcs=>Wg (env:=env) r cs λy hy=>h y (O3 _ hy);unfold gK;by_cases hk:(k==NameKind.free)=true
  .have hs:=h (n,k) O1 (S9.mp hk);obtain⟨c,hc⟩:=a0q.mp hs;have hc':List.lookup n env.cells=some c:=hc;simp only[hk,if_true,cellOf,hc',pure_bind];exact ih _
  .have hk':(k==NameKind.free)=false:=by simpa using hk
   simp only[hk',Bool.false_eq_true,if_false,pure_bind];exact ih _
def m9(h:∀y∈scope.names,y.2=.free->(env.cells.lookup y.1).isSome=true):closureFor scope env=pure (gK env.cells scope.names []):=by have:=Wg scope.names [] h;simp only[closureFor];rw[this];rfl
def Jz{cells:OH}{x:Str}{c:Addr}:∀(names:OJ)(cs:OH),(∀d,cs.lookup x=some d->cells.lookup x=some d)->(gK cells names cs).lookup x=some c->cells.lookup x=some c
 |[],cs,h,e=>h c e
 | (n,k)::r,cs,h,e=>by
  unfold gK at e;refine Jz r _ (λd hd=>?_) e;by_cases hk:(k==NameKind.free)=true
  .rw[if_pos hk]at hd;split at hd
   .rename_i c' hc';rw[T0]at hd;split at hd
    .rename_i hx;cases hd;rw[S9.mp hx];exact hc'
    .exact h d hd
   .exact h d hd
  .rw[if_neg hk]at hd;exact h d hd
def b_{cells:OH}{x:Str}:∀(names:OJ)(cs:OH),((cs.lookup x).isSome=true\/((x,NameKind.free)∈names/\(cells.lookup x).isSome=true))->((gK cells names cs).lookup x).isSome=true
 |[],cs,h=>by
  rcases h with h|⟨h,_⟩
  .exact h
  .cases h
 | (n,k)::r,cs,h=>by
  unfold gK;refine b_ r _ ?_;rcases h with h|⟨h,hc⟩
  .left;by_cases hk:(k==NameKind.free)=true
   .rw[if_pos hk];split
    .rw[T0];split
     .rfl
     .exact h
    .exact h
   .rw[if_neg hk];exact h
  .rcases P8.mp h with e|e
   .left;cases e;rw[if_pos (by rfl)];obtain⟨c,hc⟩:=a0q.mp hc;rw[hc,T0];simp
   .exact .inr ⟨e,hc⟩
def CV{x:Str}{c:Addr}:∀(names:OJ)(h:Heap)(cs:OH),(cellsFrom h.objs.size names cs).lookup x=some c->cs.lookup x=some c\/(h.objs.size<=c/\∃v,(pushCells h names).IsCell c v)
 |[],_,_,e=>.inl e
 | (n,k)::r,h,cs,e=>by
  unfold cellsFrom at e;unfold pushCells;split at e
  .rename_i hk;rw[if_pos hk];have e':(cellsFrom (h.push { cls:=.type "cell",data:=.cell none }).objs.size r ((n,h.objs.size)::cs)).lookup x=some c:=by rw[a0v];exact e
   rcases CV r _ _ e' with z|⟨z,v⟩
   .rw[T0]at z;split at z
    .cases z;exact .inr ⟨O2 _,none,_,a2M r _ _ _ (P2 _ rfl),rfl⟩
    .exact .inl z
   .rw[a0v]at z;exact .inr ⟨a2o z,v⟩
  .rename_i hk;rw[if_neg hk];exact CV r h cs e
def pG:∀(names:OJ)(lo:Nat)(cs:OH),(∀x y c,cs.lookup x=some c->cs.lookup y=some c->x=y)->(∀x c,cs.lookup x=some c->c<lo)->∀x y c,(cellsFrom lo names cs).lookup x=some c->(cellsFrom lo names cs).lookup y=some c->x=y
 |[],_,_,h,_=>h
 | (n,k)::r,lo,cs,h,hl=>by
  unfold cellsFrom;split
  .refine pG r _ _ (λx y c e1 e2=>?_) λx c e=>?_
   .rw[T0]at e1 e2;split at e1<;>split at e2
    .rename_i q1 _ q2;rw[S9.mp q1,S9.mp q2]
    .cases e1;exact absurd (hl _ _ e2) (a0t _)
    .cases e2;exact absurd (hl _ _ e1) (a0t _)
    .exact h x y c e1 e2
   .rw[T0]at e;split at e
    .cases e;exact a0a _
    .exact a1I (hl x c e)
  .exact pG r _ _ h hl
def pH{x:Str}:∀(names:OJ)(lo:Nat)(cs:OH),((cs.lookup x).isSome=true\/(x,NameKind.cell)∈names)->((cellsFrom lo names cs).lookup x).isSome=true
 |[],_,_,h=>h.elim id λz=>nomatch z
 | (n,k)::r,lo,cs,h=>by
  unfold cellsFrom;split
  .refine pH r _ _ ?_;rcases h with h|h
   .left;rw[T0];split
    .rfl
    .exact h
   .rcases P8.mp h with e|e
    .cases e;left;rw[T0];simp
    .exact .inr e
  .rename_i hk;refine pH r _ _ (h.imp id λz=>?_);rcases P8.mp z with e|e
   .cases e;exact absurd rfl hk
   .exact e
def pJ{x:Str}:∀(names:OJ)(lo:Nat)(cs:OH),(x,NameKind.cell)∉names->(cellsFrom lo names cs).lookup x=cs.lookup x
 |[],_,_,_=>rfl
 | (n,k)::r,lo,cs,h=>by
  unfold cellsFrom;split
  .rename_i hk;rw[pJ r _ _ λz=>h (O3 _ z),T0];have:(x==n)=false:=by
    cases q:x==n with
    |false=>rfl
    |true=>exact absurd (by rw[S9.mp q,S9.mp hk];exact O1) h
   rw[this]
  .exact pJ r _ _ λz=>h (O3 _ z)
def pK{x:Str}{c:Addr}:∀(names:OJ)(lo b:Nat)(cs:OH),b<=lo->((x,NameKind.cell)∈names\/∀d,cs.lookup x=some d->b<=d)->(cellsFrom lo names cs).lookup x=some c->b<=c
 |[],_,_,_,_,h,e=>h.elim (λz=>nomatch z) λz=>z c e
 | (n,k)::r,lo,b,cs,hb,h,e=>by
  unfold cellsFrom at e;split at e
  .refine pK r _ b _ (a1J hb) ?_ e;rcases h with h|h
   .rcases P8.mp h with z|z
    .cases z;refine .inr λd hd=>?_;rw[T0]at hd;simp at hd;rw[<- hd];exact hb
    .exact .inl z
   .refine .inr λd hd=>?_;rw[T0]at hd;split at hd
    .cases hd;exact hb
    .exact h d hd
  .rename_i hk;refine pK r _ b _ hb (h.imp (λz=>?_) id) e;rcases P8.mp z with q|q
   .cases q;exact absurd rfl hk
   .exact q
def m_
  (h:Q (newEnv scope s.heap.objs.size globals (cellsFrom (s.heap.objs.size+1) scope.names cl) qual none .none (some env) builtinsNs) { s with heap:=pushCells (s.heap.push { cls:=.type "dict",data:=.dict #[] }) scope.names }):
  wpAny M A (newFunctionEnv scope globals cl [] qual none .none (some env)) Q E s:=by
 simp only[newFunctionEnv,Option.isSome_some,if_true];refine f8 (wpAny_alloc ?_);refine f8 (wpAny_layCells _ (λname kind cells=>by cases hkc:kind==NameKind.cell<;>simp[hkc]) _ _ _ _ ?_);rw[show({ s with heap:=s.heap.push { cls:=.type "dict",data:=.dict #[] } }:Shared).heap.objs.size=s.heap.objs.size+1 from a0v ..];refine f8 ?_;rw[List.forIn_nil];exact O0 (O0 h)
abbrev i9(scope:Scope)(cl:OH)(L:Addr)(env:Env):Env:={ compEnvC scope cl L env with cells:=cellsFrom (L+1) scope.names cl }
abbrev qY(X:Cx)(scope:Scope)(N:Ob)(fp:OP)(pn:Oa)(s:Oe)(H:Hp)(L:Addr):Cx:=
 { X with N:=N,s₀:=s,H₀:=H,env:=i9 scope (gK X.env.cells scope.names []) L X.env,outer:=X.stack,ex:=fp,fn:=λx=>scope.names.contains (x,.cell),pn:=pn,xe:=λ_ _=>False }
def xo(X:Cx)(scope:Scope)(N:Ob)(fr:Ow):Bool:=
 scope.kind == .function&&scope.names.all (λy=>y.2 != .cell || !scope.names.contains (y.1,.free))&&scope.names.all (λy=>y.2 != .local||scope.names.lookup y.1==some .local) &&
 scope.names.all (λy=>y.2 != .free||(X.env.kindOf y.1==some .cell||X.env.kindOf y.1==some .free))&&N.length==fr.length &&
 (N.zip fr).all λp=>match p.2 with|none=>true|some j=>X.N[j]?==some p.1&&scope.names.contains (p.1,.free)&&((relabel scope X.env).names.lookup p.1==some .cell||(relabel scope X.env).names.lookup p.1==some .free)
def uD(σ:St)(fr:Ow):St:=fr.map λo=>match o with|none=>none|some j=>(σ[j]?).join
def PTs(X:Cx)(ifs:Om)(t:TT):Prop:=
 ∀(pins:Oa)(s:Oe)(σ:St)(H:Hp)(Q:Bool->Hp->Prop),Inv X pins σ H s->t σ H Q->
  wpAny (Ph X) X.A (forIn ifs true λc r=>if r=true then do let ok<-isTrue c X.env (eval c X.env);pure (ForInStep.yield ok)else pure (ForInStep.yield r)) (TP X pins σ Q) X.xe s
def NK:TT:=λ_ H Q=>Q true H
def CW:PTs X [] NK:=λ_ _ σ H _ I h=>wpAny_tests_nil ⟨H,I,h⟩
def CY(h:PT X c t):PTs X [c] t:=λpins s σ H Q I q=>wpAny_tests_one (h pins s σ H Q I q)
def d7(h:(relabel scope env).names.lookup x=some .cell\/(relabel scope env).names.lookup x=some .free):(x,NameKind.free)∈scope.names\/(x,NameKind.cell)∈scope.names:=by
 have key:∀(names:OJ) k,(names.map λ(n,k)=>if(k==NameKind.free&&env.scope.kind == .function&&env.kindOf n==some .cell)then(n,NameKind.cell)else(n,k)).lookup x=some k->(k=.cell\/k=.free)->(x,NameKind.free)∈names\/(x,NameKind.cell)∈names:=by
  intro names
  induction names with
  |nil=>intro k e _;simp at e
  |cons y r ih=>
   intro k e hk;obtain⟨n,kd⟩:=y;rw[O8,T0]at e;by_cases q:(kd==NameKind.free&&env.scope.kind == .function&&env.kindOf n==some .cell)=true
   .simp only[q,if_true]at e;split at e
    .rename_i hx;have hf:kd=.free:=by simp only[Bool.and_eq_true,beq_iff_eq]at q;exact q.1.1
     left;rw[S9.mp hx,hf];exact O1
    .exact(ih k e hk).imp (O3 _) (O3 _)
   .simp only[q,Bool.false_eq_true,if_false]at e;split at e
    .rename_i hx;have e':kd=k:=T4 e;rcases hk with z|z
     .right;rw[S9.mp hx,e',z];exact O1
     .left;rw[S9.mp hx,e',z];exact O1
    .exact(ih k e hk).imp (O3 _) (O3 _)
 rcases h with h|h
 .exact key _ _ h (.inl rfl)
 .exact key _ _ h (.inr rfl)
def gL(I:Nat->Shared->Prop)
  (turn:∀n s,I n s->wpAny (model prog w) A (pyNext it) (λr s1=>match r with
   |none=>R (.ok .next) s1
   |some v=>wpAny (model prog w) A (letOwnedTupleGo target it v) (λ_ s1'=>wpAny (model prog w) A (assign target env v) (λ_ s2=>
     wpAny (model prog w) A (forIn ifs true λc r=>if r=true then do let ok<-isTrue c env (eval c env);pure (ForInStep.yield ok)else pure (ForInStep.yield r)) (λok s3=>
      if ok=true then wpAny (model prog w) A (eval elt env) (λx s4=>wpAny (model prog w) A (call (.builtin "list.append") [acc,x]) (λ_ s5=>∃m,m<n/\I m s5) (λ_ _=>False) s4) (λ_ _=>False) s3
      else ∃m,m<n/\I m s3) (λ_ _=>False) s2) (λ_ _=>False) s1') (λ_ _=>False) s1) (λ_ _=>False) s)
  (n:Nat) (h:I n s):codeAny (model prog w) A (.compLoop (.ListComp elt [⟨target,kX,ifs,0⟩] scope pos) 0 it acc env) R s:=by
 refine codeAny_loop rfl I (λn s hI=>?_) n h;show wpAny _ A ((compTurn (.ListComp elt [⟨target,kX,ifs,0⟩] scope pos) 0 it acc env).onRaise (λx=>do noteFrame x env;theTreesLotGoes x)) _ _ s;refine wpAny_noted ?_;rw[compTurn_list];refine f8 (a1q (f8 (a0c (turn n s hI) (λr s1 h1=>?_) λ_ _ z=>False.elim z)));cases r with
 |none=>exact O0 h1
 |some v=>
  refine f8 (a0c h1 (λ_ s1' h1'=>f8 (a0c h1' (λ_ s2 h2=>f8 (a0c h2 (λok s3 h3=>?_) λ_ _ z=>False.elim z)) λ_ _ z=>False.elim z)) λ_ _ z=>False.elim z);cases ok with
  |false=>exact O0 ⟨rfl,h3⟩
  |true=>exact f8 (f8 (a0c h3 (λx s4 h4=>f8 (a0c h4 (λ_ s5 h5=>O0 (O0 ⟨rfl,h5⟩)) λ_ _ z=>False.elim z)) λ_ _ z=>False.elim z))
def ng{X:Cx}{pins:Oa}{σ:St}{H2:Hp}{s2:Oe}{elt kX tg:Oq}{ifs:Om}{scope:Scope}{pos:Pos}{N:Ob}{fr:Ow}{it:Addr}{fp:OP}{tn:Nat->Heap->Prop}{J:It}
  {E:Oc}{RR:Value->Addr->Result->Shared->Prop}
  (hc:X.calm=true) (hok:xo X scope N fr=true) (I2:Inv X pins σ H2 s2) (T:Turn X.prog X.w X.K tg J fp it tn) (st:tn 0 s2.heap) (f2:∀b∈fp,mR X pins H2 b)
  (k:∀(s3:Oe)(h1:Heap),Inv X pins σ (upd H2 s2.heap.objs.size (.lst [])) s3->Inv (qY X scope N fp (X.pn++pins) s3 (upd H2 s2.heap.objs.size (.lst [])) s3.heap.objs.size) [] (uD σ fr) (upd H2 s2.heap.objs.size (.lst [])) { s3 with heap:=h1,toks:=s3.toks+0 }->(∀b o,s2.heap.get? b=some o->h1.get? b=some o)->(∀b∈fp,(upd H2 s2.heap.objs.size (.lst [])) b=none)->(∀H':Hp,(∀b∈fp,H' b=none)->∀b∈fp,mR (qY X scope N fp (X.pn++pins) s3 (upd H2 s2.heap.objs.size (.lst [])) s3.heap.objs.size) [] H' b)->
   codeAny (Ph X) X.A (.compLoop (.ListComp elt [⟨tg,kX,ifs,0⟩] scope pos) 0 (.ref it) (.ref s2.heap.objs.size) (i9 scope (gK X.env.cells scope.names []) s3.heap.objs.size X.env)) (RR (.ref s2.heap.objs.size) s3.heap.objs.size) { s3 with heap:=h1,toks:=s3.toks+0 }):
  wpAny (Ph X) X.A (newList []) (λacc s3=>wpAny (Ph X) X.A (newFunctionEnv scope X.env.globals (gK X.env.cells scope.names []) [] X.env.qual none .none (some X.env)) (λcenv s4=>
   codeAny (Ph X) X.A (.compStart (.ListComp elt [⟨tg,kX,ifs,0⟩] scope pos) 0 (.ref it) acc { cenv with scope:=relabel scope X.env }) (RR acc cenv.locals) s4) E s3) E s2:=by
 unfold xo at hok;simp only[Bool.and_eq_true,beq_iff_eq,List.all_eq_true]at hok;obtain⟨⟨⟨⟨⟨k1,k2⟩,k3⟩,k4⟩,k5⟩,k6⟩:=hok;have hcf:∀x,(x,NameKind.free)∈scope.names->(x,NameKind.cell)∉scope.names:=λx hf hc'=>by have:=k2 _ hc';simp only[bne_self_eq_false,Bool.false_or,Bool.not_eq_true',List.contains_eq_mem,decide_eq_false_iff_not]at this;exact this hf
 refine a01 ?_;have I3:Inv X pins σ (upd H2 s2.heap.objs.size (.lst [])) { s2 with heap:=s2.heap.push { cls:=.type "list",data:=.seq ([]:List Value).toArray } }:=I2.Lm (ys:=[]) (its:=[]) (t':=s2.toks) .nil (T6 _);refine m_ ?_;generalize hs3:({ s2 with heap:=s2.heap.push { cls:=.type "list",data:=.seq ([]:List Value).toArray } }:Shared)=s3 at I3 ⊢;have hns1:=(Heap.Ns.new s3.heap (.type "dict")).keeps (a2M scope.names _);have kp1:∀b o,s3.heap.get? b=some o->(pushCells (s3.heap.push { cls:=.type "dict",data:=.dict #[] }) scope.names).get? b=some o:=λb o e=>a2M _ _ b o (v4 _ e);have cor:∀x c,(cellsFrom (s3.heap.objs.size+1) scope.names (gK X.env.cells scope.names [])).lookup x=some c->X.env.cells.lookup x=some c\/(s3.heap.objs.size+1<=c/\∃v,(pushCells (s3.heap.push { cls:=.type "dict",data:=.dict #[] }) scope.names).IsCell c v):=λx c e=>by have:=CV (x:=x) (c:=c) scope.names (s3.heap.push { cls:=.type "dict",data:=.dict #[] }) (gK X.env.cells scope.names []) (by rw[a0v];exact e);rw[a0v]at this;exact this.imp (Jz _ [] λ_ z=>by simp at z) id
 generalize hh1:pushCells (s3.heap.push { cls:=.type "dict",data:=.dict #[] }) scope.names=h1 at hns1 kp1 cor ⊢;have kp0:∀b o,s2.heap.get? b=some o->s3.heap.get? b=some o:=λb o e=>by rw[<- hs3];exact v4 _ e
 have fp3:∀b∈fp,b<s3.heap.objs.size/\(upd H2 s2.heap.objs.size (.lst [])) b=none:=λb hb=>by obtain⟨o,ho,_⟩:=T.obj _ _ st b hb;refine⟨O5 (kp0 _ _ ho),?_⟩;rw[zg (P1 (O5 ho))];exact(f2 b hb).1
 have okc:(qY X scope N fp (X.pn++pins) s3 (upd H2 s2.heap.objs.size (.lst [])) s3.heap.objs.size).Ok:=by
  refine⟨I3.ok.mod,k1,I3.ok.glob,I3.ok.blt,O2 _,pG _ _ _ (λx y c e1 e2=>I3.ok.inj x y c (Jz _ [] (λ_ z=>by simp at z) e1) (Jz _ [] (λ_ z=>by simp at z) e2)) (λx c e=>?_),λx hx=>?_,λx c z e=>?_,λ_=>I3.ok.hd hc,I3.ok.frames,.inl rfl,
   λb hb=>⟨P1 (fp3 b hb).1,λx c e=>?_⟩,I3.bs,P7 I3.ok.bsz I3.sz,λb o e hb=>?_,λb hb z=>?_,I3.stack,I3.bJ⟩
  .obtain⟨v,hv⟩:=I3.cell x c (Jz _ [] (λ_ z=>by simp at z) e);exact a1I hv.lt
  .refine a0q.mp (pH _ _ _ ?_);rcases d7 hx with hf|hf
   .have hk:=k4 _ hf;simp only[bne_self_eq_false,Bool.false_or,Bool.or_eq_true,beq_iff_eq]at hk;obtain⟨c,hcx⟩:=I3.ok.has x hk;exact .inl (b_ _ [] (.inr ⟨hf,by rw[hcx];rfl⟩))
   .exact .inr hf
  .exact pK scope.names (s3.heap.objs.size+1) s3.heap.objs.size _ (a0w _) (.inl (List.contains_iff_mem.mp z)) e
  .rcases cor x c e with z|⟨z,_⟩
   .exact(f2 b hb).2.2.2.2.1 x c z
   .exact λq=>absurd (a1c (a2o z) (show c<s3.heap.objs.size by rw[q];exact(fp3 b hb).1)) (a0t _)
  .rcases(f2 b hb).2.2.2.1 with z|z
   .exact I2.ok.EF b o e z
   .have:=O5 e;exact absurd (P4 this I2.ok.bsz) (Nat.not_lt.mpr z)
  .rcases P8.mp (I3.aQ b z)with z|z
   .exact(f2 b hb).2.1 z
   .exact(f2 b hb).2.2.1 z
 have lenN:(uD σ fr).length=N.length:=by unfold uD;rw[u8];exact k5.symm
 have J0:Inv (qY X scope N fp (X.pn++pins) s3 (upd H2 s2.heap.objs.size (.lst [])) s3.heap.objs.size) [] (uD σ fr) (upd H2 s2.heap.objs.size (.lst [])) { s3 with heap:=h1,toks:=s3.toks+0 }:=by
  have I4:=I3.kept (h':=h1) (t':=s3.toks+0) kp1;refine⟨okc,rfl,I3.bare,Un.kept kp1,⟨_,hns1,λi x v e1 e2 _=>?_⟩,λx c e=>(cor x c e).elim (I4.cell x c) λz=>z.2,I3.hok.fresh (O2 _),λx c e=>(cor x c e).elim (I4.VG x c) λz=>I3.hok.fresh (a2o z.1),λp hp=>?_,I4.hok,lenN⟩
  .unfold uD at e2;rw[S4]at e2;cases hfi:fr[i]? with
   |none=>rw[hfi]at e2;cases e2
   |some o=>
    rw[hfi]at e2;cases o with
    |none=>cases e2
    |some j=>
     have e3:(σ[j]?).join=some v:=T4 e2;have hm:(x,some j)∈N.zip fr:=by refine a1k (i:=i) ?_;rw[List.getElem?_zip_eq_some];exact⟨e1,hfi⟩
     have hk:=k6 _ hm;simp only[Bool.and_eq_true,Bool.or_eq_true,beq_iff_eq,List.contains_iff_mem]at hk;obtain⟨⟨g1,g2⟩,g3⟩:=hk;have hσ:σ[j]?=some (some v):=by
      cases q:σ[j]? with
      |none=>rw[q]at e3;cases e3
      |some w=>rw[q]at e3;cases w with
       |none=>cases e3
       |some w=>cases e3;rfl
     have hkx:=k4 _ g2;simp only[bne_self_eq_false,Bool.false_or,Bool.or_eq_true,beq_iff_eq]at hkx;obtain⟨m,_,hl⟩:=I4.loc;obtain⟨u,ru,lk⟩:=hl j x v g1 hσ (by rcases hkx with z|z;exact .inr (.inl z);exact .inr (.inr z));refine⟨u,ru,.inr ⟨g3,?_⟩⟩;rcases lk with⟨z,_⟩|⟨_,c,ec,z⟩
     .rcases hkx with q|q<;>(rw[z]at q;cases q)
     .obtain⟨c',hc'⟩:=a0q.mp (b_ (cells:=X.env.cells) (x:=x) scope.names [] (.inr ⟨g2,by rw[ec];rfl⟩));have:=Jz _ [] (λ_ z=>by simp at z) hc';rw[ec]at this;cases this;exact⟨c,(pJ _ _ _ (hcf x g2)).trans hc',z⟩
  .have hp':p∈X.pn++pins:=by rw[R8]at hp;exact hp
   obtain⟨q1,q2,q3,q4,q5⟩:=I4.pin p hp';refine⟨q1,q2,P1 (O5 (I3.pin p hp').1),λz=>?_,q5⟩;rcases P8.mp (I3.aQ _ z)with z|z
   .exact q3 z
   .exact q4 z
 have stat:∀{H':Hp},(∀b∈fp,H' b=none)->∀b∈fp,mR (qY X scope N fp (X.pn++pins) s3 (upd H2 s2.heap.objs.size (.lst [])) s3.heap.objs.size) [] H' b:=λhn b hb=>
  ⟨hn b hb,(okc.exf b hb).1,λz=>okc.EG b hb z,.inl hb,(okc.exf b hb).2,λp hp=>by rw[R8]at hp;exact(f2 b hb).2.2.2.2.2 p hp⟩
 have loop:=k s3 h1 I3 J0 (λb o e=>kp1 b o (kp0 b o e)) (λb hb=>(fp3 b hb).2) (λ_ hn=>stat hn);exact codeAny_compStart_list loop (T.self _ 0 _ _ _ (T.keep _ _ _ st λb _ o e=>kp1 b o (kp0 b o e)) loop)
def i_{X:Cx}{pins:Oa}{σ:St}{H2:Hp}{s2:Oe}{elt kX tg:Oq}{ifs:Om}{scope:Scope}{pos:Pos}{N:Ob}{fr:Ow}{g:TG}{tc:TT}{te:TE}{it:Addr}{fp:OP}{tn:Nat->Heap->Prop}{J:It}
  {E:Oc}{RR:Value->Addr->Result->Shared->Prop}{Q:VK}
  (hc:X.calm=true) (hok:xo X scope N fr=true) (I2:Inv X pins σ H2 s2) (T:Turn X.prog X.w X.K tg J fp it tn) (st:tn 0 s2.heap) (f2:∀b∈fp,mR X pins H2 b)
  (hg:∀fp pn s H L,PG (qY X scope N fp pn s H L) tg g) (hi:∀fp pn s H L,PTs (qY X scope N fp pn s H L) ifs tc) (he:∀fp pn s H L,PE (qY X scope N fp pn s H L) elt te)
  (h:∀acc,H2 acc=none->∃W:Nat->Nat->St->Hp->Prop,(∃m,W 0 m (uD σ fr) (upd H2 acc (.lst [])))/\∀i m σ' H',W i m σ' H'->
   (J.stop i H'/\Q (.ref acc) H')\/(J.go i H'/\∃N:St->Hp->Prop,(∀σ' H',N σ' H'->∃m',m'<m/\W (i+1) m' σ' H')/\∀x H3,J.yld i H' x H3->g x σ' H3 λσ4 H4=>tc σ4 H4 λb H5=>
    if b=true then te σ4 H5 λv H6=>∃ys,H6 acc=some (.lst ys)/\ys.length<sizeLine/\N σ4 (upd H6 acc (.lst (ys++[v])))else N σ4 H5))
  (hRR:∀acc C m s' H',Inv X pins σ H' s'->s'.heap.Ns C m->X.s₀.heap.objs.size<=C->H' C=none->C≠X.env.locals->(∀x c,X.env.cells.lookup x=some c->c≠C)->(∀p∈X.pn++pins,p.1≠C)->Q (.ref acc) H'->RR (.ref acc) C (.ok .next) s'):
  wpAny (Ph X) X.A (newList []) (λacc s3=>wpAny (Ph X) X.A (newFunctionEnv scope X.env.globals (gK X.env.cells scope.names []) [] X.env.qual none .none (some X.env)) (λcenv s4=>
   codeAny (Ph X) X.A (.compStart (.ListComp elt [⟨tg,kX,ifs,0⟩] scope pos) 0 (.ref it) acc { cenv with scope:=relabel scope X.env }) (RR acc cenv.locals) s4) E s3) E s2:=by
 have hDf:H2 s2.heap.objs.size=none:=I2.hok.fresh (O2 _);obtain⟨W,⟨m0,w0⟩,turn⟩:=h _ hDf;refine ng hc hok I2 T st f2 λs3 h1 I3 J0 kp fpn stat=>?_;have hcc:(qY X scope N fp (X.pn++pins) s3 (upd H2 s2.heap.objs.size (.lst [])) s3.heap.objs.size).calm=true:=hc;refine gL (λn s'=>∃i σ' H',Inv (qY X scope N fp (X.pn++pins) s3 (upd H2 s2.heap.objs.size (.lst [])) s3.heap.objs.size) [] σ' H' s'/\tn i s'.heap/\(∀b∈fp,H' b=none)/\W i n σ' H') ?_ m0
  ⟨0,_,_,J0,T.keep _ _ _ st λb _ o e=>kp b o e,fpn,w0⟩
 rintro n s5 ⟨i,σ5,H5,I5,st5,fr5,w5⟩
 rcases turn i n σ5 H5 w5 with⟨stop,qn⟩|⟨go,NN,hNN,step⟩
 .refine thn (T.done (qY X scope N fp (X.pn++pins) s3 (upd H2 s2.heap.objs.size (.lst [])) s3.heap.objs.size) rfl rfl rfl hcc i [] s5 σ5 H5 _ I5 (stat _ fr5) st5 stop) λr s6 ⟨hr,I6⟩=>?_;subst hr;have I7:Inv X pins σ H5 s6:=I3.E6 (ch:=fp) I6.os I6.base I6.hok I6.bare λb hb=>⟨(f2 b hb).2.2.2.1,(f2 b hb).2.1,(f2 b hb).2.2.2.2.1,(f2 b hb).2.2.2.2.2⟩;obtain⟨mm,hmm,_⟩:=I6.loc;refine hRR _ _ mm s6 H5 I7 hmm I3.sz I6.free (a0O I3.lt) (λx c e z=>?_) (λp hp z=>?_) qn
  .obtain⟨v,hv⟩:=I3.cell x c e;exact absurd hv.lt (by rw[z];exact a0t _)
  .exact absurd (O5 (I3.pin p hp).1) (by rw[z];exact a0t _)
 .refine thn (T.item (qY X scope N fp (X.pn++pins) s3 (upd H2 s2.heap.objs.size (.lst [])) s3.heap.objs.size) rfl rfl rfl hcc i [] s5 σ5 H5 _ I5 (stat _ fr5) st5 go) λr s6 ⟨u,hr,h6⟩=>?_;subst hr;refine thn h6 λ_ s7 ⟨x,H7,I7,r7,y7,st7,fr7⟩=>?_;have I7':=I7.pinned (stat _ fr7) (T.obj _ _ st7);have again:∀{σ9:St}{H9:Hp}{s9:Oe},Inv (qY X scope N fp (X.pn++pins) s3 (upd H2 s2.heap.objs.size (.lst [])) s3.heap.objs.size) ([]++dC fp s7.heap) σ9 H9 s9->NN σ9 H9->
    ∃m,m<n/\∃i σ' H',Inv (qY X scope N fp (X.pn++pins) s3 (upd H2 s2.heap.objs.size (.lst [])) s3.heap.objs.size) [] σ' H' s9/\tn i s9.heap/\(∀b∈fp,H' b=none)/\W i m σ' H':=λ{σ9 H9 s9} I9 n9=>by
   obtain⟨m',hm,w9⟩:=hNN σ9 H9 n9;refine⟨m',hm,i+1,σ9,H9,I9.Zl,T.keep _ _ _ st7 λb hb o e=>(I9.pin (b,o) (R7 _ (R7 _ (Jy hb e)))).1,λb hb=>?_,w9⟩;obtain⟨o,e,d⟩:=T.obj _ _ st7 b hb;exact(I9.pin (b,o) (R7 _ (R7 _ (Jy hb e)))).2.1
  refine thn (hg _ _ _ _ _ _ s7 σ5 H7 x u _ I7' r7 (step x H7 y7)) λ_ s8 ⟨σ8,H8,I8,q8⟩=>?_;refine thn (hi _ _ _ _ _ _ s8 σ8 H8 _ I8 q8) λok s9 ⟨H9,I9,q9⟩=>?_;cases ok with
  |false=>rw[if_neg (by decide)]at q9 ⊢;exact again I9 q9
  |true=>rw[if_pos rfl]at q9 ⊢;refine thn (he _ _ _ _ _ _ s9 σ8 H9 _ I9 q9) λy s10 ⟨v,H10,I10,r10,ys,h10,l10,q10⟩=>?_;refine thn (dR (X:=qY X scope N fp (X.pn++pins) s3 (upd H2 s2.heap.objs.size (.lst [])) s3.heap.objs.size) _ s10 σ8 H10 (.ref s2.heap.objs.size) [v] (.ref s2.heap.objs.size) [y] (λ_ H11=>NN σ8 H11) I10 rfl (.cons r10 .nil) ⟨_,ys,v,rfl,rfl,h10,l10,q10⟩) λ_ s11 ⟨_,H11,I11,_,q11⟩=>?_;exact again I11 q11
def tLC(wi:TI)(g:TG)(tc:TT)(te:TE)(fr:Ow):TE:=λσ H Q=>wi σ H λJ H1=>∀acc,H1 acc=none->∃W:Nat->Nat->St->Hp->Prop,(∃m,W 0 m (uD σ fr) (upd H1 acc (.lst [])))/\∀i m σ' H',W i m σ' H'->
 (J.stop i H'/\Q (.ref acc) H')\/(J.go i H'/\∃N:St->Hp->Prop,(∀σ' H',N σ' H'->∃m',m'<m/\W (i+1) m' σ' H')/\∀x H3,J.yld i H' x H3->g x σ' H3 λσ4 H4=>tc σ4 H4 λb H5=>
  if b=true then te σ4 H5 λv H6=>∃ys,H6 acc=some (.lst ys)/\ys.length<sizeLine/\N σ4 (upd H6 acc (.lst (ys++[v])))else N σ4 H5)
def la{X:Cx}{pins:Oa}{σ:St}{H:Hp}{s:Oe}{scope:Scope}{N:Ob}{fr:Ow}(hok:xo X scope N fr=true)(I:Inv X pins σ H s):
  scope.kind=.function/\(∀y∈scope.names,y.2=.local->scope.names.lookup y.1=some .local)/\closureFor scope X.env=pure (gK X.env.cells scope.names []):=by
 unfold xo at hok;simp only[Bool.and_eq_true,beq_iff_eq,List.all_eq_true]at hok;obtain⟨⟨⟨⟨⟨k1,k2⟩,k3⟩,k4⟩,k5⟩,k6⟩:=hok;refine⟨k1,λy hy z=>?_,m9 λy hy z=>?_⟩
 .have:=k3 y hy;rw[z]at this;simpa using this
 .have hk:=k4 y hy;rw[z]at hk;simp only[bne_self_eq_false,Bool.false_or,Bool.or_eq_true,beq_iff_eq]at hk;obtain⟨c,hcx⟩:=I.ok.has y.1 hk;rw[hcx];rfl
def LF(N:Ob)(fr:Ow)(hc:X.calm=true)(hok:xo X scope N fr=true)(hi:PI X tg kX wi)(hg:∀fp pn s H L,PG (qY X scope N fp pn s H L) tg g)(ht:∀fp pn s H L,PTs (qY X scope N fp pn s H L) ifs tc)(he:∀fp pn s H L,PE (qY X scope N fp pn s H L) elt te)
  (hs:∀x,foldedSetIterable kX X.env x=pure x:=by intro _;rfl):PE X (.ListComp elt [⟨tg,kX,ifs,0⟩] scope pos) (tLC wi g tc te fr):=by
 intro pins s σ H Q I h;obtain⟨k1,k3,hcl⟩:=la hok I;rw[eval_ListComp];refine a2A (use:=none) rfl hs hcl k1 k3 (thn (hi pins s σ H _ I h) λv s1 h1=>thn h1 λitv s2 h2=>?_);obtain⟨it,fp,tn,J,H2,e,I2,T,st2,f2,hr⟩:=h2;subst e;refine i_ (Q:=Q) (RR:=λacc C=>compPost (Ph X) X.A X.xe none (EP X pins σ Q) acc C) hc hok I2 T st2 f2 hg ht he hr λacc C m s' H' I' hn h1 h2 h3 h4 h5 q=>?_;exact⟨m,hn,λh' sb=>⟨.ref acc,H',I'.turned (t':=s'.toks) (λb o hb e=>(sb.2 b hb).trans e) h2 h3 (.inr h1) h4 h5,rfl,q⟩⟩
def LH(N:Ob)(fr:Ow)(hN:X.N.Nodup)(hy:X.N[i]?=some y)(hl:X.env.scope.names.lookup y=some .local)(hc:X.calm=true)(hok:xo X scope N fr=true)(hi:PI X tg kX wi)(hg:∀fp pn s H L,PG (qY X scope N fp pn s H L) tg g)
  (ht:∀fp pn s H L,PTs (qY X scope N fp pn s H L) ifs tc) (he:∀fp pn s H L,PE (qY X scope N fp pn s H L) elt te) (hsw:swapsWith (.ListComp elt [⟨tg,kX,ifs,0⟩] scope pos) (some (.Name y py)) uC.line X.env=pure true:=by rfl)
  (hs:∀x,foldedSetIterable kX X.env x=pure x:=by intro _;rfl):PS X (.Assign [.Name y py] (.ListComp elt [⟨tg,kX,ifs,0⟩] scope pos) uC) (EK (tLC wi g tc te fr) (gu i)):=by
 intro pins s σ H D I h;obtain⟨k1,k3,hcl⟩:=la hok I;rw[exec_Assign_Name_used _ _ _ _ hsw];refine f8 (a1q (f8 ?_));show wpAny _ X.A (do let _<-comprehension (.ListComp elt [⟨tg,kX,ifs,0⟩] scope pos) scope X.env _ (newList []) false (eval kX X.env) (some (assign (.Name y py) X.env))) _ _ s;refine f8 (a0c (a2A (use:=some (assign (.Name y py) X.env)) (Q:=λ_ s'=>SP X pins D .next s') rfl hs hcl k1 k3
  (thn (hi pins s σ H _ I h) λv s1 h1=>thn h1 λitv s2 h2=>?_)) (λ_ s' hq=>O0 (O0 hq)) λ_ _ z=>z)
 obtain⟨it,fp,tn,J,H2,e,I2,T,st2,f2,hr⟩:=h2;subst e;refine i_ (Q:=λv H1=>gu i v σ H1 D.nx) (RR:=λacc C=>compPost (Ph X) X.A X.xe (some (assign (.Name y py) X.env)) (λ_ s'=>SP X pins D .next s') acc C) hc hok I2 T st2 f2 hg ht he hr λacc C m s' H' I' hn h1 h2 h3 h4 h5 q=>?_;show wpAny _ X.A (assign (.Name y py) X.env (.ref acc)) _ _ _;refine wpAny_assign_Name (dA (v:=.ref acc) I' hN hy (.inl hl) rfl (λs'' I'' ⟨a,sb,ha⟩=>?_) (.inr hl));have nea:C≠a:=λz=>by
  rcases ha with e|e
  .exact h3 (z.trans e)
  .exact h4 y a e z.symm
 obtain⟨o,es,ep,ho,rr⟩:=id hn;refine⟨m,⟨o,es,ep,(sb.2 C nea).trans ho,rr⟩,λh' sb'=>⟨_,H',I''.turned (t':=s''.toks) (λb o hb e=>(sb'.2 b hb).trans e) h2 h3 (.inr h1) h4 h5,q⟩⟩
section
variable {X:Cx}
def NL:V->Option Int->Option Int->Hp->VK->Prop:=λx lo hi H Q=>∃z,x=.str z/\z.length<=sizeLine/\Q (.str (Txt.slice z lo hi)) H
def FT:SlR X NL:=by
 intro pins s σ H x v vl vu lo hi sl Q I rx hs pl pu h;obtain⟨z,rfl,hz,q⟩:=h;obtain⟨t,rfl⟩:=rx;have part:∀{a:Value}{o:OV},IsPart a o->∃p:Option (Int×Tok),a=partValue p/\p.map (·.1)=o:=by
  intro a o h;cases h
  .exact⟨none,rfl,rfl⟩
  .exact⟨some (_,_),rfl,rfl⟩
 obtain⟨p1,rfl,rfl⟩:=part pl;obtain⟨p2,rfl,rfl⟩:=part pu;refine⟨"str",_,F.slot_str_getitem.lookup,typeIs_str _ _ _,wpAny_getItem_str_slice (l:=p1) (u:=p2) (st:=none) ?_ rfl ?_⟩
 .exact hs
 .exact post_val_or_str ⟨P7 (Txt.slice_le z _ _) hz,λt' k=>⟨.str _,H,I.tok _,⟨t',rfl⟩,q⟩⟩
def rJoin(K:OF):V->List V->Hp->VK->Prop:=λx vs H Q=>∃sep p ys,x=.str sep/\vs=[.ref p]/\SqL K H p (ys.map V.str)/\(ys.map (·.length)).sum+ys.length*sep.length<=16777216/\Q (.str (Txt.join sep ys)) H
def pL:∀{ys:Ob}{us:Og},Vals (ys.map V.str) us->StrsAre us ys
 |[],_,.nil=>.nil
 |y::ys,_,.cons ⟨t,e⟩ r=>by subst e;exact .cons y t (pL r)
def CZ:MtM X "str.join" (rJoin X.K):=by intro pins s σ H x vs v us Q I rx rv h;obtain⟨sep,p,ys,rfl,rfl,hS,hl,q⟩:=h;obtain⟨t,rfl⟩:=rx;obtain⟨u,rfl,ru⟩:=rv.one;cases ru;obtain⟨its,r,pl,_⟩:=I.list hS;exact join_list pl.isList (pL r) hl λt' k=>⟨.str _,H,I.tok _,⟨t',rfl⟩,q⟩
end
def Its(x:Str):It:=⟨λi _=>i<x.cps.size,λi H v H'=>H'=H/\∃c,x.cps[i]?=some c/\v=.str ⟨#[c]⟩,λi _=>x.cps.size<=i⟩
def C0(it:Addr)(x:Str)(i:Nat)(h:Heap):Prop:=∃t,h.IsStrIter it "str_ascii_iterator" x t i\/h.IsStrIter it "str_iterator" x t i
def xp{P:Ot}{w:Ox}{K:OF}{y:Str}{py:Pos}(it:Addr)(x:Str):Turn P w K (.Name y py) (Its x) [it] it (λi h=>i<=x.cps.size/\C0 it x i h)where
 mem:=by simp
 obj:=λi h st b hb=>by
  obtain rfl:b=it:=by simpa using hb
  obtain⟨_,t,⟨o,e,_,d⟩|⟨o,e,_,d⟩⟩:=st<;>exact⟨o,e,λv z=>by rw[d]at z;cases z⟩
 keep:=λi h h' st k=>by
  obtain⟨hi,t,⟨o,e,r⟩|⟨o,e,r⟩⟩:=st
  .exact⟨hi,t,.inl ⟨o,k it (by simp) o e,r⟩⟩
  .exact⟨hi,t,.inr ⟨o,k it (by simp) o e,r⟩⟩
 item:=by
  intro X hP hw hK hc i pins s σ H E I hf st hg;subst hP hw hK;have hg':i<x.cps.size:=hg;have hx:x.cps[i]?=some x.cps[i]:=Array.getElem?_eq_getElem hg';obtain⟨f0,f1,f2,f3,f4,f5⟩:=hf it (by simp);obtain⟨_,t,st|st⟩:=st
  .refine wpAny_pyNext_ascii_item st hx λh' st' sb=>⟨_,rfl,O0 ⟨.str ⟨#[x.cps[i]]⟩,H,I.turned (t':=s.toks+1) (λb o hb e=>(sb.2 b hb).trans e) f0 f1 f3 f4 f5,⟨_,rfl⟩,⟨rfl,_,hx,rfl⟩,⟨hg',t,.inl st'⟩,λb hb=>(hf b hb).1⟩⟩
  .refine wpAny_pyNext_wide_item st hx λh' st' sb=>⟨_,rfl,O0 ⟨.str ⟨#[x.cps[i]]⟩,H,I.turned (t':=s.toks+1) (λb o hb e=>(sb.2 b hb).trans e) f0 f1 f3 f4 f5,⟨_,rfl⟩,⟨rfl,_,hx,rfl⟩,⟨hg',t,.inr st'⟩,λb hb=>(hf b hb).1⟩⟩
 done:=by
  intro X hP hw hK hc i pins s σ H E I hf st hg;subst hP hw hK;have hg':x.cps.size<=i:=hg;have hx:x.cps[i]?=none:=a2Q hg';obtain⟨f0,f1,f2,f3,f4,f5⟩:=hf it (by simp);obtain⟨_,t,st|st⟩:=st
  .exact wpAny_pyNext_ascii_end (I.ok.hd hc) st hx λh' eb=>⟨rfl,I.turned (t':=s.toks) (λb o hb e=>eb b o hb e) f0 f1 f3 f4 f5⟩
  .exact wpAny_pyNext_wide_end (I.ok.hd hc) st hx λh' eb=>⟨rfl,I.turned (t':=s.toks) (λb o hb e=>eb b o hb e) f0 f1 f3 f4 f5⟩
 self:=λ_ _ _ _ _ st h=>by
  obtain⟨_,t,st|st⟩:=st
  .exact wpAny_pyIter_striter_ascii st h
  .exact wpAny_pyIter_striter_wide st h
def NM(tl:TE):TI:=λσ H R=>tl σ H λx H1=>∃z,x=.str z/\R (Its z) H1
def FU(hl:PE X l tl):PI X (.Name y py) l (NM tl):=by
 intro pins s σ H R I h;refine thn (hl pins s σ H _ I h) λv s1 ⟨x,H1,I1,r1,z,e,q⟩=>?_;subst e;obtain⟨t,rfl⟩:=r1;have fin:∀o:Obj,(∀h,h.get? s1.heap.objs.size=some o->C0 s1.heap.objs.size z 0 h)->PIE X pins σ (.Name y py) R (.ref s1.heap.objs.size) { s1 with heap:=s1.heap.push o }->PIE X pins σ (.Name y py) R (.ref s1.heap.objs.size) { s1 with heap:=s1.heap.push o }:=λ_ _ h=>h;have mk:∀o:Obj,o.isFreed=false->(∀h:Heap,h.get? s1.heap.objs.size=some o->C0 s1.heap.objs.size z 0 h)->PIE X pins σ (.Name y py) R (.ref s1.heap.objs.size) { s1 with heap:=s1.heap.push o }:=λo hf ho=>by
  have I2:Inv X pins σ H1 { s1 with heap:=s1.heap.push o }:=I1.kept (t':=s1.toks) λb u e=>v4 _ e;refine⟨s1.heap.objs.size,[s1.heap.objs.size],_,Its z,H1,rfl,I2,xp _ z,⟨T6 _,ho _ (P2 _ hf)⟩,λb hb=>?_,q⟩;obtain rfl:b=s1.heap.objs.size:=by simpa using hb
  exact I1.EL (O2 _) (I1.hok.fresh (O2 _))
 cases ha:z.cps.all (·<128)
 .exact wpAny_pyIter_wide ha (mk _ rfl λh e=>⟨t,.inr ⟨_,e,rfl,rfl⟩⟩)
 .exact wpAny_pyIter_ascii ha (mk _ rfl λh e=>⟨t,.inl ⟨_,e,rfl,rfl⟩⟩)
section
variable {X:Cx}
def Xd:∀{bs:Oh}{us:Og},Vals (bs.map V.bl) us->us=bs.map Value.bool
 |[],_,.nil=>rfl
 |b::bs,_,.cons e r=>by have e':_=Value.bool b:=e;subst e';rw[Xd r];rfl
def gM{prog:Ot}{w:Ox}{A:Oy}{bs:Oh}:TruthOf prog w A (λi v=>(bs.map Value.bool).toArray[i]?=some v) (λi=>bs.getD i false):=by
 intro i v s Q E h q;have h':(bs.map Value.bool)[i]?=some v:=by simpa using h
 rw[S4]at h';cases e:bs[i]? with
 |none=>rw[e]at h';cases h'
 |some b=>
  rw[e]at h';cases h';have:bs.getD i false=b:=by simp[List.getD,e]
  dsimp only at q;rw[this]at q;exact O0 q
def range_all(bs:Oh):(List.range bs.length).all (λi=>bs.getD i false)=bs.all id:=by
 induction bs with
 |nil=>rfl
 |cons b bs ih=>rw[N9,List.range_succ_eq_map,a1N,List.all_map,a1N,<- ih];rfl
def MR(K:OF):List V->Hp->VK->Prop:=λvs H Q=>∃(p:Addr)(bs:Oh),vs=[.ref p]/\SqL K H p (bs.map V.bl)/\Q (.bl (bs.all id)) H
def xq(hc:X.calm=true):vU X (.builtin "all") (MR X.K):=by
 intro pins s σ H xs us Q I r h;obtain⟨p,bs,rfl,hS,q⟩:=h;obtain⟨u,rfl,ru⟩:=vals1 r;cases ru;obtain⟨its,rv,pl,_⟩:=I.list hS;have e:=Xd rv;subst e;have hlt:p≠s.heap.objs.size:=by obtain⟨o,ho,_⟩:=pl.isList;exact P1 (O5 ho)
 refine call_all_walk (a2p pl.isList ⟨s.heap.objs.size,_,_,_,_,_,_,rfl,Walks.list (A:=X.A.in1) (I.ok.hd hc) s.heap.objs.size p hlt (bs.map Value.bool).toArray,?_,gM (bs:=bs),λh' tk hk=>?_⟩)
 .refine⟨⟨_,P2 _ rfl,rfl,rfl⟩,?_⟩;obtain⟨o,ho,rr⟩:=pl.isList;exact⟨o,v4 _ ho,rr⟩
 .have I2:Inv X pins σ H { s with heap:=h',toks:=tk }:=I.kept (t':=tk) λb o e=>hk b o (by simp;exact P1 (O5 e)) (v4 _ e);refine⟨.bl _,H,I2,rfl,?_⟩;have:(List.map Value.bool bs).toArray.size=bs.length:=by simp
  rw[this,range_all];exact q
end
section
variable {C:Addr}{f g:Str}{E':XK}{σ:St}{H:Hp}{v u:V}{te tu:TE}{Q:VK}
end
section
variable {K:OF}{C e:Addr}{f:Str}{σ:St}{H:Hp}{v:V}{te:TE}{Q:VK}{fs:OE}
end
section
variable {te:TE}{fr:Ow}{σ:St}{H:Hp}{Q:VK}{r:St}
end
abbrev TJ:=St->Hp->Str->(Str->Hp->Prop)->Prop
section
variable {X:Cx}{e:Oq}{es:Om}{t:TE}{tj:TJ}{pos:Pos}
end
section
variable {X:Cx}
def FV:R2:=λx y H Q=>∃z i,x=.str z/\y=.int i/\z.length<=16/\-2 ^ 63<=i/\i<=1048576/\Q (.str (Txt.mul z i)) H
def nh:OpR X (binaryOp .Mult) FV:=by intro pins s σ H x y v u Q I rx ry h;obtain⟨z,i,rfl,rfl,hz,h1,h2,q⟩:=h;obtain⟨t,rfl⟩:=rx;obtain⟨t',rfl⟩:=ry;exact PySem.W.KXi.mul rfl hz h1 h2 λt' k _ _=>⟨.str _,H,I.tok _,⟨_,rfl⟩,q⟩
end
section
variable {X:Cx}{e o c:Oq}{st:OO}{rest a b:OG}{t u:TS}{te to:TE}{tc:TT}{pos:Pos}
end
section
variable {X:Cx}
def FW(i j:Int):Prop:=j≠0/\j.natAbs<2 ^ 8192
def xt:OpR X (binaryOp .FloorDiv) (rI FW λi j=>.int (i.fdiv j)):=opI λ_ j _ _ _ _ _ hc q=>floordiv_int hc.1 q (.inl (PyProof.noPylong_of_log2 (by
 have h1:j.natAbs≠0:=by have:=hc.1;omega
 have:=(Nat.log2_lt h1).mpr hc.2;omega)))
def C1(K:OF):V->List V->Hp->VK->Prop:=λx vs H Q=>∃(p:Addr)(bs:Oh)(k:Bool),x=.ref p/\vs=[.bl k]/\SqL K H p (bs.map V.bl)/\Q (.int (bs.count k)) H
def Xw(k:Bool):∀bs:List Bool,(bs.map Value.bool).countP (isBoolOf k)=bs.count k
 |[]=>rfl
 |b::bs=>by rw[O8,List.countP_cons,List.count_cons,Xw k bs];rfl
def pM:MtM X "list.count" (C1 X.K):=by
 intro pins s σ H x vs v us Q I rx rv h;obtain⟨p,bs,k,rfl,rfl,hS,q⟩:=h;cases rx;obtain⟨u,rfl,ru⟩:=rv.one;cases(show u=Value.bool k from ru);obtain⟨its,r,pl,_⟩:=I.list hS;have e:=Xd r;subst e;obtain⟨⟨cls,dd,data,sl⟩,ho,hc,n,hd⟩:=id pl.isList;simp only at hc hd;subst hc hd;refine a2q a2J ⟨_,ho,rfl⟩ PySem.F.entry_list_count (PySem.F.args_list_count_2 _ _) (PySem.SeqAt.list_countAt p (bs.map Value.bool).toArray n dd sl (.bool k) (isBoolOf k)) ⟨ho,λy hy=>?_,?_⟩
 .obtain⟨b,_,rfl⟩:=a0s.mp (show y∈bs.map Value.bool by simpa using hy);exact a2i b k
 .rw[show(bs.map Value.bool).toArray.toList=bs.map Value.bool from rfl,Xw];exact⟨.int _,H,I.tok _,⟨_,rfl⟩,q⟩
def pN:∀{ns:OB}{us:Og},Vals (ns.map V.int) us->∃ts:List (Int×Tok),us=ts.map (λz=>Value.int z.1 z.2)/\ts.map Prod.fst=ns
 |[],_,.nil=>⟨[],rfl,rfl⟩
 |n::ns,_,.cons ⟨t,e⟩ r=>by subst e;obtain⟨ts,rfl,rfl⟩:=pN r;exact⟨(n,t)::ts,rfl,rfl⟩
def FX(K:OF):List V->Hp->VK->Prop:=λvs H Q=>∃(p:Addr)(ns:OB),vs=[.ref p]/\SqL K H p (ns.map V.int)/\ns≠[]/\∀M,M∈ns->(∀a∈ns,a<=M)->Q (.int M) H
def pO(hc:X.calm=true):vU X (.builtin "max") (FX X.K):=by
 intro pins s σ H xs us Q I r h;obtain⟨p,ns,rfl,hS,hne,q⟩:=h;obtain⟨u,rfl,ru⟩:=vals1 r;cases ru;obtain⟨its,rv,pl,_⟩:=I.list hS;obtain⟨ts,rfl,rfl⟩:=pN rv;have e:(ts.map (λz=>Value.int z.1 z.2)).toArray=intItems ts.toArray:=by unfold intItems;simp
 have hsz:0<ts.toArray.size:=by
  rw[P9];cases ts with
  |nil=>exact absurd rfl hne
  |cons a r=>simp
 refine max_intList (xs:=ts.toArray) (I.ok.hd hc) (by rw[<- e];exact pl.isList) hsz λv h' tk hv hk=>?_;obtain⟨t,rfl⟩:=intItems_at hv;obtain⟨h1,h2⟩:=argBest_gt (numAt ts.toArray) (ts.toArray.size-1);refine⟨.int _,H,I.kept (t':=tk) hk,⟨t,rfl⟩,q _ ?_ λa ha=>?_⟩
 .rw[numAt_eq];exact getD_mem (by rw[u8];rw[P9]at *;omega)
 .obtain⟨j,hj,rfl⟩:=mem_getD ha;rw[u8]at hj;have:=h2 j (by rw[P9];omega);rw[numAt_eq]at this;exact this
end
abbrev d8(k:Nat)(A:Oy):Prop:=kY k { A with handled:=none }
def LJ(hr:kY k A)(h:j<=k):d8 j (A.mark v):=⟨rfl,by have:=hr.dp;show A.depth+3*j+5<_;omega,by have:=hr.un;show A.units+16*j+200<_;omega⟩
def CRH(outer:List Env)(P:Ot)(w:Ox)(H:Hp)(s:Oe)(Q:VK)(r:Result)(s':Oe):Prop:=
 match r with
 |.ok (.ret u)=>CE outer P w H s Q u s'
 |_=>False
structure nj(P:Ot)(w:Ox)(K:Oj)(mg:N_)(base:Heap)(k:Nat)(f:Addr)(fd:OC)(ps:Ob)(sp:Sp):Prop where
 len:∀vs H Q E,sp vs H Q E->vs.length=ps.length
 run:∀(A:Oy)(outer:List Env)(s:Oe)(H:Hp)(args:Args)(us:Og)(vs:Oi) (Q:VK) (E:XK),d8 k A->o_ P w K mg base A outer s H->BindsTo s fd args (ps.zip us)->Vals vs us->sp vs H Q E->
  codeAny (model P w) A (.call (.ref f) args) (CRH outer P w H s Q) s
abbrev Cx.hx(X:Cx):Cx:={ X with calm:=false,xe:=λ_ _=>False }
section
variable {P:Ot}{w:Ox}{K:Oj}{mg:N_}{base:Heap}
def nq
  (S:zE N ps scope) (e0:o_ P w K mg base A outer s H) (hl:vs.length=ps.length) (r:Vals vs us)
  (x:InCallC s s.heap.objs.size (bindL (envOfC qual scope s.heap.objs.size f cd).kindOf (ps.zip us) λ_=>none) (cellsFrom (s.heap.objs.size+1) scope.names []) (bindC (envOfC qual scope s.heap.objs.size f cd).kindOf (ps.zip us) λ_=>none) s1):
  Inv (aU CX P w K mg base N qual scope f cd A outer s H E).hx [] (start N vs) H s1:=by
 have I:Inv (aU CX P w K mg base N qual scope f cd { A with handled:=none } outer s H E) [] (start N vs) H s1:=dJ S rfl ⟨e0.frames,e0.mod,e0.bs,e0.bsz,e0.dz,e0.frf,e0.hok,e0.bare⟩ hl r x;exact⟨⟨I.ok.mod,I.ok.kind,I.ok.glob,I.ok.blt,I.ok.above,I.ok.inj,I.ok.has,I.ok.cab,λz=>Bool.noConfusion z,I.ok.frames,I.ok.stk,I.ok.exf,I.ok.bs,I.ok.bsz,I.ok.EF,I.ok.EG,I.ok.dz,I.ok.frf⟩,I.os,I.bare,I.base,I.loc,I.cell,I.free,I.VG,I.pin,I.hok,I.len⟩
def FY{k:Nat}{f:Addr}{name qual:Str}{params:Arguments}{body:OG}{scope:Scope}{dV kV doc pm cdv ct oc:Value}{an od:OL}
  {osl:OI}{N ps:Ob}{sp:Sp}(lk:K.lookup f=some ⟨oc,od,.func (PySem.W.fnOf name qual params body scope dV kV doc pm an cdv ct),osl⟩) (hcd:PySem.W.codeIn K cdv qual=true) (S:zE N ps scope)
  (len:∀vs H Q E,sp vs H Q E->vs.length=ps.length)
  (aO:∀(A:Oy)(outer:List Env)(s:Oe)(H:Hp)(vs:Oi)(Q:VK)(E:XK),d8 k (A.deeper (envOfC qual scope s.heap.objs.size f cdv))->sp vs H Q E->
   ∃t,PSs (aU (CXe P w) P w K mg base N qual scope f cdv A outer s H E).hx body t/\t { nx:=λ_ H'=>Q .non H',rt:=Q } (start N vs) H):
  nj P w K mg base (k+1) f (PySem.W.fnOf name qual params body scope dV kV doc pm an cdv ct) ps sp:=by
 refine⟨len,λA outer s H args us vs Q E hr e0 hb r hsp=>?_⟩;have hl:=len _ _ _ _ hsp;have KX:K.In s.heap:=e0.mod.kin.keeps λb o e=>(e0.bs b o e).1;have lim:s.heap.NoLimit:=e0.mod.nolimit.keeps λb o e=>(e0.bs b o e).1;have hkind:∀y∈ps.zip us,scope.names.lookup y.1=some .local\/(scope.names.lookup y.1=some .cell/\((cellsFrom (s.heap.objs.size+1) scope.names []).lookup y.1).isSome=true):=λ⟨n,v⟩ hy=>by
  rcases S.par n (a1Y hy).1 with q|q
  .exact .inl q
  .exact .inr ⟨q,a1K _ _ _ (.inl q)⟩
 have hdep:A.depth<recursionLimit:=hr.depth;refine a2S hdep (KX _ _ lk) rfl S.co S.gen rfl (a3d KX hcd) (hb _ _ _ _ ?_);refine a2h S.kind hkind λenv he s1 x=>?_;subst he;refine⟨lim.keeps x.toInCall.keep,codeAny_func ?_⟩;obtain⟨t,ht,hq⟩:=aO A outer s H vs Q E (hr.deeper _) hsp;have I:Inv (aU (CXe P w) P w K mg base N qual scope f cdv A outer s H E).hx [] (start N vs) H s1:=nq S e0 hl r x;refine a0c (ht [] s1 (start N vs) H _ I hq) (λfl s' hs=>?_) λe s' hs=>False.elim hs;have fin:∀{σ':St}{H':Hp}{v:V}{u:Value},Inv (aU (CXe P w) P w K mg base N qual scope f cdv A outer s H E).hx [] σ' H' s'->RelV v u->Q v H'->CE outer P w H s Q u s':=
  λ{σ' H' v u} J rv q=>⟨v,H',J.os,J.bare,J.base,J.hok,rv,q⟩
 cases fl with
 |ret u=>obtain⟨v,σ',H',J,rv,q⟩:=hs;exact fin J rv q
 |next=>obtain⟨σ',H',J,q⟩:=hs;exact fin (v:=V.non) (u:=Value.none) J rfl q
 |brk=>obtain⟨_,_,_,q⟩:=hs;exact False.elim q
 |cont=>obtain⟨_,_,_,q⟩:=hs;exact False.elim q
def Fun.okH{x qual:Str}{st:OO}{f:Addr}{fd:OC}{N ps:Ob}{k:Nat}{sp:Sp}(F:Fun K x qual st f fd)(S:zE N ps (zh st))(len:∀vs H Q E,sp vs H Q E->vs.length=ps.length)
  (aO:∀(cdv:Value)(A:Oy)(outer:List Env)(s:Oe)(H:Hp)(vs:Oi)(Q:VK) (E:XK),d8 k (A.deeper (envOfC qual (zh st) s.heap.objs.size f cdv))->sp vs H Q E->
   ∃t,PSs (aU (CXe P w) P w K mg base N qual (zh st) f cdv A outer s H E).hx (vV st) t/\t { nx:=λ_ H'=>Q .non H',rt:=Q } (start N vs) H):nj P w K mg base (k+1) f fd ps sp:=by
 obtain⟨oc,od,kV,doc,pm,an,cdv,ct,osl,rfl,lk,hcd⟩:=F.ex;exact FY lk hcd S len λA outer s H vs Q E hr hsp=>aO cdv A outer s H vs Q E hr hsp
end
def FZ(sp:Sp)(t:TA):TE:=λσ H Q=>t σ H λvs H1=>sp vs H1 Q E0
def xw(F:nj X.prog X.w X.K X.mg X.base k f fd ps sp)(hr:d8 k X.A)(hg:Gl X x)(hm:X.mg x=some (.ref f))(hk:keepIn X.K (.ref f)=true)(hb:Binds X.K fd ps [])
  (ha:PA X (e::es) t) (hdb:(x==("__debug__":Str))=false:=by decide) (he:starEach (e::es) X.env=(false,eval e X.env)::starEach es X.env:=by rfl) (hpl:(backTo pos (starEach es X.env)).any (·.1)=false:=by rfl):
  PE X (.Call (.Name x p) (e::es) [] pos) (FZ sp t):=by
 intro pins s σ H Q I h;refine a0x (Kx I hg hm ?_ hdb);refine a0Q (h₀:=X.base) I.ok.mod.kin hk (thn (ha pos pins s σ H _ I h) λus s1 ⟨vs,H1,I1,r,q⟩=>⟨I1.kIn,?_⟩) he hpl;have hl:(us++[]).length=ps.length:=by rw[R8,<- r.length];exact F.len _ _ _ _ q
 have bd:=hb s1 us I1.kIn hl;rw[R8]at bd;refine a0M (a0P (F.run X.A X.stack s1 H1 ⟨us,[]⟩ us vs Q E0 hr I1.m5 bd r q) λr s' hq=>?_);cases r with
 |error e=>exact False.elim hq
 |ok fl=>
  cases fl with
  |ret u=>exact I1.after hq
  |next=>exact False.elim hq
  |brk=>exact False.elim hq
  |cont=>exact False.elim hq
section
variable {X:Cx}{tg:Oq}
end
section
variable {K:OF}{H:Hp}{Q:VK}
end
section
variable {X:Cx}
end
section
variable {X:Cx}{C:Addr}{x:Str}{p pos:Pos}
end
def ER(P:Ot)(w:Ox)(K:OF)(mg:N_)(base:Heap)(A:Oy)(m:Str)(C:Addr)(sp:Sp):Prop:=
 ∃k f fd ps,Cls K C/\Meth K C m f/\qO P w K mg base (CXe P w) k f fd ps sp/\kY k A/\Binds K fd ps []
def Bp(alts:Addr->Sp->Prop)(m:Str)(E:XK)(ta:TE)(t:TA):TE:=λσ H Q=>ta σ H λx H1=>∃a dx fs C sp,alts C sp/\x=.ref a/\H1 a=some (.ins C dx fs)/\fs.lookup m=none/\t σ H1 λvs H2=>sp (x::vs) H2 Q E
def xx(he:PE X o ta)(hal:∀C sp,alts C sp->ER X.prog X.w X.K X.mg X.base X.A m C sp)(hx:Passes (CXe X.prog X.w) X E)(ha:PA X (e::es) t)
  (hst:starEach (e::es) X.env=(false,eval e X.env)::starEach es X.env:=by rfl) (hpl:(backTo pos (starEach es X.env)).any (·.1)=false:=by rfl)
  (ht:eval (.Call (.Attribute o m vE) (e::es) [] pos) X.env=(do
   let ov<-eval o X.env
   standAt vE.atName
   let(f,first)<-holding [ov] (getMethod ov m pl)
   callWith pos f first (backTo pos (starEach (e::es) X.env)) (backToKw pos (keywordEach [] X.env))):=by rfl):
  PE X (.Call (.Attribute o m vE) (e::es) [] pos) (Bp alts m E ta t):=by
 intro pins s σ H Q I h;refine a2V (pl:=pl) (thn (he pins s σ H _ I h) λu s1 ⟨x,H1,I1,rx,a,dx,fs,C,sp,hin,ex,ea,l,q⟩=>?_) ht;obtain⟨k,f,fd,ps,c,hm,F,hr,hb⟩:=hal C sp hin;subst ex;obtain rfl:u=Value.ref a:=rx;refine aS I1 ea c hm l ?_;refine a0Q (first:=[.ref a]) (h₀:=X.base) I.ok.mod.kin hm.kp (thn (ha pos pins s1 σ H1 _ I1 q) λus s2 ⟨vs,H2,I2,r,q2⟩=>⟨I2.kIn,?_⟩) hst hpl;exact pb (us:=.ref a::us) (vs:=.ref a::vs) (dvs:=[]) F hr hb .nil hx I2 (.cons rfl r) (by rwa [R8])
def pP(he:PE X o ta)(hal:∀C sp,alts C sp->ER X.prog X.w X.K X.mg X.base X.A m C sp)(hx:Passes (CXe X.prog X.w) X E)
  (ht:eval (.Call (.Attribute o m vE) [] [] pos) X.env=(do
   let ov<-eval o X.env
   standAt vE.atName
   let(f,first)<-holding [ov] (getMethod ov m pl)
   callWith pos f first (backTo pos (starEach [] X.env)) (backToKw pos (keywordEach [] X.env))):=by rfl):
  PE X (.Call (.Attribute o m vE) [] [] pos) (Bp alts m E ta Lg):=by
 intro pins s σ H Q I h;refine a2V (pl:=pl) (thn (he pins s σ H _ I h) λu s1 ⟨x,H1,I1,rx,a,dx,fs,C,sp,hin,ex,ea,l,q⟩=>?_) ht;obtain⟨k,f,fd,ps,c,hm,F,hr,hb⟩:=hal C sp hin;subst ex;obtain rfl:u=Value.ref a:=rx;refine aS I1 ea c hm l ?_;exact PySem.W.callWith_K0 (first:=[.ref a]) I1.kIn hm.kp (pb (us:=[.ref a]) (vs:=[.ref a]) (dvs:=[]) F hr hb .nil hx I1 (.cons rfl .nil) q)
def lb{A:Oy}{xs ys:Oi}{us ws:Og}{e:Nat->Bool}(r1:Vals xs us)(r2:Vals ys ws)(he:∀j x y u v,xs[j]?=some x->ys[j]?=some y->RelV x u->RelV y v->SeqAt.EqAt A s u v (e j)):
  ∀j (h1:j<us.toArray.size) (h2:j<ws.toArray.size),SeqAt.EqAt A s us.toArray[j] ws.toArray[j] (e j):=by
 intro j h1 h2;rw[P9]at h1 h2;have l1:j<xs.length:=by rw[r1.length];exact h1
 have l2:j<ys.length:=by rw[r2.length];exact h2
 have e1:xs[j]?=some xs[j]:=P0 l1;have e2:ys[j]?=some ys[j]:=P0 l2;obtain⟨u,hu,ru⟩:=r1.get e1;obtain⟨w,hw,rw'⟩:=r2.get e2;have eu:us.toArray[j]=u:=by have:=P0 h1;rw[hu]at this;simpa using(T4 this).symm
 have ew:ws.toArray[j]=w:=by have:=P0 h2;rw[hw]at this;simpa using(T4 this).symm
 rw[eu,ew];exact he j _ _ _ _ e1 e2 ru rw'
section
variable {X:Cx}
end
section
variable {H:Hp}{Q:VK}{i j:Int}
end
def zI.none(s:zI H H')(h:H' q=Option.none):H q=Option.none:=by
 cases e:H q with
 |none=>rfl
 |some o=>rw[s _ _ e]at h;cases h
inductive PV where
 |i (n:Int)|s (x:Str)|b (c:Bool)|n
 |l (xs:List PV)|t (xs:List PV)|d (kvs:List (Key×PV))|o (c:Nat) (fs:List (Str×PV))|x (c:Nat) (fs:List (Str×PV))|sc (ns:OB)|dt (kvs:OU)
abbrev Ov:=List PV
abbrev Oz:=(List (Key×PV))
abbrev OA:=(List (Str×PV))
abbrev OK:=Option PV
abbrev OW:=(PV->PV->Option Bool)
abbrev OX:=(Nat×List (Str×PV))
abbrev Pb:=List (Option PV)
def dtV(kvs:OU):List (List Key×V):=kvs.map λq=>(q.1,V.int q.2)
inductive Out(α:Type)where
 |ok (a:α)|exc (c:Nat) (fs:OA)|wall
abbrev Ou:=(List PV->Out PV)
abbrev O_:=(PV->PV->Out PV)
def Out.bind{α β:Type}:Out α->(α->Out β)->Out β
 |.ok a,f=>f a
 |.exc c fs,_=>.exc c fs
 |.wall,_=>.wall
structure RC where
 K:Frag
 cls:Nat->Addr
def KL(K:OF)(a:Addr)(xs:Oi):Prop:=∃(o:Obj)(its:ON)(n:Nat),K.lookup a=some o/\o.cls=.type "list"/\o.dict=none/\o.data=.seq its n/\its.size<=sizeLine/\Vals xs its.toList
def gN(K:OF)(N:Of)(H:Hp)(p:Addr)(vs:Oi):Prop:=(N p/\Rd H p (.lst vs))\/KL K p vs
def gN.sq{K:OF}{N:Of}{H:Hp}{p:Addr}{vs:Oi}(h:gN K N H p vs):SqL K H p vs:=h.elim (λz=>.inl z.2) .inr
mutual
def Rep(W:RC)(M:Of)(H:Hp):PV->V->Prop
 |.i n,v=>v=.int n
 |.s x,v=>v=.str x
 |.b c,v=>v=.bl c
 |.n,v=>v=.non
 |.l xs,v=>∃p vs,v=.ref p/\M p/\H p=some (.lst vs)/\yQ W M H xs vs
 |.t xs,v=>∃p vs,v=.ref p/\SqT W.K H p vs/\yQ W M H xs vs
 |.d kvs,v=>∃p es,v=.ref p/\M p/\Rd H p (.dK es)/\j8 W M H kvs es
 |.sc ns,v=>∃p,v=.ref p/\gN W.K M H p (ns.map V.int)
 |.dt kvs,v=>∃p,v=.ref p/\M p/\Rd H p (.dT (dtV kvs))
 |.o c fs,v=>∃p dx es,v=.ref p/\M p/\H p=some (.ins (W.cls c) dx es)/\vI W M H fs es
 |.x c fs,v=>∃p dx es,v=.ref p/\H p=some (XC p (W.cls c) dx)/\H dx=some (XD dx es)/\vI W M H fs es
def yQ(W:RC)(M:Of)(H:Hp):List PV->List V->Prop
 |[],vs=>vs=[]
 |x::xs,vs=>∃v r,vs=v::r/\Rep W M H x v/\yQ W M H xs r
def j8(W:RC)(M:Of)(H:Hp):List (Key×PV)->List (Key×V)->Prop
 |[],es=>es=[]
 |kx::r,es=>∃v q,es=(kx.1,v)::q/\Rep W M H kx.2 v/\j8 W M H r q
def vI(W:RC)(M:Of)(H:Hp):List (Str×PV)->List (Str×V)->Prop
 |[],es=>es=[]
 |kx::r,es=>∃v q,es=(kx.1,v)::q/\Rep W M H kx.2 v/\vI W M H r q
end
def Imm:HO->Prop
 |.lst _=>False | .dK _=>False | .dT _=>False | .set _ _=>False | .ins _ _ _=>False
 |_=>True
def Fr(M:Of)(H H':Hp):Prop:=∀a o,H a=some o->(M a\/Imm o)->H' a=some o
def Fr.rd(f:Fr M H H')(h:Rd H p u)(m:M p):Rd H' p u:=
 h.elim (λz=>.inl (f _ _ z (.inl m))) λ⟨o,z⟩=>.inr ⟨o,f _ _ z (.inl m)⟩
def Fr.sqT{M:Of}{K:OF}{H H':Hp}(f:Fr M H H'){p:Addr}{u:Oi}(h:SqT K H p u):SqT K H' p u:=
 h.elim (λh=>.inl (h.elim (λz=>.inl (f _ _ z (.inr trivial))) λ⟨o,z⟩=>.inr ⟨o,f _ _ z (.inr trivial)⟩)) .inr
def gN.frame{K:OF}{N:Of}{H H':Hp}(f:Fr N H H'){p:Addr}{vs:Oi}(h:gN K N H p vs):gN K N H' p vs:=h.elim (λz=>.inl ⟨z.1,f.rd z.2 z.1⟩) .inr
def jF(h:Rd H p u):H p≠none:=by rcases h with z|⟨_,z⟩<;>rw[z]<;>intro e<;>cases e
section
variable {W:RC}{M M':Of}{H H':Hp}
mutual
def Rep.gen(f:Fr M H H')(s:∀a,M a->H a≠none->M' a):∀{x:PV}{v:V},Rep W M H x v->Rep W M' H' x v
 |.i n,v,h=>h
 |.s x,v,h=>h
 |.b c,v,h=>h
 |.n,v,h=>h
 |.l xs,v,h=>by unfold Rep at h ⊢;obtain⟨p,vs,e,m,r,q⟩:=h;exact⟨p,vs,e,s p m (by rw[r];intro e;cases e),f _ _ r (.inl m),yQ.gen f s q⟩
 |.sc ns,v,h=>by unfold Rep at h ⊢;obtain⟨p,e,r⟩:=h;exact⟨p,e,r.elim (λz=>.inl ⟨s p z.1 (by rcases z.2 with z|⟨_,z⟩<;>rw[z]<;>intro e<;>cases e),f.rd z.2 z.1⟩) .inr⟩
 |.dt kvs,v,h=>by unfold Rep at h ⊢;obtain⟨p,e,m,r⟩:=h;exact⟨p,e,s p m (jF r),f.rd r m⟩
 |.t xs,v,h=>by unfold Rep at h ⊢;obtain⟨p,vs,e,r,q⟩:=h;exact⟨p,vs,e,f.sqT r,yQ.gen f s q⟩
 |.d kvs,v,h=>by unfold Rep at h ⊢;obtain⟨p,vs,e,m,r,q⟩:=h;exact⟨p,vs,e,s p m (jF r),f.rd r m,j8.gen f s q⟩
 |.o c fs,v,h=>by unfold Rep at h ⊢;obtain⟨p,dx,es,e,m,r,q⟩:=h;exact⟨p,dx,es,e,s p m (by rw[r];intro e;cases e),f _ _ r (.inl m),vI.gen f s q⟩
 |.x c fs,v,h=>by unfold Rep at h ⊢;obtain⟨p,dx,es,e,r,r2,q⟩:=h;exact⟨p,dx,es,e,f _ _ r (.inr trivial),f _ _ r2 (.inr trivial),vI.gen f s q⟩
def yQ.gen(f:Fr M H H')(s:∀a,M a->H a≠none->M' a):∀{x:Ov}{v:Oi},yQ W M H x v->yQ W M' H' x v
 |[],v,h=>h
 |x::xs,vs,h=>by unfold yQ at h ⊢;obtain⟨v,r,e,h1,h2⟩:=h;exact⟨v,r,e,Rep.gen f s h1,yQ.gen f s h2⟩
def j8.gen(f:Fr M H H')(s:∀a,M a->H a≠none->M' a):∀{x:Oz}{v:Oo},j8 W M H x v->j8 W M' H' x v
 |[],v,h=>h
 | (k,x)::xs,vs,h=>by unfold j8 at h ⊢;obtain⟨v,r,e,h1,h2⟩:=h;exact⟨v,r,e,Rep.gen f s h1,j8.gen f s h2⟩
def vI.gen(f:Fr M H H')(s:∀a,M a->H a≠none->M' a):∀{x:OA}{v:OE},vI W M H x v->vI W M' H' x v
 |[],v,h=>h
 | (k,x)::xs,vs,h=>by unfold vI at h ⊢;obtain⟨v,r,e,h1,h2⟩:=h;exact⟨v,r,e,Rep.gen f s h1,vI.gen f s h2⟩
end
end
def Fr.refl:Fr M H H:=λ_ _ h _=>h
def zI.fr(s:zI H H'):Fr M H H':=λa o h _=>s a o h
def Rep.same(h:Rep W M H x v)(s:zI H H'):Rep W M H' x v:=Rep.gen s.fr (λ_ m _=>m) h
def yQ.same(h:yQ W M H x v)(s:zI H H'):yQ W M H' x v:=yQ.gen s.fr (λ_ m _=>m) h
def j8.same(h:j8 W M H x v)(s:zI H H'):j8 W M H' x v:=j8.gen s.fr (λ_ m _=>m) h
def Rep.sub(h:Rep W M H x v)(s:∀a,M a->H a≠none->M' a):Rep W M' H x v:=Rep.gen Fr.refl s h
def yQ.sub(h:yQ W M H x v)(s:∀a,M a->H a≠none->M' a):yQ W M' H x v:=yQ.gen Fr.refl s h
def j8.sub(h:j8 W M H x v)(s:∀a,M a->H a≠none->M' a):j8 W M' H x v:=j8.gen Fr.refl s h
def vI.sub(h:vI W M H x v)(s:∀a,M a->H a≠none->M' a):vI W M' H x v:=vI.gen Fr.refl s h
def qL(W:RC)(N M:Of)(H:Hp):PV->V->Prop
 |.l xs,v=>∃p vs,v=.ref p/\N p/\H p=some (.lst vs)/\yQ W M H xs vs
 |.d kvs,v=>∃p es,v=.ref p/\N p/\Rd H p (.dK es)/\j8 W M H kvs es
 |.sc ns,v=>∃p,v=.ref p/\gN W.K N H p (ns.map V.int)
 |.dt kvs,v=>∃p,v=.ref p/\N p/\Rd H p (.dT (dtV kvs))
 |.o c fs,v=>∃p dx es,v=.ref p/\N p/\H p=some (.ins (W.cls c) dx es)/\vI W M H fs es
 |x,v=>Rep W M H x v
def qL.iff:qL W M M H x v↔Rep W M H x v:=by cases x<;>simp only[qL,Rep]
def qL.gen{W:RC}{N M N' M':Of}{H H':Hp}{x:PV}{v:V}(fN:Fr N H H')(f:Fr M H H')(sN:∀a,N a->H a≠none->N' a)(s:∀a,M a->H a≠none->M' a)(h:qL W N M H x v):qL W N' M' H' x v:=by
 cases x with
 |l xs=>obtain⟨p,vs,e,m,r,q⟩:=h;exact⟨p,vs,e,sN p m (by rw[r];intro e;cases e),fN _ _ r (.inl m),q.gen f s⟩
 |d kvs=>obtain⟨p,es,e,m,r,q⟩:=h;exact⟨p,es,e,sN p m (jF r),fN.rd r m,q.gen f s⟩
 |sc ns=>obtain⟨p,e,r⟩:=h;exact⟨p,e,r.elim (λz=>.inl ⟨sN p z.1 (jF z.2),fN.rd z.2 z.1⟩) .inr⟩
 |dt kvs=>obtain⟨p,e,m,r⟩:=h;exact⟨p,e,sN p m (jF r),fN.rd r m⟩
 |o c fs=>obtain⟨p,dx,es,e,m,r,q⟩:=h;exact⟨p,dx,es,e,sN p m (by rw[r];intro e;cases e),fN _ _ r (.inl m),q.gen f s⟩
 |i n=>exact Rep.gen f s h
 |s n=>exact Rep.gen f s h
 |b n=>exact Rep.gen f s h
 |n=>exact Rep.gen f s h
 |t n=>exact Rep.gen f s h
 |x c n=>exact Rep.gen f s h
def qL.same(h:qL W N M H x v)(s:zI H H'):qL W N M H' x v:=qL.gen s.fr s.fr (λ_ m _=>m) (λ_ m _=>m) h
def qL.sub(h:qL W N M H x v)(sN:∀a,N a->H a≠none->N' a)(s:∀a,M a->H a≠none->M' a):qL W N' M' H x v:=qL.gen Fr.refl Fr.refl sN s h
def Rep.weak(h:Rep W M H x v):qL W (λ_=>True) M H x v:=qL.sub (qL.iff.mpr h) (λ_ _ _=>trivial) (λ_ m _=>m)
def cb(W:RC)(M:Of)(H:Hp)(p:Addr):PV->Prop
 |.l xs=>∃vs,H p=some (.lst vs)/\yQ W M H xs vs
 |.d kvs=>∃es,H p=some (.dK es)/\j8 W M H kvs es
 |.dt kvs=>H p=some (.dT (dtV kvs))
 |.o c fs=>∃dx es,H p=some (.ins (W.cls c) dx es)/\vI W M H fs es
 |_=>False
def cb.Iz(h:cb W M H p x)(n:N p):qL W N M H x (.ref p):=by
 cases x with
 |l xs=>obtain⟨vs,e,q⟩:=h;exact⟨p,vs,rfl,n,e,q⟩
 |d kvs=>obtain⟨es,e,q⟩:=h;exact⟨p,es,rfl,n,.inl e,q⟩
 |dt kvs=>exact⟨p,rfl,n,.inl h⟩
 |o c fs=>obtain⟨dx,es,e,q⟩:=h;exact⟨p,dx,es,rfl,n,e,q⟩
 |i n=>exact h.elim
 |s n=>exact h.elim
 |b n=>exact h.elim
 |n=>exact h.elim
 |t n=>exact h.elim
 |x c n=>exact h.elim
 |sc n=>exact h.elim
def cb.gen(h:cb W M H p x)(hp:H' p=H p)(f:Fr M H H')(s:∀a,M a->H a≠none->M' a):cb W M' H' p x:=by
 cases x with
 |l xs=>obtain⟨vs,e,q⟩:=h;exact⟨vs,hp.trans e,q.gen f s⟩
 |d kvs=>obtain⟨es,e,q⟩:=h;exact⟨es,hp.trans e,q.gen f s⟩
 |dt kvs=>exact hp.trans h
 |o c fs=>obtain⟨dx,es,e,q⟩:=h;exact⟨dx,es,hp.trans e,q.gen f s⟩
 |i n=>exact h.elim
 |s n=>exact h.elim
 |b n=>exact h.elim
 |n=>exact h.elim
 |t n=>exact h.elim
 |x c n=>exact h.elim
 |sc n=>exact h.elim
def cb.some{W:RC}{M:Of}{H:Hp}{p:Addr}{x:PV}(h:cb W M H p x):∃o,H p=some o/\¬Imm o:=by
 cases x with
 |l xs=>obtain⟨vs,e,q⟩:=h;exact⟨_,e,id⟩
 |d kvs=>obtain⟨es,e,q⟩:=h;exact⟨_,e,id⟩
 |dt kvs=>exact⟨_,h,id⟩
 |o c fs=>obtain⟨dx,es,e,q⟩:=h;exact⟨_,e,id⟩
 |i n=>exact h.elim
 |s n=>exact h.elim
 |b n=>exact h.elim
 |n=>exact h.elim
 |t n=>exact h.elim
 |x c n=>exact h.elim
 |sc n=>exact h.elim
def cb.same(h:cb W M H p x)(s:zI H H'):cb W M H' p x:=by obtain⟨o,e,_⟩:=h.some;exact h.gen ((s _ _ e).trans e.symm) s.fr λ_ m _=>m
structure Bs where
 H0:Hp
 M0:Addr->Prop
 N0:Addr->Prop
 nz:∀a,N0 a->H0 a≠none
 pin:Option Addr
 xc:Addr->Prop
structure LC where
 W:RC
 E:XK
 fr:Bool
abbrev Sto:=List (Option PV)
def Bs.Mt(B:Bs):Addr->Prop:=λa=>B.M0 a\/B.H0 a=none
def Mof(B:Bs)(S:Od)(P:Ol):Addr->Prop:=λa=>(B.Mt a/\¬B.xc a)/\∀i,S[i]?=some 2->P i≠a
structure Rel(W:RC)(B:Bs)(S:Od)(P:Ol)(H:Hp)(σ:St)(ρ:Sto):Prop where
 same:zI B.H0 H
 len:σ.length=ρ.length
 var:∀(i:Nat) x,ρ[i]?=some (some x)->∃v,σ[i]?=some (some v)/\(S[i]?=some 2->v=.ref (P i)/\cb W (Mof B S P) H (P i) x)/\(S[i]?=some 1->qL W B.N0 (Mof B S P) H x v)/\(S[i]?≠some 2->S[i]?≠some 1->Rep W (Mof B S P) H x v)
 act:∀i,S[i]?=some 2->B.H0 (P i)=none/\∃o,H (P i)=some o/\¬Imm o
 inj:∀i j,S[i]?=some 2->S[j]?=some 2->P i=P j->i=j
 pin:S[0]?=some 2->∀p,B.pin=some p->P 0=p
 exc:∀a,B.xc a->∃o,H a=some o/\¬Imm o/\B.H0 a=none
 axc:∀i,S[i]?=some 2->¬B.xc (P i)
def Rel.keep{W:RC}{B:Bs}{S:Od}{P:Ol}{H H':Hp}{σ:St}{ρ:Sto}(R:Rel W B S P H σ ρ)(s:zI H H'):Rel W B S P H' σ ρ where
 same:=R.same.trans s
 len:=R.len
 var:=λi x e=>by obtain⟨v,h1,h2,h3,h4⟩:=R.var i x e;exact⟨v,h1,λz=>⟨(h2 z).1,(h2 z).2.same s⟩,λz=>(h3 z).same s,λz z'=>(h4 z z').same s⟩
 act:=λi h=>⟨(R.act i h).1,let⟨o,e,n⟩:=(R.act i h).2;⟨o,s _ _ e,n⟩⟩
 inj:=R.inj
 pin:=R.pin
 exc:=λa h=>let⟨o,e,n⟩:=R.exc a h;⟨o,s _ _ e,n⟩
 axc:=R.axc
def Rel.wr(R:Rel W B S P H σ ρ)(hi:S[i]?=some 2)(hl:i<ρ.length)(hσ:σ[i]?=some (some (.ref (P i))))(hn:¬Imm o)(hx:cb W (Mof B S P) (upd H (P i) o) (P i) x'):Rel W B S P (upd H (P i) o) σ (ρ.set i (some x')):=by
 obtain⟨h0,o0,e0,n0⟩:=R.act i hi;have fM:Fr (Mof B S P) H (upd H (P i) o):=λa q e m=>by
  have:a≠P i:=λz=>by
   rcases m with m|m
   .exact m.2 i hi z.symm
   .rw[z,e0]at e;cases e;exact n0 m
  rw[zg this];exact e
 have fN:Fr B.N0 H (upd H (P i) o):=λa q e m=>by
  have:a≠P i:=λz=>by
   rcases m with m|m
   .exact B.nz a m (z▸h0)
   .rw[z,e0]at e;cases e;exact n0 m
  rw[zg this];exact e
 refine⟨λa q e=>?_,by rw[T5];exact R.len,λj x e=>?_,λj hj=>?_,R.inj,R.pin,λa h=>?_,R.axc⟩
 .have:a≠P i:=λz=>by rw[z,h0]at e;cases e
  rw[zg this];exact R.same a q e
 .by_cases hij:i=j
  .subst hij;rw[S6 hl]at e;cases e;exact⟨_,hσ,λ_=>⟨rfl,hx⟩,(λz=>by rw[hi]at z;cases z),λz=>absurd hi z⟩
  .rw[S8 hij]at e;obtain⟨v,h1,h2,h3,h4⟩:=R.var j x e;refine⟨v,h1,λz=>⟨(h2 z).1,?_⟩,λz=>qL.gen fN fM (λ_ m _=>m) (λ_ m _=>m) (h3 z),λz z'=>Rep.gen fM (λ_ m _=>m) (h4 z z')⟩;have:P j≠P i:=λq=>hij (R.inj i j hi z q.symm);exact(h2 z).2.gen (zg this) fM λ_ m _=>m
 .by_cases hij:j=i
  .subst hij;exact⟨h0,o,zi,hn⟩
  .obtain⟨g0,o1,e1,n1⟩:=R.act j hj;have:P j≠P i:=λq=>hij (R.inj j i hj hi q);exact⟨g0,o1,by rw[zg this];exact e1,n1⟩
 .obtain⟨o1,e1,n1⟩:=R.exc a h;by_cases e:a=P i
  .subst e;exact⟨o,zi,hn,n1.2⟩
  .exact⟨o1,by rw[zg e];exact e1,n1⟩
def qy{S:Od}{i j c:Nat}(h:(S.set i 0)[j]?=some 2):S[j]?=some 2/\j≠i:=by
 by_cases e:i=j
 .subst e;rw[List.getElem?_set]at h;rw[if_pos rfl]at h;split at h<;>cases h
 .rw[S8 e]at h;exact⟨h,λz=>e z.symm⟩
def Rel.set(R:Rel W B S P H σ ρ)(hx:Rep W (Mof B S P) H x v):Rel W B (S.set i 0) P H (σ.set i (some v)) (ρ.set i (some x)):=by
 have sM:∀a,Mof B S P a->H a≠none->Mof B (S.set i 0) P a:=λa m _=>⟨m.1,λj hj=>m.2 j (qy (c:=0) hj).1⟩;refine⟨R.same,by rw[T5,T5];exact R.len,λj y e=>?_,λj hj=>R.act j (qy (c:=0) hj).1,λj k hj hk=>R.inj j k (qy (c:=0) hj).1 (qy (c:=0) hk).1,λh0=>R.pin (qy (c:=0) h0).1,R.exc,λj hj=>R.axc j (qy (c:=0) hj).1⟩;by_cases hij:i=j
 .subst hij;have hl:i<ρ.length:=by
   have:=(P6.mp e).1
   rwa [T5]at this
  rw[S6 hl]at e;cases e;refine⟨v,by rw[S6 (by rw[R.len];exact hl)],λz=>absurd rfl (qy (c:=0) z).2,λz=>?_,λ_ _=>hx.sub sM⟩;rw[List.getElem?_set,if_pos rfl]at z;split at z<;>cases z
 .rw[S8 hij]at e;obtain⟨w,h1,h2,h3,h4⟩:=R.var j y e;rw[S8 hij,S8 hij];exact⟨w,h1,λz=>⟨(h2 z).1,(h2 z).2.gen rfl Fr.refl sM⟩,λz=>(h3 z).sub (λ_ m _=>m) sM,λz z'=>(h4 z z').sub sM⟩
def Rel.NO(R:Rel W B S P H σ ρ)(s:zI H H')(hp:H p=none)(hi:i<S.length)(hi0:i≠0)(hx:cb W (λa=>Mof B S P a/\a≠p) H' p x):Rel W B (S.set i 2) (λj=>if j=i then p else P j) H' (σ.set i (some (.ref p))) (ρ.set i (some x)):=by
 have s0:B.H0 p=none:=zI.none R.same hp;have hS:∀{j},(S.set i 2)[j]?=some 2->j≠i->S[j]?=some 2:=λ{j} h n=>by rwa [S8 (λz=>n z.symm)]at h
 have sM:∀a,Mof B S P a->a≠p->Mof B (S.set i 2) (λj=>if j=i then p else P j) a:=λa m hn=>⟨m.1,λj hj=>by
  by_cases e:j=i
  .simp only[e,if_true];exact λz=>hn z.symm
  .simp only[e,if_false];exact m.2 j (hS hj e)⟩
 have sMH:∀a,Mof B S P a->H a≠none->Mof B (S.set i 2) (λj=>if j=i then p else P j) a:=λa m hn=>sM a m λz=>hn (z▸hp);have pj:∀{j},S[j]?=some 2->P j≠p:=λ{j} hj z=>by obtain⟨_,o,e,_⟩:=R.act j hj;rw[z,hp]at e;cases e
 refine⟨R.same.trans s,by rw[T5,T5];exact R.len,λj y e=>?_,λj hj=>?_,λj k hj hk e=>?_,λh0 q hq=>?_,λa h=>let⟨o,e,n⟩:=R.exc a h;⟨o,s _ _ e,n⟩,λj hj=>?_⟩
 .by_cases hij:i=j
  .subst hij;have hl:i<ρ.length:=by
    have:=(P6.mp e).1
    rwa [T5]at this
   rw[S6 hl]at e;cases e;rw[S6 (by rw[R.len];exact hl),S6 hi];refine⟨.ref p,rfl,λ_=>⟨by simp,?_⟩,(λz=>by cases z),λz=>absurd rfl z⟩;simp only[if_true];exact hx.gen rfl Fr.refl λa m _=>sM a m.1 m.2
  .rw[S8 hij]at e;obtain⟨w,h1,h2,h3,h4⟩:=R.var j y e;rw[S8 hij,S8 hij];have nij:¬j=i:=λz=>hij z.symm;simp only[nij,if_false];exact⟨w,h1,λz=>⟨(h2 z).1,((h2 z).2.gen (H':=H) rfl Fr.refl sMH).same s⟩,λz=>((h3 z).sub (λ_ m _=>m) sMH).same s,λz z'=>((h4 z z').sub sMH).same s⟩
 .by_cases hij:j=i
  .subst hij;simp only[if_true];exact⟨s0,hx.some⟩
  .simp only[hij,if_false];obtain⟨g0,o,e,n⟩:=R.act j (hS hj hij);exact⟨g0,o,s _ _ e,n⟩
 .by_cases h1:j=i
  .by_cases h2:k=i
   .rw[h1,h2]
   .simp only[h1,h2,if_true,if_false]at e;exact absurd e.symm (pj (hS hk h2))
  .by_cases h2:k=i
   .simp only[h1,h2,if_true,if_false]at e;exact absurd e (pj (hS hj h1))
   .simp only[h1,h2,if_false]at e;exact R.inj j k (hS hj h1) (hS hk h2) e
 .rw[S8 hi0]at h0;rw[if_neg (λz=>hi0 z.symm)];exact R.pin h0 q hq
 .by_cases e:j=i
  .rw[if_pos e];exact λz=>by obtain⟨o,q,_⟩:=R.exc p z;rw[hp]at q;cases q
  .rw[if_neg e];exact R.axc j (hS hj e)
def Rel.freeze(R:Rel W B S P H σ ρ)(hi:S[i]?=some 2):Rel W B (S.set i 0) P H σ ρ:=by
 have sM:∀a,Mof B S P a->H a≠none->Mof B (S.set i 0) P a:=λa m _=>⟨m.1,λj hj=>m.2 j (qy (c:=0) hj).1⟩;refine⟨R.same,R.len,λj y e=>?_,λj hj=>R.act j (qy (c:=0) hj).1,λj k hj hk=>R.inj j k (qy (c:=0) hj).1 (qy (c:=0) hk).1,λh0=>R.pin (qy (c:=0) h0).1,R.exc,λj hj=>R.axc j (qy (c:=0) hj).1⟩;obtain⟨w,h1,h2,h3,h4⟩:=R.var j y e;by_cases hij:i=j
 .subst hij;obtain⟨rfl,ha⟩:=h2 hi;have hl:i<S.length:=(P6.mp hi).1;rw[S6 hl];refine⟨_,h1,(λz=>by cases z),(λz=>by cases z),λ_ _=>qL.iff.mp ((ha.gen (H':=H) rfl Fr.refl sM).Iz ⟨⟨.inr (R.act i hi).1,λz=>?_⟩,λj hj e=>?_⟩)⟩
  .exact R.axc i hi z
  obtain⟨g1,g2⟩:=qy (c:=0) hj;exact g2 (R.inj j i g1 hi e)
 .rw[S8 hij];exact⟨w,h1,λz=>⟨(h2 z).1,(h2 z).2.gen rfl Fr.refl sM⟩,λz=>(h3 z).sub (λ_ m _=>m) sM,λz z'=>(h4 z z').sub sM⟩
def Rel.wrx(R:Rel W B S P H σ ρ)(ha:B.xc a)(hn:¬Imm o):Rel W B S P (upd H a o) σ ρ:=by
 obtain⟨o0,e0,n0,h0⟩:=R.exc a ha;have fM:Fr (Mof B S P) H (upd H a o):=λc q e m=>by
  have:c≠a:=λz=>by
   rcases m with m|m
   .exact m.1.2 (z▸ha)
   .rw[z,e0]at e;cases e;exact n0 m
  rw[zg this];exact e
 have fN:Fr B.N0 H (upd H a o):=λc q e m=>by
  have:c≠a:=λz=>by
   rcases m with m|m
   .exact B.nz c m (z▸h0)
   .rw[z,e0]at e;cases e;exact n0 m
  rw[zg this];exact e
 have pa:∀{i},S[i]?=some 2->P i≠a:=λ{i} hi z=>R.axc i hi (z▸ha);refine⟨λc q e=>?_,R.len,λj x e=>?_,λj hj=>?_,R.inj,R.pin,λc h=>?_,R.axc⟩
 .have:c≠a:=λz=>by rw[z,h0]at e;cases e
  rw[zg this];exact R.same c q e
 .obtain⟨v,h1,h2,h3,h4⟩:=R.var j x e;exact⟨v,h1,λz=>⟨(h2 z).1,(h2 z).2.gen (zg (pa z)) fM λ_ m _=>m⟩,λz=>qL.gen fN fM (λ_ m _=>m) (λ_ m _=>m) (h3 z),λz z'=>Rep.gen fM (λ_ m _=>m) (h4 z z')⟩
 .obtain⟨g0,o1,e1,n1⟩:=R.act j hj;exact⟨g0,o1,by rw[zg (pa hj)];exact e1,n1⟩
 .by_cases e:c=a
  .subst e;exact⟨o,zi,hn,h0⟩
  .obtain⟨o1,e1,n1⟩:=R.exc c h;exact⟨o1,by rw[zg e];exact e1,n1⟩
abbrev ME:=Sto->Out PV
abbrev MT:=Sto->Out Bool
abbrev MA:=Sto->Out (List PV)
inductive Fw where
 |nx (ρ:Sto)|rt (x:PV)|bk (ρ:Sto)|ct (ρ:Sto)
abbrev MS:=Sto->Out Fw
def XPo(C:LC)(B:Bs)(c:Nat)(fs:OA):Prop:=∀e dx es H2,zI B.H0 H2->H2 e=some (XC e (C.W.cls c) dx)->H2 dx=some (XD dx es)->vI C.W B.Mt H2 fs es->C.E (.ref e) (some dx) H2
def yp(C:LC)(B:Bs)(H:Hp)(R:Hp->PV->V->Prop)(Q:VK):Out PV->Prop
 |.ok r=>∀v H2,zI H H2->R H2 r v->Q v H2
 |.exc c fs=>XPo C B c fs
 |.wall=>False
def d9(C:LC)(B:Bs)(H:Hp)(Q:Bool->Hp->Prop):Out Bool->Prop
 |.ok r=>∀H2,zI H H2->Q r H2
 |.exc c fs=>XPo C B c fs
 |.wall=>False
def RV(C:LC)(B:Bs)(S:Od)(P:Ol)(w:Bool)(H:Hp)(x:PV)(v:V):Prop:=qL C.W (if w=true then λ_=>True else Mof B S P) (Mof B S P) H x v
def RV.rep(h:RV C B S P false H x v):Rep C.W (Mof B S P) H x v:=qL.iff.mp h
def RV.of(h:Rep C.W (Mof B S P) H x v):RV C B S P false H x v:=qL.iff.mpr h
def RV.weak(h:RV C B S P w H x v):qL C.W (λ_=>True) (Mof B S P) H x v:=qL.sub h (λ_ _ _=>trivial) λ_ m _=>m
def RV.same(h:RV C B S P w H x v)(s:zI H H'):RV C B S P w H' x v:=qL.same h s
def LE(C:LC)(S:Od)(w:Bool)(te:TE)(m:ME):Prop:=∀B P H σ ρ,Rel C.W B S P H σ ρ->∀Q,yp C B H (RV C B S P w) Q (m ρ)->te σ H Q
def LT(C:LC)(S:Od)(tt:TT)(m:MT):Prop:=∀B P H σ ρ,Rel C.W B S P H σ ρ->∀Q,d9 C B H Q (m ρ)->tt σ H Q
def EM(X:Cx)(C:LC)(S:Od)(w:Bool)(e:Oq)(m:ME):Prop:=X.K=C.W.K->∃te,PE X e te/\LE C S w te m
def TM(X:Cx)(C:LC)(S:Od)(e:Oq)(m:MT):Prop:=X.K=C.W.K->∃tt,PT X e tt/\LT C S tt m
def TWM(X:Cx)(C:LC)(S:Od)(e:Oq)(m:MT):Prop:=X.K=C.W.K->∃tt,PW X e tt/\LT C S tt m
def yp.bind(h:yp C B H R Q (o.bind f))(k:∀r,o=.ok r->∀v H2,zI H H2->R0 H2 r v->yp C B H2 R Q (f r)->Q' v H2)(hR:∀H2,zI H H2->∀x v,R H2 x v->R H2 x v):yp C B H R0 Q' o:=by
 cases o with
 |ok r=>exact λv H2 s hr=>k r rfl v H2 s hr (by
   show yp C B H2 R Q (f r);have h:yp C B H R Q (f r):=h;revert h;cases f r with
   |ok x=>exact λh v H3 s3 hx=>h v H3 (s.trans s3) hx
   |exc c fs=>exact id
   |wall=>exact id)
 |exc c fs=>exact h
 |wall=>exact h
def ye(h:yp C B H R Q (o.bind f))(k:∀r v H2,zI H H2->R0 H2 r v->yp C B H2 R Q (f r)->Q' v H2):yp C B H R0 Q' o:=
 yp.bind h (λr _ v H2 s hr hp=>k r v H2 s hr hp) λ_ _ _ _ h=>h
def Yr(h:yp C B H R Q o)(s:zI H H2):yp C B H2 R Q o:=by
 cases o with
 |ok x=>exact λv H3 s3 hx=>h v H3 (s.trans s3) hx
 |exc c fs=>exact h
 |wall=>exact h
def Xx(h:d9 C B H Q o)(s:zI H H2):d9 C B H2 Q o:=by
 cases o with
 |ok x=>exact λH3 s3=>h H3 (s.trans s3)
 |exc c fs=>exact h
 |wall=>exact h
def nr(h:d9 C B H Q (o.bind f))(k:∀r v H2,zI H H2->R0 H2 r v->d9 C B H2 Q (f r)->Q' v H2):yp C B H R0 Q' o:=by
 cases o with
 |ok r=>exact λv H2 s hr=>k r v H2 s hr (Xx (o:=f r) h s)
 |exc c fs=>exact h
 |wall=>exact h
def KC(h:d9 C B H Q (o.bind f))(k:∀r H2,zI H H2->d9 C B H2 Q (f r)->Q' r H2):d9 C B H Q' o:=by
 cases o with
 |ok r=>exact λH2 s=>k r H2 s (Xx (o:=f r) h s)
 |exc c fs=>exact h
 |wall=>exact h
def zc(i:Nat):ME:=λρ=>match ρ[i]? with|some (some x)=>.ok x|_=>.wall
def mC(x:PV):ME:=λ_=>.ok x
section
variable {X:Cx}{C:LC}{S:Od}{e a b:Oq}{w w1 w2:Bool}{m m1 m2:ME}{t1 t2:MT}
def EM.weak(h:EM X C S w e m):EM X C S true e m:=λhK=>by
 obtain⟨te,h1,h2⟩:=h hK;refine⟨te,h1,λB P H σ ρ R Q q=>h2 B P H σ ρ R Q ?_⟩;revert q;cases m ρ with
 |ok r=>exact λq v H2 s hr=>q v H2 s (by unfold RV;rw[if_pos rfl];exact hr.weak)
 |exc c fs=>exact id
 |wall=>exact id
def lv(R:Rel C.W B S P H σ ρ)(q:yp C B H R' Q (zc i ρ))(k:∀x v,σ[i]?=some (some v)->ρ[i]?=some (some x)->R' H x v):mQ i σ H Q:=by
 unfold zc at q;cases e:ρ[i]? with
 |none=>rw[e]at q;exact q.elim
 |some o=>
  cases o with
  |none=>rw[e]at q;exact q.elim
  |some x=>rw[e]at q;obtain⟨v,hv,_⟩:=R.var i x e;exact⟨v,hv,q v H (zI.refl _) (k x v hv e)⟩
def zr(h:PE X e (mQ i))(hS:S[i]?≠some 2/\S[i]?≠some 1:=by decide):EM X C S false e (zc i):=λ_=>⟨_,h,λB P H σ ρ R Q q=>lv R q λx v hv e=>by
 obtain⟨v',hv',_,_,h4⟩:=R.var i x e;rw[hv]at hv';cases hv';exact RV.of (h4 hS.1 hS.2)⟩
def F2(h:PE X e (mQ i)):EM X C S true e (zc i):=λ_=>⟨_,h,λB P H σ ρ R Q q=>lv R q λx v hv e=>by
 obtain⟨v',hv',h2,h3,h4⟩:=R.var i x e;rw[hv]at hv';cases hv';show qL C.W (if true=true then _ else _) _ _ _ _;rw[if_pos rfl];by_cases c2:S[i]?=some 2
 .obtain⟨rfl,z⟩:=h2 c2;exact z.Iz trivial
 .by_cases c1:S[i]?=some 1
  .exact(h3 c1).sub (λ_ _ _=>trivial) λ_ m _=>m
  .exact(h4 c2 c1).weak⟩
def IA(h:PE X e (tC v))(hx:∀M H,Rep C.W M H x v):EM X C S false e (mC x):=λ_=>⟨_,h,λB P H σ ρ R Q q=>q v H (zI.refl _) (RV.of (hx _ _))⟩
def qx(h:PE X e (tC (.int i))):EM X C S false e (mC (.i i)):=IA h λ_ _=>rfl
def yE(h:PE X e (tC (.str i))):EM X C S false e (mC (.s i)):=IA h λ_ _=>rfl
def Xy(h:PE X e (tC (.bl i))):EM X C S false e (mC (.b i)):=IA h λ_ _=>rfl
def pQ(h:PE X e (tC .non)):EM X C S false e (mC .n):=IA h λ_ _=>rfl
def mOp(p:O_)(m1 m2:ME):ME:=λρ=>(m1 ρ).bind λx=>(m2 ρ).bind λy=>p x y
def mUn(p:PV->Out PV)(m1:ME):ME:=λρ=>(m1 ρ).bind p
def New(M:Of)(H:Hp):Prop:=∀p,H p=none->M p
def Rel.new(R:Rel W B S P H σ ρ):New (Mof B S P) H:=λp h=>⟨⟨.inr (zI.none R.same h),λz=>by obtain⟨o,q,_⟩:=R.exc p z;rw[h]at q;cases q⟩,λi hi e=>by obtain⟨_,o,q,_⟩:=R.act i hi;rw[e,h]at q;cases q⟩
def RV.eq:RV C B S P false=Rep C.W (Mof B S P):=by
 funext H x v;exact propext qL.iff
def Lf2(W:RC)(r:R2)(p:O_):Prop:=∀(M:Of)(C:LC)(B:Bs) H x y v u Q,New M H->qL W (λ_=>True) M H x v->qL W (λ_=>True) M H y u->yp C B H (Rep W M) Q (p x y)->r v u H Q
def Lf1(W:RC)(r:V->Hp->VK->Prop)(p:PV->Out PV):Prop:=∀(M:Of)(C:LC)(B:Bs) H x v Q,New M H->qL W (λ_=>True) M H x v->yp C B H (Rep W M) Q (p x)->r v H Q
def xy(L:Lf2 C.W r p)(h1:LE C S w1 ta m1)(h2:LE C S w2 tb m2):LE C S false (tOp r ta tb) (mOp p m1 m2):=λB P H σ ρ R Q q=>
 h1 B P H σ ρ R _ (ye q λx v H1 s1 r1 q1=>h2 B P H1 σ ρ (R.keep s1) _ (ye q1 λy u H2 s2 r2 q2=>L _ C B H2 x y v u Q ((R.keep s1).keep s2).new (r1.same s2).weak r2.weak (RV.eq▸q2)))
def zt(o:OpR X (binaryOp op) r)(L:Lf2 C.W r p)(h1:EM X C S w1 a m1)(h2:EM X C S w2 b m2):EM X C S false (.BinOp a op b pos) (mOp p m1 m2):=λhK=>by obtain⟨ta,a1,a2⟩:=h1 hK;obtain⟨tb,b1,b2⟩:=h2 hK;exact⟨_,Fg o a1 b1,xy L a2 b2⟩
def LK(o:UnR X (unaryOp op) r)(L:Lf1 C.W r p)(h1:EM X C S w1 a m1):EM X C S false (.UnaryOp op a pos) (mUn p m1):=λhK=>by obtain⟨ta,a1,a2⟩:=h1 hK;exact⟨_,Ld o a1,λB P H σ ρ R Q q=>a2 B P H σ ρ R _ (ye q λx v H1 s1 r1 q1=>L _ C B H1 x v Q (R.keep s1).new r1.weak (RV.eq▸q1))⟩
def F3(o:OpR X (compareOp op) r)(L:Lf2 C.W r p)(h1:EM X C S w1 a m1)(h2:EM X C S w2 b m2)(hm:behindInMarks op b=false):EM X C S false (.Compare a [op] [b] pos) (mOp p m1 m2):=λhK=>by obtain⟨ta,a1,a2⟩:=h1 hK;obtain⟨tb,b1,b2⟩:=h2 hK;exact⟨_,o6 o a1 b1 hm,xy L a2 b2⟩
def asB:PV->Out Bool
 |.b c=>.ok c
 |_=>.wall
def yi(m:ME):MT:=λρ=>(m ρ).bind asB
def cf(h:LE C S w te m):LT C S (CA te) (yi m):=λB P H σ ρ R Q q=>
 h B P H σ ρ R _ (nr q λx v H1 s1 r1 q1=>by
  cases x with
  |b c=>exact⟨c,(show v=.bl c from r1),q1 H1 (zI.refl _)⟩
  |_=>exact q1.elim)
def qM(o:OpR X (compareOp op) r)(L:Lf2 C.W r p)(h1:EM X C S w1 a m1)(h2:EM X C S w2 b m2)(hm:behindInMarks op b=false):TM X C S (.Compare a [op] [b] pos) (yi (mOp p m1 m2)):=λhK=>by obtain⟨ta,a1,a2⟩:=h1 hK;obtain⟨tb,b1,b2⟩:=h2 hK;exact⟨_,bO o a1 b1 hm,cf (xy L a2 b2)⟩
def d_(p q:O_)(m1 m2 m3:ME):ME:=λρ=>(m1 ρ).bind λx=>(m2 ρ).bind λy=>(p x y).bind λz=>(asB z).bind λk=>if k=true then(m3 ρ).bind λu=>q y u else .ok (.b false)
variable {c:Oq}{w3:Bool}{m3:ME}
def xA(L:Lf2 C.W r p)(L':Lf2 C.W r' p')(h1:LE C S w1 ta m1)(h2:LE C S w2 tb m2)(h3:LE C S w3 tc m3):LE C S false (Bf r r' ta tb tc) (d_ p p' m1 m2 m3):=λB P H σ ρ R Q q=>
 h1 B P H σ ρ R _ (ye q λx v H1 s1 r1 q1=>h2 B P H1 σ ρ (R.keep s1) _ (ye q1 λy u H2 s2 r2 q2=>L _ C B H2 x y v u _ ((R.keep s1).keep s2).new (r1.same s2).weak r2.weak (ye q2 λz zv H3 s3 r3 q3=>by
  cases z with
  |b k=>
   refine⟨k,(show zv=.bl k from r3),?_⟩;have q3:yp C B H3 (RV C B S P false) Q (if k=true then(m3 ρ).bind λu=>p' y u else .ok (.b false)):=q3;cases k with
   |true=>exact CQ (h3 B P H3 σ ρ (((R.keep s1).keep s2).keep s3) _ (ye q3 λt tv H4 s4 r4 q4=>L' _ C B H4 y t u tv Q ((((R.keep s1).keep s2).keep s3).keep s4).new ((r2.same s3).same s4).weak r4.weak (RV.eq▸q4)))
   |false=>exact CP (q3 (.bl false) H3 (zI.refl _) (RV.of rfl))
  |_=>exact q3.elim)))
def xB(o:OpR X (compareOp op) r)(o':OpR X (compareOp op') r')(L:Lf2 C.W r p)(L':Lf2 C.W r' p')(h1:EM X C S w1 a m1)(h2:EM X C S w2 b m2)(h3:EM X C S w3 c m3)
  (hm:lastMarks [op,op'] [b,c]=false:=by with_unfolding_all rfl):EM X C S false (.Compare a [op,op'] [b,c] pos) (d_ p p' m1 m2 m3):=λhK=>by
 obtain⟨ta,a1,a2⟩:=h1 hK;obtain⟨tb,b1,b2⟩:=h2 hK;obtain⟨tc,c1,c2⟩:=h3 hK;exact⟨_,uR o o' a1 b1 c1 hm,xA L L' a2 b2 c2⟩
end
def pI(g:Int->Int->PV):PV->PV->Out PV
 |.i a,.i b=>.ok (g a b)
 |_,_=>.wall
def pU(g:Int->PV):PV->Out PV
 |.i a=>.ok (g a)
 |_=>.wall
def IB(hg:∀a b M H,Rep W M H (g a b) (gv a b)):Lf2 W (rI0 gv) (pI g):=λM C B H x y v u Q hM hx hy q=>by
 cases x with
 |i a=>
  cases y with
  |i b=>exact⟨a,b,hx,hy,q _ H (zI.refl _) (hg a b _ _)⟩
  |_=>exact q.elim
 |_=>exact q.elim
def NP(hg:∀a M H,Rep W M H (g a) (gv a)):Lf1 W (rU gv) (pU g):=λM C B H x v Q hM hx q=>by
 cases x with
 |i a=>exact⟨a,hx,q _ H (zI.refl _) (hg a _ _)⟩
 |_=>exact q.elim
abbrev gO:=pI λa b=>.i (a-b)
abbrev pLt:=pI λa b=>.b (decide (a<b))
abbrev pLe:=pI λa b=>.b (decide (a<=b))
abbrev pGt:=pI λa b=>.b (decide (b<a))
abbrev MU:=pU λa=>.i (-a)
def Wh:Lf2 W (rI0 λi j=>.int (i-j)) gO:=IB λ_ _ _ _=>rfl
def F4:Lf1 W (rU λi=>.int (-i)) MU:=NP λ_ _ _=>rfl
section
variable {W:RC}{M:Of}{H:Hp}
def yQ.nil:yQ W M H [] []:=rfl
def yQ.cons(h:Rep W M H x v)(t:yQ W M H xs vs):yQ W M H (x::xs) (v::vs):=⟨v,vs,rfl,h,t⟩
def yQ.len:∀{xs:Ov}{vs:Oi},yQ W M H xs vs->vs.length=xs.length
 |[],_,h=>by cases(show _=_ from h);rfl
 |x::xs,_,h=>by obtain⟨v,r,rfl,_,h2⟩:=h;rw[N9,N9,yQ.len h2]
def yQ.get:∀{xs:Ov}{vs:Oi}{i:Nat}{x:PV},yQ W M H xs vs->xs[i]?=some x->∃v,vs[i]?=some v/\Rep W M H x v
 |[],_,_,_,_,e=>by simp at e
 |x::xs,_,0,y,h,e=>by obtain⟨v,r,rfl,h1,h2⟩:=h;simp at e;subst e;exact⟨v,rfl,h1⟩
 |x::xs,_,i+1,y,h,e=>by obtain⟨v,r,rfl,h1,h2⟩:=h;simp only[List.getElem?_cons_succ]at e ⊢;exact yQ.get h2 e
def yQ.ES:∀{xs:Ov}{vs:Oi}{i:Nat}{v:V},yQ W M H xs vs->vs[i]?=some v->∃x,xs[i]?=some x/\Rep W M H x v
 |[],_,_,_,h,e=>by cases(show _=_ from h);simp at e
 |x::xs,_,0,y,h,e=>by obtain⟨v,r,rfl,h1,h2⟩:=h;simp at e;subst e;exact⟨x,rfl,h1⟩
 |x::xs,_,i+1,y,h,e=>by obtain⟨v,r,rfl,h1,h2⟩:=h;simp only[List.getElem?_cons_succ]at e ⊢;exact yQ.ES h2 e
def yQ.append:∀{xs ys:Ov}{vs us:Oi},yQ W M H xs vs->yQ W M H ys us->yQ W M H (xs++ys) (vs++us)
 |[],_,_,_,h,k=>by cases(show _=_ from h);exact k
 |x::xs,_,_,_,h,k=>by obtain⟨v,r,rfl,h1,h2⟩:=h;exact⟨v,_,rfl,h1,yQ.append h2 k⟩
def yQ.take:∀{xs:Ov}{vs:Oi}(n:Nat),yQ W M H xs vs->yQ W M H (xs.take n) (vs.take n)
 |[],_,_,h=>by cases(show _=_ from h);simp;exact yQ.nil
 |x::xs,_,0,h=>yQ.nil
 |x::xs,_,n+1,h=>by obtain⟨v,r,rfl,h1,h2⟩:=h;exact⟨v,_,rfl,h1,yQ.take n h2⟩
def yQ.drop:∀{xs:Ov}{vs:Oi}(n:Nat),yQ W M H xs vs->yQ W M H (xs.drop n) (vs.drop n)
 |[],_,_,h=>by cases(show _=_ from h);simp;exact yQ.nil
 |x::xs,_,0,h=>h
 |x::xs,_,n+1,h=>by obtain⟨v,r,rfl,h1,h2⟩:=h;exact yQ.drop n h2
def yQ.set{x:PV}{v:V}(hx:Rep W M H x v):∀{xs:Ov}{vs:Oi}(n:Nat),yQ W M H xs vs->yQ W M H (xs.set n x) (vs.set n v)
 |[],_,_,h=>by cases(show _=_ from h);simp;exact yQ.nil
 |y::xs,_,0,h=>by obtain⟨v,r,rfl,h1,h2⟩:=h;exact⟨_,_,rfl,hx,h2⟩
 |y::xs,_,n+1,h=>by obtain⟨v,r,rfl,h1,h2⟩:=h;exact⟨v,_,rfl,h1,yQ.set hx n h2⟩
def yQ.ints:∀{ns:OB},yQ W M H (ns.map PV.i) (ns.map V.int)
 |[]=>rfl
 |n::ns=>⟨_,_,rfl,rfl,yQ.ints⟩
def yQ.at(h:yQ W M H xs vs)(e:atI xs i=some x):∃v,atI vs i=some v/\Rep W M H x v:=by
 unfold atI at e ⊢;rw[h.len];cases q:ixN xs.length i with
 |none=>rw[q]at e;cases e
 |some j=>rw[q]at e;exact h.get e
def yQ.cut{xs:Ov}{vs:Oi}{lo hi:OV}(h:yQ W M H xs vs):yQ W M H ((xs.drop (HT.sIx xs.length 0 lo)).take (HT.sIx xs.length xs.length hi-HT.sIx xs.length 0 lo)) (Bi vs lo hi):=by unfold Bi;rw[h.len];exact(h.drop _).take _
def j8.iff:∀{kvs:Oz}{es:Oo},j8 W M H kvs es↔es.map (·.1)=kvs.map (·.1)/\yQ W M H (kvs.map (·.2)) (es.map (·.2))
 |[],es=>⟨λh=>by cases(show _=_ from h);exact⟨rfl,rfl⟩,λh=>by cases es with|nil=>rfl|cons a r=>cases h.1⟩
 |kx::r,es=>by
  constructor
  .rintro ⟨v,q,rfl,h1,h2⟩
   obtain⟨e,t⟩:=j8.iff.mp h2;exact⟨by simp only[List.map_cons,e],v,_,rfl,h1,t⟩
  .rintro ⟨e,v,q,e2,h1,h2⟩
   cases es with
   |nil=>cases e2
   |cons a es=>simp only[List.map_cons,List.cons.injEq]at e e2;refine⟨a.2,es,by rw[<- e.1],by rw[e2.1];exact h1,j8.iff.mpr ⟨e.2,by rw[e2.2];exact h2⟩⟩
def vI.iff:∀{kvs:OA}{es:OE},vI W M H kvs es↔es.map (·.1)=kvs.map (·.1)/\yQ W M H (kvs.map (·.2)) (es.map (·.2))
 |[],es=>⟨λh=>by cases(show _=_ from h);exact⟨rfl,rfl⟩,λh=>by cases es with|nil=>rfl|cons a r=>cases h.1⟩
 |kx::r,es=>by
  constructor
  .rintro ⟨v,q,rfl,h1,h2⟩
   obtain⟨e,t⟩:=vI.iff.mp h2;exact⟨by simp only[List.map_cons,e],v,_,rfl,h1,t⟩
  .rintro ⟨e,v,q,e2,h1,h2⟩
   cases es with
   |nil=>cases e2
   |cons a es=>simp only[List.map_cons,List.cons.injEq]at e e2;refine⟨a.2,es,by rw[<- e.1],by rw[e2.1];exact h1,vI.iff.mpr ⟨e.2,by rw[e2.2];exact h2⟩⟩
def vI.lookup:∀{kvs:OA}{es:OE}{f:Str}{x:PV},vI W M H kvs es->kvs.lookup f=some x->∃v,es.lookup f=some v/\Rep W M H x v
 |[],_,_,_,_,e=>by cases e
 |kx::r,_,f,x,h,e=>by
  obtain⟨v,q,rfl,h1,h2⟩:=h;rw[T0]at e ⊢;by_cases c:(f==kx.1)=true
  .simp only[c]at e ⊢;cases e;exact⟨v,rfl,h1⟩
  .simp only[c]at e ⊢;exact vI.lookup h2 e
def vI.Xz:∀{kvs:OA}{es:OE}{f:Str},vI W M H kvs es->kvs.lookup f=none->es.lookup f=none
 |[],_,_,h,_=>by cases(show _=_ from h);rfl
 |kx::r,_,f,h,e=>by
  obtain⟨v,q,rfl,h1,h2⟩:=h;rw[T0]at e ⊢;by_cases c:(f==kx.1)=true
  .simp only[c]at e;cases e
  .simp only[c]at e ⊢;exact vI.Xz h2 e
def pR(n:New M H)(hp:H p=none)(h:yQ W M H xs vs):Rep W M (upd H p (.lst vs)) (.l xs) (.ref p):=⟨p,vs,rfl,n p hp,zi,h.same (zI.upd hp)⟩
def C2(hp:H p=none)(h:yQ W M H xs vs):Rep W M (upd H p (.tup vs)) (.t xs) (.ref p):=⟨p,vs,rfl,SqT.of zi,h.same (zI.upd hp)⟩
end
def F5:R2:=λx y H Q=>(rI0 (λi j=>.int (i+j)) x y H Q\/∃i j,x=.str i/\y=.str j/\i.length+j.length<=sizeLine/\Q (.str (i++j)) H)\/MP x y H Q
def zQ:OpR X (binaryOp .Add) F5:=(Fi.or mV).or Bl
def zW:PV->PV->Out PV
 |.i a,.i b=>.ok (.i (a+b))
 |.s a,.s b=>if a.length+b.length<=sizeLine then .ok (.s (a++b))else .wall
 |.l a,.l b=>if a.length+b.length<=sizeLine then .ok (.l (a++b))else .wall
 |_,_=>.wall
def zR:Lf2 W F5 zW:=λM C B H x y v u Q n hx hy q=>by
 unfold zW at q;split at q
 .exact .inl (.inl ⟨_,_,hx,hy,q _ H (zI.refl _) rfl⟩)
 .split at q
  .rename_i h;exact .inl (.inr ⟨_,_,hx,hy,h,q _ H (zI.refl _) rfl⟩)
  .exact q.elim
 .split at q
  .rename_i h;obtain⟨p,vs,rfl,_,e,r⟩:=hx;obtain⟨p',vs',rfl,_,e',r'⟩:=hy;exact .inr ⟨p,p',vs,vs',rfl,rfl,e,e',by rw[r.len,r'.len];exact h,λz hz=>q _ _ (zI.upd hz) (pR n hz (r.append r'))⟩
  .exact q.elim
 .exact q.elim
def F6:R2:=λx y H Q=>(rI Be (λi j=>.int (i*j)) x y H Q\/rI xn (λi j=>.int (i*j)) x y H Q)\/(FV x y H Q\/MQ x y H Q)
def ZL:OpR X (binaryOp .Mult) F6:=(Fj.or CU).or (nh.or Fz)
instance{i j:Int}:Decidable (Be i j):=by unfold Be;infer_instance
instance{i j:Int}:Decidable (EO i j):=by unfold EO;infer_instance
instance{i j:Int}:Decidable (Fh i j):=by unfold Fh;infer_instance
def Ys:PV->PV->Out PV
 |.i a,.i b=>if Be a b\/(a.natAbs<2 ^ 8192/\b.natAbs<2 ^ 8192)then .ok (.i (a*b))else .wall
 |.s a,.i b=>if a.length<=16/\-2 ^ 63<=b/\b<=1048576 then .ok (.s (Txt.mul a b))else .wall
 |.l a,.i b=>if -(2 ^ 63)<=b/\b<2 ^ 63/\a.length*b.toNat<=sizeLine then .ok (.l (List.replicate b.toNat a).flatten)else .wall
 |_,_=>.wall
def yQ.rep{W:RC}{M:Of}{H:Hp}{xs:Ov}{vs:Oi}(h:yQ W M H xs vs):∀n,yQ W M H (List.replicate n xs).flatten (List.replicate n vs).flatten
 |0=>rfl
 |n+1=>by rw[a0D,a0D,a00,a00];exact h.append (h.rep n)
def ZM:Lf2 W F6 Ys:=λM C B H x y v u Q n hx hy q=>by
 unfold Ys at q;split at q
 .split at q
  .rename_i h;rcases h with h|h
   .exact .inl (.inl ⟨_,_,hx,hy,h,q _ H (zI.refl _) rfl⟩)
   .exact .inl (.inr ⟨_,_,hx,hy,h,q _ H (zI.refl _) rfl⟩)
  .exact q.elim
 .split at q
  .rename_i h;exact .inr (.inl ⟨_,_,hx,hy,h.1,h.2.1,h.2.2,q _ H (zI.refl _) rfl⟩)
  .exact q.elim
 .split at q
  .rename_i h;obtain⟨p,vs,rfl,_,e,r⟩:=hx;exact .inr (.inr ⟨p,_,vs,rfl,hy,e,h.1,h.2.1,by rw[r.len];exact h.2.2,λz hz=>q _ _ (zI.upd hz) (pR n hz (r.rep _))⟩)
  .exact q.elim
 .exact q.elim
def F7:R2:=λx y H Q=>rI EO (λi j=>.int (i / j)) x y H Q\/rI FW (λi j=>.int (i.fdiv j)) x y H Q
def ZN:OpR X (binaryOp .FloorDiv) F7:=Cw.or xt
def QE:PV->PV->Out PV
 |.i a,.i b=>if EO a b then .ok (.i (a / b))else if b≠0/\b.natAbs<2 ^ 8192 then .ok (.i (a.fdiv b))else .wall
 |_,_=>.wall
def ZO:Lf2 W F7 QE:=λM C B H x y v u Q n hx hy q=>by
 unfold QE at q;split at q
 .split at q
  .rename_i h;exact .inl ⟨_,_,hx,hy,h,q _ H (zI.refl _) rfl⟩
  .split at q
   .rename_i h;exact .inr ⟨_,_,hx,hy,h,q _ H (zI.refl _) rfl⟩
   .exact q.elim
 .exact q.elim
def F8:R2:=λx y H Q=>rI (λ_ j=>0<j) (λi j=>.int (i % j)) x y H Q\/rI (λ_ j=>j≠0) (λi j=>.int (i.fmod j)) x y H Q
def zG:OpR X (binaryOp .Mod) F8:=Fm.or Cy
def zX:PV->PV->Out PV
 |.i a,.i b=>if 0<b then .ok (.i (a % b))else if b≠0 then .ok (.i (a.fmod b))else .wall
 |_,_=>.wall
def zH:Lf2 W F8 zX:=λM C B H x y v u Q n hx hy q=>by
 unfold zX at q;split at q
 .split at q
  .rename_i h;exact .inl ⟨_,_,hx,hy,h,q _ H (zI.refl _) rfl⟩
  .split at q
   .rename_i h;exact .inr ⟨_,_,hx,hy,h,q _ H (zI.refl _) rfl⟩
   .exact q.elim
 .exact q.elim
def VW:PV->PV->Out PV
 |.i a,.i b=>if Fh a b then .ok (.i (a ^ b.toNat))else .wall
 |_,_=>.wall
def YG:Lf2 W (rI Fh λi j=>.int (i ^ j.toNat)) VW:=λM C B H x y v u Q n hx hy q=>by
 unfold VW at q;split at q
 .split at q
  .rename_i h;exact⟨_,_,hx,hy,h,q _ H (zI.refl _) rfl⟩
  .exact q.elim
 .exact q.elim
def gP:Lf2 W (rI0 λi j=>.bl (decide (i<j))) pLt:=IB λ_ _ _ _=>rfl
def nt:Lf2 W (rI0 λi j=>.bl (decide (i<=j))) pLe:=IB λ_ _ _ _=>rfl
def gQ:Lf2 W (rI0 λi j=>.bl (decide (j<i))) pGt:=IB λ_ _ _ _=>rfl
def isN:PV->Bool
 |.n=>true
 |_=>false
def Bq(neg:Bool):PV->PV->Out PV
 |x,.n=>.ok (.b (xor neg (isN x)))
 |_,_=>.wall
def F9(h:qL W N M H x v):decide (v=.non)=isN x:=by
 cases x with
 |n=>cases(show v=_ from h);rfl
 |i a=>cases(show v=_ from h);rfl
 |s a=>cases(show v=_ from h);rfl
 |b a=>cases(show v=_ from h);rfl
 |l a=>obtain⟨p,_,rfl,_⟩:=h;rfl
 |t a=>obtain⟨p,_,rfl,_⟩:=h;rfl
 |d a=>obtain⟨p,_,rfl,_⟩:=h;rfl
 |o c a=>obtain⟨p,_,_,rfl,_⟩:=h;rfl
 |x c a=>obtain⟨p,_,_,rfl,_⟩:=h;rfl
 |sc a=>obtain⟨p,rfl,_⟩:=h;rfl
 |dt a=>obtain⟨p,rfl,_⟩:=h;rfl
def F_:Lf2 W (λx y H Q=>y=.non/\Q (.bl (decide (x=.non))) H) (Bq false):=λM C B H x y v u Q n hx hy q=>by
 unfold Bq at q;split at q
 .refine⟨hy,?_⟩;rw[F9 hx];exact q _ H (zI.refl _) (by rw[a0H];rfl)
 .exact q.elim
def C3:Lf2 W (λx y H Q=>y=.non/\Q (.bl (!decide (x=.non))) H) (Bq true):=λM C B H x y v u Q n hx hy q=>by
 unfold Bq at q;split at q
 .refine⟨hy,?_⟩;rw[F9 hx];exact q _ H (zI.refl _) (by rw[a1a];rfl)
 .exact q.elim
def i4.rk(e:Rd H a (.dK kvs)):i4 H a (kV k) (UZ kvs k):=.inl ⟨kvs,k,e,rfl,rfl⟩
def RFr(W:RC)(M:Of)(H:Hp)(H2:Hp)(x:PV)(v:V):Prop:=∃p,v=.ref p/\H p=none/\cb W (λa=>M a/\a≠p) H2 p x
def RFr.rep(n:New M H)(h:RFr W M H H2 x v):Rep W M H2 x v:=by obtain⟨p,rfl,hp,h⟩:=h;exact qL.iff.mp ((h.Iz (N:=M) (n p hp)).sub (λ_ m _=>m) λ_ m _=>m.1)
def LFr(C:LC)(S:Od)(te:TE)(m:ME):Prop:=∀B P H σ ρ,Rel C.W B S P H σ ρ->∀Q,yp C B H (RFr C.W (Mof B S P) H) Q (m ρ)->te σ H Q
def FM(X:Cx)(C:LC)(S:Od)(e:Oq)(m:ME):Prop:=X.K=C.W.K->∃te,PE X e te/\LFr C S te m
def K_(h:yp C B H R Q o)(k:∀x v H2,zI H H2->R' H2 x v->R H2 x v):yp C B H R' Q o:=by
 cases o with
 |ok r=>exact λv H2 s hr=>h v H2 s (k _ _ _ s hr)
 |exc c fs=>exact h
 |wall=>exact h
def FM.em(h:FM X C S e m):EM X C S false e m:=λhK=>by obtain⟨te,h1,h2⟩:=h hK;exact⟨te,h1,λB P H σ ρ R Q q=>h2 B P H σ ρ R Q (K_ q λx v H2 s hr=>RV.of (hr.rep R.new))⟩
def RVs(C:LC)(B:Bs)(S:Od)(P:Ol)(H:Hp):List Bool->List PV->List V->Prop
 |[],xs,vs=>xs=[]/\vs=[]
 |w::ws,xs,vs=>∃x v xr vr,xs=x::xr/\vs=v::vr/\RV C B S P w H x v/\RVs C B S P H ws xr vr
def nu(C:LC)(B:Bs)(H:Hp)(R:Hp->List PV->List V->Prop)(Q:List V->Hp->Prop):Out (List PV)->Prop
 |.ok r=>∀v H2,zI H H2->R H2 r v->Q v H2
 |.exc c fs=>XPo C B c fs
 |.wall=>False
def LA(C:LC)(S:Od)(ws:Oh)(ta:TA)(m:MA):Prop:=∀B P H σ ρ,Rel C.W B S P H σ ρ->∀Q,nu C B H (λH2=>RVs C B S P H2 ws) Q (m ρ)->ta σ H Q
def AM(X:Cx)(C:LC)(S:Od)(ws:Oh)(es:Om)(m:MA):Prop:=X.K=C.W.K->∃ta,PA X es ta/\LA C S ws ta m
def zm:MA:=λ_=>.ok []
def zb(m:ME)(ms:MA):MA:=λρ=>(m ρ).bind λx=>(ms ρ).bind λxs=>.ok (x::xs)
def nv{α:Type}{f:PV->Out α}{T:Hp->Out α->Prop}(hT:∀H H2 o,zI H H2->T H o->T H2 o)(hx:∀c fs,T H (.exc c fs)->XPo C B c fs)(hw:T H .wall->False)
  (h:T H (o.bind f)) (k:∀r v H2,zI H H2->R H2 r v->T H2 (f r)->Q' v H2):yp C B H R Q' o:=by
 cases o with
 |ok r=>exact λv H2 s hr=>k r v H2 s hr (hT _ _ _ s h)
 |exc c fs=>exact hx _ _ h
 |wall=>exact hw h
def gR(s:zI H H2)(h:nu C B H R Q o):nu C B H2 R Q o:=by
 cases o with
 |ok x=>exact λv H3 s3 hx=>h v H3 (s.trans s3) hx
 |exc c fs=>exact h
 |wall=>exact h
def qP(h:yp C B H R Q (o.bind f))(k:∀r v H2,zI H H2->R' H2 r v->yp C B H2 R Q (f r)->Q' v H2):nu C B H R' Q' o:=by
 cases o with
 |ok r=>exact λv H2 s hr=>k r v H2 s hr (Yr (o:=f r) h s)
 |exc c fs=>exact h
 |wall=>exact h
section
variable {X:Cx}{C:LC}{S:Od}{e a b:Oq}{es:Om}{w w1 w2:Bool}{ws:Oh}{m m1 m2:ME}{ms:MA}{t1 t2:MT}{pos:Pos}
def ze:AM X C S [] [] zm:=λ_=>⟨_,Xr,λB P H σ ρ R Q q=>q [] H (zI.refl _) ⟨rfl,rfl⟩⟩
def za(h:EM X C S w e m)(hr:AM X C S ws es ms)(hs:starEach (e::es) X.env=(false,eval e X.env)::starEach es X.env:=by rfl):AM X C S (w::ws) (e::es) (zb m ms):=λhK=>by
 obtain⟨te,a1,a2⟩:=h hK;obtain⟨ta,b1,b2⟩:=hr hK;refine⟨_,QK a1 b1 hs,λB P H σ ρ R Q q=>a2 B P H σ ρ R _ (nv (T:=λH o=>nu C B H (λH2=>RVs C B S P H2 (w::ws)) Q o) (λ_ _ _ s h=>gR s h) (λ_ _ h=>h) (λh=>h) q λx v H1 s1 r1 q1=>?_)⟩;refine b2 B P H1 σ ρ (R.keep s1) _ ?_;revert q1;cases ms ρ with
 |ok xs=>exact λq1 vs H2 s2 r2=>q1 (v::vs) H2 s2 ⟨x,v,xs,vs,rfl,rfl,r1.same s2,r2⟩
 |exc c fs=>exact id
 |wall=>exact id
def RVs.Ga{B:Bs}{P:Ol}{H:Hp}:∀{ws:Oh}{xs:Ov}{vs:Oi},RVs C B S P H ws xs vs->ws.all (!·)=true->yQ C.W (Mof B S P) H xs vs
 |[],_,_,⟨e1,e2⟩,_=>by subst e1;subst e2;rfl
 |w::ws,_,_,⟨x,v,xr,vr,e1,e2,h1,h2⟩,hw=>by subst e1;subst e2;simp only[List.all_cons,Bool.and_eq_true,Bool.not_eq_true']at hw;rw[hw.1]at h1;exact⟨v,vr,rfl,h1.rep,RVs.Ga h2 hw.2⟩
def QM(ms:MA):ME:=λρ=>(ms ρ).bind λxs=>if xs.length<=sizeLine then .ok (.l xs)else .wall
def YC(ms:MA):ME:=λρ=>(ms ρ).bind λxs=>if xs.length<=sizeLine then .ok (.t xs)else .wall
def jG(h:AM X C S ws es ms)(hw:ws.all (!·)=true:=by rfl):FM X C S (.List es pos) (QM ms):=λhK=>by
 obtain⟨ta,a1,a2⟩:=h hK;refine⟨_,Fq a1,λB P H σ ρ R Q q=>a2 B P H σ ρ R _ (qP q λxs vs H1 s1 r1 q1=>?_)⟩;have rs:=r1.Ga hw;split at q1
 .rename_i hl;exact⟨by rw[rs.len];exact hl,λp hp=>q1 _ _ (zI.upd hp) ⟨p,rfl,zI.none s1 hp,vs,zi,(rs.sub λa m n=>⟨m,λz=>n (z▸hp)⟩).same (zI.upd hp)⟩⟩
 .exact q1.elim
def qN{x1}(h:AM X C S ws es ms)(hw:ws.all (!·)=true:=by rfl):EM X C S false (.Tuple es x1 pos) (YC ms):=λhK=>by
 obtain⟨ta,a1,a2⟩:=h hK;refine⟨_,aT a1,λB P H σ ρ R Q q=>a2 B P H σ ρ R _ (qP q λxs vs H1 s1 r1 q1=>?_)⟩;have rs:=r1.Ga hw;split at q1
 .rename_i hl;exact⟨by rw[rs.len];exact hl,λp hp=>q1 _ _ (zI.upd hp) (RV.of (C2 hp rs))⟩
 .exact q1.elim
def eh(t u:MT):MT:=λρ=>(t ρ).bind λc=>if c=true then u ρ else .ok false
def mOr(t u:MT):MT:=λρ=>(t ρ).bind λc=>if c=true then .ok true else u ρ
def Br(t:MT):MT:=λρ=>(t ρ).bind λc=>.ok (!c)
def xC(m1 m2:ME):ME:=λρ=>(m1 ρ).bind λx=>(asB x).bind λc=>if c=true then m2 ρ else .ok (.b false)
def TWM.tm(h:TWM X C S e t1):TM X C S e t1:=λhK=>let⟨tt,a1,a2⟩:=h hK;⟨tt,a1.pt,a2⟩
def VX(h:TM X C S a t1):TWM X C S (.BoolOp .And [a] pos) t1:=λhK=>let⟨tt,a1,a2⟩:=h hK;⟨tt,pw_and1 a1,a2⟩
def XA(h:TM X C S a t1):TWM X C S (.BoolOp .Or [a] pos) t1:=λhK=>let⟨tt,a1,a2⟩:=h hK;⟨tt,pw_or1 a1,a2⟩
variable {rest:Om}
def XB(h:TM X C S a t1)(h2:TWM X C S (.BoolOp .And (b::rest) pos) t2):TWM X C S (.BoolOp .And (a::b::rest) pos) (eh t1 t2):=λhK=>by
 obtain⟨tt,a1,a2⟩:=h hK;obtain⟨tu,b1,b2⟩:=h2 hK;refine⟨_,pw_and a1 b1,λB P H σ ρ R Q q=>a2 B P H σ ρ R _ (KC q λc H1 s1 q1=>?_)⟩;cases c with
 |true=>exact CQ (b2 B P H1 σ ρ (R.keep s1) _ q1)
 |false=>exact CP (q1 H1 (zI.refl _))
def XE(h:TM X C S a t1)(h2:TWM X C S (.BoolOp .Or (b::rest) pos) t2):TWM X C S (.BoolOp .Or (a::b::rest) pos) (mOr t1 t2):=λhK=>by
 obtain⟨tt,a1,a2⟩:=h hK;obtain⟨tu,b1,b2⟩:=h2 hK;refine⟨_,pw_or a1 b1,λB P H σ ρ R Q q=>a2 B P H σ ρ R _ (KC q λc H1 s1 q1=>?_)⟩;cases c with
 |true=>exact CQ (q1 H1 (zI.refl _))
 |false=>exact CP (b2 B P H1 σ ρ (R.keep s1) _ q1)
def pT(h:TM X C S a t1):TM X C S (.UnaryOp .Not a pos) (Br t1):=λhK=>by obtain⟨tt,a1,a2⟩:=h hK;exact⟨_,E_ a1,λB P H σ ρ R Q q=>a2 B P H σ ρ R _ (KC q λc H1 s1 q1=>q1 H1 (zI.refl _))⟩
def XF(h:EM X C S w e m)(he:∀whole,isTrue e X.env whole=(do let v<-whole;standAt e.pos;holding [v] (truthy v)):=by intro _;rfl):TM X C S e (yi m):=λhK=>by obtain⟨te,a1,a2⟩:=h hK;exact⟨_,E9 a1 he,cf a2⟩
def Gb{op}(h:EM X C S w a m):EM X C S w (.BoolOp op [a] pos) m:=λhK=>let⟨tt,a1,a2⟩:=h hK;⟨tt,Fb a1,a2⟩
def Gd(h:EM X C S w1 a m1)(h2:EM X C S false (.BoolOp .And (b::rest) pos) m2):EM X C S false (.BoolOp .And (a::b::rest) pos) (xC m1 m2):=λhK=>by
 obtain⟨tt,a1,a2⟩:=h hK;obtain⟨tu,b1,b2⟩:=h2 hK;refine⟨_,Fc a1 b1,λB P H σ ρ R Q q=>a2 B P H σ ρ R _ (ye q λx v H1 s1 r1 q1=>?_)⟩;cases x with
 |b c=>
  refine⟨c,(show v=.bl c from r1),?_⟩;cases c with
  |true=>exact CQ (b2 B P H1 σ ρ (R.keep s1) _ q1)
  |false=>exact CP (q1 _ H1 (zI.refl _) (RV.of rfl))
 |_=>exact q1.elim
end
def yq{κ α:Type}[DecidableEq κ](kvs:List (κ×α))(k:κ):Option α:=(kvs.find? λkv=>decide (kv.1=k)).map (·.2)
def j8.get{W:RC}{M:Of}{H:Hp}:∀{kvs:Oz}{es:Oo}{k:Key}{x:PV},j8 W M H kvs es->yq kvs k=some x->∃v,UZ es k=some v/\Rep W M H x v
 |[],_,_,_,_,e=>by cases e
 |kx::r,_,k,x,h,e=>by
  obtain⟨v,q,rfl,h1,h2⟩:=h;unfold yq at e;unfold UZ;rw[a0o]at e ⊢;by_cases c:kx.1=k
  .simp only[c,decide_true]at e ⊢;cases e;exact⟨v,rfl,h1⟩
  .simp only[c,decide_false]at e ⊢;exact j8.get h2 e
def j8.IC{W:RC}{M:Of}{H:Hp}:∀{kvs:Oz}{es:Oo}{k:Key},j8 W M H kvs es->yq kvs k=none->UZ es k=none
 |[],_,_,h,_=>by cases(show _=_ from h);rfl
 |kx::r,_,k,h,e=>by
  obtain⟨v,q,rfl,h1,h2⟩:=h;unfold yq at e;unfold UZ;rw[a0o]at e ⊢;by_cases c:kx.1=k
  .simp only[c,decide_true]at e;cases e
  .simp only[c,decide_false]at e ⊢;exact j8.IC h2 e
def j8.NQ(h:j8 W M H kvs es):(UZ es k).isSome=(yq kvs k).isSome:=by
 cases e:yq kvs k with
 |none=>rw[h.IC e];rfl
 |some x=>obtain⟨v,q,_⟩:=h.get e;rw[q];rfl
def pk:PV->Option Key
 |.i n=>some (.inl n)
 |.s x=>some (.inr x)
 |_=>none
def cg(h:qL W N M H x v)(e:pk x=some k):v=kV k:=by
 cases x with
 |i n=>cases e;exact h
 |s n=>cases e;exact h
 |_=>cases e
def MV:R2:=λx y H Q=>∃a v,x=.ref a/\i4 H a y (some v)/\Q v H
def pV(hu:X.A.units+1<cLine):IxR X MV:=by
 intro value slice pins s σ H x y v u Q I rx ry h hs;obtain⟨a,w',rfl,g,q⟩:=h;cases rx;have hT:=gE I g;unfold subscriptTail;refine f8 ?_;rw[getitemInPython_of_ne hT.not_modules];refine f8 (wpAny_specialOf hT PySem.F.slot_dict_getitem.lookup ?_);have fin:wpAny (Ph X) X.A (subscripted slice false (.ref a) u) (λr s₃=>wpAny (Ph X) X.A (letTemporaryGo value (.ref a) r >>= λ_=>pure r) (EP X pins σ Q) X.xe s₃) X.xe s:=by rw[hs];exact wpAny_operating (a0c (pq hu I g ry λw' s3 I3 rw'=>⟨_,H,I3,rw',q⟩) (λr s₃ h₃=>f8 (wpAny_letTemporaryGo (O0 h₃))) λ_ _ x=>x)
 first
  |exact O0 (f8 fin)
  |exact f8 (O0 (f8 fin))
  |exact f8 fin
def NR(K:OF):R2:=λx y H Q=>rIx K x y H Q\/MV x y H Q
def Yt{α:Type}:Option α->Out α
 |some a=>.ok a
 |none=>.wall
def pIx:PV->PV->Out PV
 |.l xs,.i k=>Yt (atI xs k)
 |.t xs,.i k=>Yt (atI xs k)
 |.sc ns,.i k=>Yt ((atI ns k).map PV.i)
 |.s z,.i k=>if z.length<=sizeLine then Yt ((atI z.cps.toList k).map λc=>.s ⟨#[c]⟩)else .wall
 |.d kvs,y=>Yt ((pk y).bind λk=>yq kvs k)
 |_,_=>.wall
def y_(h:yp C B H R Q (Yt o)):∃x,o=some x/\∀v H2,zI H H2->R H2 x v->Q v H2:=by
 cases o with
 |none=>exact h.elim
 |some x=>exact⟨x,rfl,h⟩
def LL:Lf2 W (NR W.K) pIx:=λM C B H x y v u Q n hx hy q=>by
 unfold pIx at q;split at q
 .obtain⟨x,e,q⟩:=y_ q;obtain⟨p,vs,rfl,_,hl,r⟩:=hx;obtain⟨v,hv,rv⟩:=r.at e;exact .inl (.inl ⟨p,vs,_,v,rfl,hy,SqL.of hl,hv,q v H (zI.refl _) rv⟩)
 .obtain⟨x,e,q⟩:=y_ q;obtain⟨p,vs,rfl,hl,r⟩:=hx;obtain⟨v,hv,rv⟩:=r.at e;exact .inl (.inr (.inl ⟨p,vs,_,v,rfl,hy,hl,hv,q v H (zI.refl _) rv⟩))
 .obtain⟨x,e,q⟩:=y_ q;obtain⟨p,rfl,hl⟩:=hx;obtain⟨z,hz,rfl⟩:=N8.mp e;refine .inl (.inl ⟨p,_,_,.int z,rfl,hy,hl.sq,?_,q _ H (zI.refl _) rfl⟩);unfold atI at hz ⊢;rw[u8];cases c:ixN _ _ with
  |none=>rw[c]at hz;cases hz
  |some j=>rw[c,Option.bind_some]at hz;show(List.map V.int _)[j]?=_;rw[S4,hz];rfl
 .split at q
  .rename_i hl;obtain⟨x,e,q⟩:=y_ q;obtain⟨z,hz,rfl⟩:=N8.mp e;exact .inl (.inr (.inr ⟨_,_,z,hx,hy,hl,hz,q _ H (zI.refl _) rfl⟩))
  .exact q.elim
 .obtain⟨x,e,q⟩:=y_ q;obtain⟨p,es,rfl,_,hl,r⟩:=hx;obtain⟨k,hk,e⟩:=R9.mp e;obtain⟨v,hv,rv⟩:=r.get e;exact .inr ⟨p,v,rfl,by rw[cg hy hk,<- hv];exact i4.rk hl,q v H (zI.refl _) rv⟩
 .exact q.elim
def xD(hu:X.A.units+1<cLine)(h1:EM X C S w1 a m1)(h2:EM X C S w2 b m2)(hs:bQ b:=by intro _ _;rfl):EM X C S false (.Subscript a b pos) (mOp pIx m1 m2):=λhK=>by obtain⟨ta,a1,a2⟩:=h1 hK;obtain⟨tb,b1,b2⟩:=h2 hK;exact⟨_,Ft (Fv.or (pV hu)) a1 b1 hs,xy (by rw[hK];exact LL) a2 b2⟩
def toV:PV->Option V
 |.i a=>some (.int a)
 |.s a=>some (.str a)
 |.b a=>some (.bl a)
 |.n=>some .non
 |_=>none
def XG(h:qL W N M H x v)(e:toV x=some u):v=u/\WO u=true:=by cases x<;>first|(cases e;exact⟨h,rfl⟩)|cases e
def ID:Option Bool->Option Bool->Option Bool
 |some a,some b=>some (a&&b)
 |_,_=>none
def xE(f:OW):List PV->List PV->Option Bool
 |[],[]=>some true
 |x::xs,y::ys=>ID (f x y) (xE f xs ys)
 |_,_=>some false
def ET(f:OW)(b:Oz):List (Key×PV)->Option Bool
 |[]=>some true
 |kx::r=>match yq b kx.1 with
  |none=>some false
  |some y=>ID (f kx.2 y) (ET f b r)
def Ge(x y:PV):Option Bool:=match toV x,toV y with|some a,some b=>some (eqV a b)|_,_=>none
def dy:Nat->PV->PV->Option Bool
 |n+1,.l xs,.l ys=>xE (dy n) xs ys
 |n+1,.t xs,.t ys=>xE (dy n) xs ys
 |_,x,y=>Ge x y
def EU(n:Nat):PV->PV->Option Bool
 |.d a,.d b=>if a.length=b.length then ET (dy n) b a else some false
 |x,y=>dy n x y
def Va(h:ID a b=some c):∃p q,a=some p/\b=some q/\c=(p&&q):=by cases a<;>cases b<;>first|(cases h;done)|(cases h;exact⟨_,_,rfl,rfl,rfl⟩)
def lg{f:OW}:∀{xs ys:Ov}{b:Bool},xE f xs ys=some b->xs.length≠ys.length->b=false
 |[],[],_,_,h=>absurd rfl h
 |[],_::_,_,h,_=>by cases h;rfl
 |_::_,[],_,h,_=>by cases h;rfl
 |x::xs,y::ys,b,h,n=>by obtain⟨p,q,_,h2,rfl⟩:=Va h;rw[lg h2 (λz=>n (by rw[N9,N9,z])),a2W]
def gS{f:OW}:∀{xs ys:Ov}{b:Bool},xE f xs ys=some b->∃e:Nat->Bool,(∀j x y,xs[j]?=some x->ys[j]?=some y->f x y=some (e j))/\b=((List.range (min xs.length ys.length)).all e&&xs.length==ys.length)
 |[],[],b,h=>⟨λ_=>true,(λj x y h=>by simp at h),by cases h;rfl⟩
 |[],_::_,b,h=>⟨λ_=>true,(λj x y h=>by simp at h),by cases h;simp⟩
 |_::_,[],b,h=>⟨λ_=>true,(λj x y _ h=>by simp at h),by cases h;simp⟩
 |x::xs,y::ys,b,h=>by
  obtain⟨p,q,h1,h2,rfl⟩:=Va h;obtain⟨e,he,rfl⟩:=gS h2;refine⟨λj=>match j with|0=>p|j+1=>e j,λj a c ha hc=>?_,?_⟩
  .cases j with
   |zero=>simp only[List.getElem?_cons_zero,Option.some.injEq]at ha hc;subst ha;subst hc;exact h1
   |succ j=>simp only[List.getElem?_cons_succ]at ha hc;exact he j a c ha hc
  .simp only[List.length_cons,Nat.add_min_add_right,List.range_succ_eq_map,List.all_cons,List.all_map,Bool.and_assoc];congr 1;simp[Function.comp_def]
section
variable {X:Cx}{pins:Oa}{σ:St}{H:Hp}{s:Oe}{W:RC}
def C4(I:Inv X pins σ H s)(hK:W.K=X.K):∀{n:Nat}{x y:PV}{b:Bool}{v:V}{N M N' M':Of},dy n x y=some b->qL W N M H x v->qL W N' M' H y v->b=true:=by
 have fl:∀{x y:PV}{b:Bool}{v:V}{N M N' M':Of},Ge x y=some b->qL W N M H x v->qL W N' M' H y v->b=true:=by
  intro x y b v N M N' M' h h1 h2;unfold Ge at h;cases ex:toV x with
  |none=>rw[ex]at h;cases h
  |some a=>
   cases ey:toV y with
   |none=>rw[ex,ey]at h;cases h
   |some c=>rw[ex,ey]at h;obtain⟨e1,f1⟩:=XG h1 ex;obtain⟨e2,_⟩:=XG h2 ey;cases h;rw[<- e1]at f1 ⊢;rw[<- e2];cases v<;>first|rfl|(cases f1;done)|(simp[eqV];done)
 intro n
 induction n with
 |zero=>intro x y b v N M N' M' h;exact fl (by cases x<;>cases y<;>exact h)
 |succ n ih=>
  have its:∀{xs ys:Ov}{vs:Oi}{b:Bool}{M M':Of},xE (dy n) xs ys=some b->yQ W M H xs vs->yQ W M' H ys vs->b=true:=by
   intro xs
   induction xs with
   |nil=>intro ys vs b M M' h h1 h2;cases(show _=_ from h1);cases ys with
    |nil=>cases h;rfl
    |cons y ys=>obtain⟨_,_,e,_⟩:=h2;cases e
   |cons x xs ihx=>
    intro ys vs b M M' h h1 h2;obtain⟨v,r,rfl,hx,hr⟩:=h1;cases ys with
    |nil=>cases(show _=_ from h2)
    |cons y ys=>obtain⟨v',r',e,hy,hr'⟩:=h2;cases e;obtain⟨p,q,hp,hq,rfl⟩:=Va h;rw[ih hp (qL.iff.mpr hx) (qL.iff.mpr hy),ihx hq hr hr'];rfl
  intro x y b v N M N' M' h h1 h2;cases x with
  |l xs=>
   cases y with
   |l ys=>obtain⟨p,vs,rfl,_,e,r⟩:=h1;obtain⟨p',vs',e2,_,e',r'⟩:=h2;cases e2;rw[e]at e';cases e';exact its h r r'
   |_=>exact fl h h1 h2
  |t xs=>
   cases y with
   |t ys=>obtain⟨p,vs,rfl,e,r⟩:=h1;obtain⟨p',vs',e2,e',r'⟩:=h2;cases e2;rw[hK]at e e';cases I.dB e e';exact its h r r'
   |_=>exact fl h h1 h2
  |_=>exact fl (by cases y<;>exact h) h1 h2
def Bt(ry:RelV y u)(rx:RelV x v)(fy:WO y=true)(fx:WO x=true):SeqAt.RcAt A s u v (eqV y x)/\SeqAt.RcNeAt A s u v (!eqV y x):=by
 cases y with
 |non=>
  cases ry;cases x with
  |non=>cases rx;exact⟨SeqAt.RcAt.none_none,SeqAt.RcNeAt.none_none⟩
  |bl b=>cases rx;exact⟨SeqAt.RcAt.none_bool b,SeqAt.RcNeAt.none_bool b⟩
  |int b=>obtain⟨t,rfl⟩:=rx;exact⟨SeqAt.RcAt.none_int b t,SeqAt.RcNeAt.none_int b t⟩
  |str b=>obtain⟨t,rfl⟩:=rx;exact⟨SeqAt.RcAt.none_str b t,SeqAt.RcNeAt.none_str b t⟩
  |_=>exact absurd (show false=true from fx) P5
 |bl a=>
  cases ry;cases x with
  |non=>cases rx;exact⟨SeqAt.RcAt.bool_none a,SeqAt.RcNeAt.bool_none a⟩
  |bl b=>cases rx;exact⟨SeqAt.RcAt.bool_bool a b,SeqAt.RcNeAt.bool_bool a b⟩
  |int b=>obtain⟨t,rfl⟩:=rx;exact⟨SeqAt.RcAt.bool_int a b t,SeqAt.RcNeAt.bool_int a b t⟩
  |str b=>obtain⟨t,rfl⟩:=rx;exact⟨SeqAt.RcAt.bool_str a b t,SeqAt.RcNeAt.bool_str a b t⟩
  |_=>exact absurd (show false=true from fx) P5
 |int a=>
  obtain⟨t',rfl⟩:=ry;cases x with
  |non=>cases rx;exact⟨SeqAt.RcAt.int_none a t',SeqAt.RcNeAt.int_none a t'⟩
  |bl b=>cases rx;exact⟨SeqAt.RcAt.int_bool a t' b,SeqAt.RcNeAt.int_bool a t' b⟩
  |int b=>obtain⟨t,rfl⟩:=rx;exact⟨SeqAt.RcAt.int_int a t' b t,SeqAt.RcNeAt.int_int a t' b t⟩
  |str b=>obtain⟨t,rfl⟩:=rx;exact⟨SeqAt.RcAt.int_str a t' b t,SeqAt.RcNeAt.int_str a t' b t⟩
  |_=>exact absurd (show false=true from fx) P5
 |str a=>
  obtain⟨t',rfl⟩:=ry;cases x with
  |non=>cases rx;exact⟨SeqAt.RcAt.str_none a t',SeqAt.RcNeAt.str_none a t'⟩
  |bl b=>cases rx;exact⟨SeqAt.RcAt.str_bool a t' b,SeqAt.RcNeAt.str_bool a t' b⟩
  |int b=>obtain⟨t,rfl⟩:=rx;exact⟨SeqAt.RcAt.str_int a t' b t,SeqAt.RcNeAt.str_int a t' b t⟩
  |str b=>obtain⟨t,rfl⟩:=rx;exact⟨SeqAt.RcAt.str_str a t' b t,SeqAt.RcNeAt.str_str a t' b t⟩
  |_=>exact absurd (show false=true from fx) P5
 |_=>exact absurd (show false=true from fy) P5
def cj(h:Ge x y=some b)(h1:qL W N M H x xv)(h2:qL W N' M' H y yv)(ru:RelV xv u)(rv:RelV yv v):
  SeqAt.EqAt A s u v b/\SeqAt.RcAt A s u v b/\SeqAt.RcNeAt A s u v (!b):=by
 unfold Ge at h;cases ex:toV x with
 |none=>rw[ex]at h;cases h
 |some a=>
  cases ey:toV y with
  |none=>rw[ex,ey]at h;cases h
  |some c=>rw[ex,ey]at h;cases h;obtain⟨rfl,f1⟩:=XG h1 ex;obtain⟨rfl,f2⟩:=XG h2 ey;exact⟨Bj ru rv f1 f2,(Bt ru rv f1 f2).1,(Bt ru rv f1 f2).2⟩
def C5(I:Inv X pins σ H s)(hK:W.K=X.K):∀(n:Nat){A:Oy}{x y:PV}{b:Bool}{xv yv:V}{u v:Value}{N M N' M':Of},dy n x y=some b->qL W N M H x xv->qL W N' M' H y yv->RelV xv u->RelV yv v->A.units+n<cLine->
  SeqAt.EqAt A s u v b/\SeqAt.RcAt A s u v b/\SeqAt.RcNeAt A s u v (!b):=by
 intro n
 induction n with
 |zero=>intro A x y b xv yv u v N M N' M' h h1 h2 ru rv _;exact cj (by cases x<;>cases y<;>exact h) h1 h2 ru rv
 |succ n ih=>
  intro A x y b xv yv u v N M N' M' h h1 h2 ru rv hu;have top:∀{p q:Addr},u=.ref p->v=.ref q->xv=.ref p->yv=.ref q->SeqAt.RcAt A s u v b/\SeqAt.RcNeAt A s u v (!b)->SeqAt.EqAt A s u v b/\SeqAt.RcAt A s u v b/\SeqAt.RcNeAt A s u v (!b):=λ{p q} e1 e2 e3 e4 hr=>by
   refine⟨?_,hr⟩;by_cases c:p=q
   .subst c;rw[e1,e2];rw[C4 I hK h (e3▸h1) (e4▸h2)];exact SeqAt.EqAt.same _
   .rw[e1,e2]at hr ⊢;exact SeqAt.EqAt.of_refs c hr.1
  cases x with
  |l xs=>
   cases y with
   |l ys=>
    obtain⟨p,vs,rfl,_,e,r⟩:=h1;obtain⟨p',vs',rfl,_,e',r'⟩:=h2;cases ru;cases rv;refine top rfl rfl rfl rfl ?_;obtain⟨us,r1,p1,_⟩:=I.list (SqL.of e);obtain⟨ws,r2,p2,_⟩:=I.list (SqL.of e');have l1:us.toArray.size=xs.length:=by rw[P9,<- r1.length,r.len]
    have l2:ws.toArray.size=ys.length:=by rw[P9,<- r2.length,r'.len]
    by_cases hl:xs.length=ys.length
    .obtain⟨f,hf,rfl⟩:=gS h;rw[hl,a05,Bool.and_true,Nat.min_self,<- hl,<- l1];have it:=lb (A:=A.in1) (e:=f) (s:=s) r1 r2 λj x y u v hx hy ru rv=>by obtain⟨x',hx',rx'⟩:=r.ES hx;obtain⟨y',hy',ry'⟩:=r'.ES hy;exact(ih (A:=A.in1) (hf j x' y' hx' hy') (qL.iff.mpr rx') (qL.iff.mpr ry') ru rv (by show A.units+1+n<cLine;omega)).1
     exact⟨SeqAt.RcAt.lists p1.isList p2.isList (by rw[l1,l2,hl]) (by omega) it,SeqAt.RcNeAt.lists p1.isList p2.isList (by rw[l1,l2,hl]) (by omega) it⟩
    .rw[lg h hl];exact⟨SeqAt.RcAt.lists_lengths p1.isList p2.isList (by rw[l1,l2];simpa using hl) (by omega),SeqAt.RcNeAt.lists_lengths p1.isList p2.isList (by rw[l1,l2];simpa using hl) (by omega)⟩
   |_=>exact cj h h1 h2 ru rv
  |t xs=>
   cases y with
   |t ys=>
    obtain⟨p,vs,rfl,e,r⟩:=h1;obtain⟨p',vs',rfl,e',r'⟩:=h2;cases ru;cases rv;refine top rfl rfl rfl rfl ?_;rw[hK]at e e';obtain⟨us,r1,p1,_⟩:=I.tuple e;obtain⟨ws,r2,p2,_⟩:=I.tuple e';have l1:us.toArray.size=xs.length:=by rw[P9,<- r1.length,r.len]
    have l2:ws.toArray.size=ys.length:=by rw[P9,<- r2.length,r'.len]
    obtain⟨f,hf,rfl⟩:=gS h;have it:=lb (A:=A.in1) (e:=f) (s:=s) r1 r2 λj x y u v hx hy ru rv=>by obtain⟨x',hx',rx'⟩:=r.ES hx;obtain⟨y',hy',ry'⟩:=r'.ES hy;exact(ih (A:=A.in1) (hf j x' y' hx' hy') (qL.iff.mpr rx') (qL.iff.mpr ry') ru rv (by show A.units+1+n<cLine;omega)).1
    rw[<- l1,<- l2];exact⟨SeqAt.RcAt.tuples p1 p2 (by omega) it,SeqAt.RcNeAt.tuples p1 p2 (by omega) it⟩
   |_=>exact cj h h1 h2 ru rv
  |_=>exact cj (by cases y<;>exact h) h1 h2 ru rv
def Gf{es:Oo}{vs:OT}(r:KV es vs){k:Key}{v:V}(h:UZ es k=some v):∃u,valueAt vs k=some u/\RelV v u:=WN.some_of (v:=v) (o:=valueAt vs k) (by rw[<- h];exact KV.val r k)
def C6{es:Oo}{vs:OT}(r:KV es vs){k:Key}(h:UZ es k=none):valueAt vs k=none:=by
 have:=KV.val r k;rw[h]at this;cases e:valueAt vs k with
 |none=>rfl
 |some u=>rw[e]at this;exact this.elim
def gU(I:Inv X pins σ H s)(hK:W.K=X.K){n:Nat}{A:Oy}(hu:A.units+n<cLine){b:Oz}{eb:Oo}{vb:OT}{M M':Of}(rb:j8 W M' H b eb)(kb:KV eb vb):
  ∀{a:Oz}{ea:Oo}{va:OT}{r:Bool},j8 W M H a ea->KV ea va->ET (dy n) b a=some r->KeqHits A s vb va r
 |[],_,_,_,h,k,e=>by cases(show _=_ from h);cases k;cases e;exact .nil
 |kx::a,_,_,r,h,k,e=>by
  obtain⟨v,q,rfl,h1,h2⟩:=h;cases k with
  |@cons _ u _ us rr kk=>
   obtain⟨k',u⟩:=u;obtain⟨e1,ru⟩:=rr;cases e1;unfold ET at e;cases hy:yq b kx.1 with
   |none=>rw[hy]at e;cases e;exact .miss (C6 kb (rb.IC hy))
   |some y=>rw[hy]at e;obtain⟨p,q,hp,hq,rfl⟩:=Va e;obtain⟨yv,hyv,ry⟩:=rb.get hy;obtain⟨yu,hyu,ryu⟩:=Gf kb hyv;exact .hit hyu (C5 I hK n hp (qL.iff.mpr h1) (qL.iff.mpr ry) ru ryu hu).1 (gU I hK hu rb kb h2 kk hq)
end
def LM(W:RC)(neg:Bool):R2:=λxv yv H Q=>∃M x y b,qL W (λ_=>True) M H x xv/\qL W (λ_=>True) M H y yv/\EU 8 x y=some b/\Q (.bl (xor neg b)) H
def pW:(∃a b,x=.d a/\y=.d b)\/EU n x y=dy n x y:=by
 cases x with
 |d a=>cases y with
  |d b=>exact .inl ⟨a,b,rfl,rfl⟩
  |_=>exact .inr rfl
 |_=>exact .inr rfl
def Bu(hK:W.K=X.K)(hu:X.A.units+64<cLine):OpR X (compareOp .Eq) (LM W false):=by
 intro pins s σ H xv yv u v Q I ru rv h;obtain⟨M,x,y,b,h1,h2,e,q⟩:=h;rw[a0H]at q;rcases pW (n:=8) (x:=x) (y:=y)with⟨a,c,rfl,rfl⟩|z
 .obtain⟨p,es,rfl,_,ha,ra⟩:=h1;obtain⟨p',es',rfl,_,hb,rb⟩:=h2;cases ru;cases rv;obtain⟨_,na,va,ka,da⟩:=JM I.hok ha;obtain⟨_,nb,vb,kb,db⟩:=JM I.hok hb;have l1:va.length=a.length:=by rw[<- a09 ka];have:=a0e List.length (j8.iff.mp ra).1;simpa using this
  have l2:vb.length=c.length:=by rw[<- a09 kb];have:=a0e List.length (j8.iff.mp rb).1;simpa using this
  have e:(if a.length=c.length then ET (dy 8) c a else some false)=some b:=e;by_cases hl:a.length=c.length
  .rw[if_pos hl]at e;refine keq_eq na nb da db (by omega) (λ_=>gU I hK (A:=X.A.in1) (by show X.A.units+1+8<cLine;omega) rb kb ra ka e) ?_;rw[l1,l2,hl,a05,Bool.true_and];exact⟨.bl b,H,I,rfl,q⟩
  .rw[if_neg hl]at e;cases e;refine keq_eq (r:=false) na nb da db (by omega) (λz=>absurd (by rw[<- l1,<- l2,z]) hl) ?_;rw[a2W];exact⟨.bl false,H,I,rfl,q⟩
 .rw[z]at e;exact(C5 I hK 8 e h1 h2 ru rv (by omega)).2.1 _ _ _ _ ⟨.bl b,H,I,rfl,q⟩
def Bv(hK:W.K=X.K)(hu:X.A.units+64<cLine):OpR X (compareOp .NotEq) (LM W true):=by
 intro pins s σ H xv yv u v Q I ru rv h;obtain⟨M,x,y,b,h1,h2,e,q⟩:=h;rw[a1a]at q;rcases pW (n:=8) (x:=x) (y:=y)with⟨a,c,rfl,rfl⟩|z
 .obtain⟨p,es,rfl,_,ha,ra⟩:=h1;obtain⟨p',es',rfl,_,hb,rb⟩:=h2;cases ru;cases rv;obtain⟨_,na,va,ka,da⟩:=JM I.hok ha;obtain⟨_,nb,vb,kb,db⟩:=JM I.hok hb;have l1:va.length=a.length:=by rw[<- a09 ka];have:=a0e List.length (j8.iff.mp ra).1;simpa using this
  have l2:vb.length=c.length:=by rw[<- a09 kb];have:=a0e List.length (j8.iff.mp rb).1;simpa using this
  have e:(if a.length=c.length then ET (dy 8) c a else some false)=some b:=e;by_cases hl:a.length=c.length
  .rw[if_pos hl]at e;refine keq_ne na nb da db (by omega) (λ_=>gU I hK (A:=X.A.in1) (by show X.A.units+1+8<cLine;omega) rb kb ra ka e) ?_;rw[l1,l2,hl,a05,Bool.true_and];exact⟨.bl (!b),H,I,rfl,q⟩
  .rw[if_neg hl]at e;cases e;refine keq_ne (r:=false) na nb da db (by omega) (λz=>absurd (by rw[<- l1,<- l2,z]) hl) ?_;rw[a2W];exact⟨.bl (!false),H,I,rfl,q⟩
 .rw[z]at e;exact(C5 I hK 8 e h1 h2 ru rv (by omega)).2.2 _ _ _ _ ⟨.bl (!b),H,I,rfl,q⟩
def jq(neg:Bool)(x y:PV):Out PV:=match EU 8 x y with|some b=>.ok (.b (xor neg b))|none=>.wall
def lh:Lf2 W (LM W neg) (jq neg):=λM C B H x y v u Q n hx hy q=>by
 unfold jq at q;cases e:EU 8 x y with
 |none=>rw[e]at q;exact q.elim
 |some b=>rw[e]at q;exact⟨M,x,y,b,hx,hy,e,q _ H (zI.refl _) rfl⟩
def ZP(hu:X.A.units+64<cLine)(h1:EM X C S w1 a m1)(h2:EM X C S w2 b m2):TM X C S (.Compare a [.Eq] [b] pos) (yi (mOp (jq false) m1 m2)):=λhK=>qM (Bu hK.symm hu) lh h1 h2 (Xb _ (by decide) (by decide)) hK
def ej(hu:X.A.units+64<cLine)(h1:EM X C S w1 a m1)(h2:EM X C S w2 b m2):TM X C S (.Compare a [.NotEq] [b] pos) (yi (mOp (jq true) m1 m2)):=λhK=>qM (Bv hK.symm hu) lh h1 h2 (Xb _ (by decide) (by decide)) hK
def inP(v:V):List PV->Option Bool
 |[]=>some false
 |y::r=>match toV y,inP v r with
  |some u,some b=>some (eqV u v||b)
  |_,_=>none
def pX{W:RC}{M:Of}{H:Hp}{v:V}:∀{ys:Ov}{vs:Oi}{b:Bool},yQ W M H ys vs->inP v ys=some b->vs.all WO=true/\inV v vs=b
 |[],_,_,h,e=>by cases(show _=_ from h);cases e;exact⟨rfl,rfl⟩
 |y::ys,_,b,h,e=>by
  obtain⟨u,r,rfl,h1,h2⟩:=h;unfold inP at e;cases hy:toV y with
  |none=>rw[hy]at e;cases e
  |some u'=>
   cases hr:inP v ys with
   |none=>rw[hy,hr]at e;cases e
   |some b'=>rw[hy,hr]at e;cases e;obtain⟨rfl,f⟩:=XG (qL.iff.mpr h1) hy;obtain⟨f2,e2⟩:=pX h2 hr;exact⟨by rw[a1N,f,f2];rfl,by unfold inV at e2 ⊢;rw[a0p,e2]⟩
def IE(K:OF)(neg:Bool):R2:=λx y H Q=>(rIn K neg x y H Q\/∃i j,x=.str i/\y=.str j/\Q (.bl (xor neg (!(Builtin.Str.occurrences j i 0 j.length 1).isEmpty))) H)\/∃a o,y=.ref a/\i4 H a x o/\Q (.bl (xor neg o.isSome)) H
def pY(hu:X.A.units+1<cLine):OpR X (compareOp .In) (IE X.K false):=by
 intro pins s σ H x y v u Q I rx ry h;rcases h with(h|⟨i,j,e1,e2,q⟩)|⟨a,o,rfl,g,q⟩
 .exact ph pins s σ H x y v u Q I rx ry h
 .exact oZ pins s σ H x y v u Q I rx ry ⟨i,j,e1,e2,by rw[a0H]at q;exact q⟩
 .obtain rfl:u=Value.ref a:=ry;exact NH hu I g rx λs3 I3=>⟨.bl o.isSome,H,I3,rfl,by rw[a0H]at q;exact q⟩
def eA(hu:X.A.units+1<cLine):OpR X (compareOp .NotIn) (IE X.K true):=by
 intro pins s σ H x y v u Q I rx ry h;rcases h with(h|⟨i,j,e1,e2,q⟩)|⟨a,o,rfl,g,q⟩
 .exact dO pins s σ H x y v u Q I rx ry h
 .exact dP pins s σ H x y v u Q I rx ry ⟨i,j,e1,e2,by rw[a1a]at q;exact q⟩
 .obtain rfl:u=Value.ref a:=ry;exact CL hu I g rx λs3 I3=>⟨.bl (!o.isSome),H,I3,rfl,by rw[a1a]at q;exact q⟩
def pIn(neg:Bool):PV->PV->Out PV
 |x,.l ys=>Yt (((toV x).bind λv=>inP v ys).map λb=>.b (xor neg b))
 |x,.t ys=>Yt (((toV x).bind λv=>inP v ys).map λb=>.b (xor neg b))
 |.s i,.s j=>.ok (.b (xor neg (!(Builtin.Str.occurrences j i 0 j.length 1).isEmpty)))
 |x,.d kvs=>Yt ((pk x).map λk=>.b (xor neg (yq kvs k).isSome))
 |_,_=>.wall
def pZ:(if neg=true then !b else b)=xor neg b:=by cases neg<;>simp
def C7:Lf2 W (IE W.K neg) (pIn neg):=λM C B H x y v u Q n hx hy q=>by
 unfold pIn at q;split at q
 .obtain⟨z,e,q⟩:=y_ q;obtain⟨b,hb,rfl⟩:=N8.mp e;obtain⟨xv,hxv,hb⟩:=R9.mp hb;obtain⟨p,vs,rfl,_,hl,r⟩:=hy;obtain⟨rfl,f⟩:=XG hx hxv;obtain⟨f2,e2⟩:=pX r hb;exact .inl (.inl ⟨p,vs,rfl,.inl (SqL.of hl),f,f2,by rw[e2,pZ];exact q _ H (zI.refl _) rfl⟩)
 .obtain⟨z,e,q⟩:=y_ q;obtain⟨b,hb,rfl⟩:=N8.mp e;obtain⟨xv,hxv,hb⟩:=R9.mp hb;obtain⟨p,vs,rfl,hl,r⟩:=hy;obtain⟨rfl,f⟩:=XG hx hxv;obtain⟨f2,e2⟩:=pX r hb;exact .inl (.inl ⟨p,vs,rfl,.inr hl,f,f2,by rw[e2,pZ];exact q _ H (zI.refl _) rfl⟩)
 .exact .inl (.inr ⟨_,_,hx,hy,q _ H (zI.refl _) rfl⟩)
 .obtain⟨z,e,q⟩:=y_ q;obtain⟨k,hk,rfl⟩:=N8.mp e;obtain⟨p,es,rfl,_,hl,r⟩:=hy;exact .inr ⟨p,_,rfl,by rw[cg hx hk];exact i4.rk hl,by rw[r.NQ];exact q _ H (zI.refl _) rfl⟩
 .exact q.elim
section
variable {X:Cx}{C:LC}{S:Od}{e a b:Oq}{es:Om}{w w1 w2:Bool}{ws:Oh}{m m1 m2:ME}{ms:MA}{pos p:Pos}{x:Str}
def LN(hu:X.A.units+1<cLine)(h1:EM X C S w1 a m1)(h2:EM X C S w2 b m2)(hm:behindInMarks .In b=false:=by with_unfolding_all rfl):EM X C S false (.Compare a [.In] [b] pos) (mOp (pIn false) m1 m2):=λhK=>F3 (pY hu) (by rw[hK];exact C7) h1 h2 hm hK
def C8(hu:X.A.units+1<cLine)(h1:EM X C S w1 a m1)(h2:EM X C S w2 b m2)(hm:behindInMarks .In b=false:=by with_unfolding_all rfl):TM X C S (.Compare a [.In] [b] pos) (yi (mOp (pIn false) m1 m2)):=λhK=>qM (pY hu) (by rw[hK];exact C7) h1 h2 hm hK
def Vb(hu:X.A.units+1<cLine)(h1:EM X C S w1 a m1)(h2:EM X C S w2 b m2)(hm:behindInMarks .NotIn b=false:=by with_unfolding_all rfl):TM X C S (.Compare a [.NotIn] [b] pos) (yi (mOp (pIn true) m1 m2)):=λhK=>qM (eA hu) (by rw[hK];exact C7) h1 h2 hm hK
def xF(W:RC)(M:Of)(H:Hp):List PV->List V->Prop
 |[],vs=>vs=[]
 |x::xs,vs=>∃v r,vs=v::r/\qL W (λ_=>True) M H x v/\xF W M H xs r
def RVs.weak{B:Bs}{P:Ol}{H:Hp}:∀{ws:Oh}{xs:Ov}{vs:Oi},RVs C B S P H ws xs vs->xF C.W (Mof B S P) H xs vs
 |[],_,_,⟨e1,e2⟩=>by subst e1;subst e2;rfl
 |w::ws,_,_,⟨x,v,xr,vr,e1,e2,h1,h2⟩=>by subst e1;subst e2;exact⟨v,vr,rfl,h1.weak,RVs.weak h2⟩
def LfC(W:RC)(r:List V->Hp->VK->Prop)(p:Ou):Prop:=∀(M:Of)(C:LC)(B:Bs) H xs vs Q,New M H->xF W M H xs vs->yp C B H (Rep W M) Q (p xs)->r vs H Q
def LfF(W:RC)(r:List V->Hp->VK->Prop)(p:Ou):Prop:=∀(M:Of)(C:LC)(B:Bs) H xs vs Q,New M H->xF W M H xs vs->yp C B H (RFr W M H) Q (p xs)->r vs H Q
def zj(g:Ou)(ms:MA):ME:=λρ=>(ms ρ).bind g
def Gg(L:LfC C.W r g)(h:LA C S ws ta ms):LE C S false (tCB r ta) (zj g ms):=λB P H σ ρ R Q q=>
 h B P H σ ρ R _ (qP q λxs vs H1 s1 r1 q1=>L _ C B H1 xs vs Q (R.keep s1).new r1.weak (RV.eq▸q1))
def vW(h:yp C B H (RFr W M H) Q o)(s:zI H H2):yp C B H2 (RFr W M H2) Q o:=by
 cases o with
 |ok x=>exact λv H3 s3 hx=>h v H3 (s.trans s3) (let⟨p,e,hp,hr⟩:=hx;⟨p,e,zI.none s hp,hr⟩)
 |exc c fs=>exact h
 |wall=>exact h
def YH(h:yp C B H (RFr W M H) Q (o.bind f))(k:∀r v H2,zI H H2->R' H2 r v->yp C B H2 (RFr W M H2) Q (f r)->Q' v H2):nu C B H R' Q' o:=by
 cases o with
 |ok r=>exact λv H2 s hr=>k r v H2 s hr (vW (o:=f r) h s)
 |exc c fs=>exact h
 |wall=>exact h
def KD(h:yp C B H (RFr W M H) Q (o.bind f))(k:∀r v H2,zI H H2->R' H2 r v->yp C B H2 (RFr W M H2) Q (f r)->Q' v H2):yp C B H R' Q' o:=by
 cases o with
 |ok r=>exact λv H2 s hr=>k r v H2 s hr (vW (o:=f r) h s)
 |exc c fs=>exact h
 |wall=>exact h
def Gh(L:LfF C.W r g)(h:LA C S ws ta ms):LFr C S (tCB r ta) (zj g ms):=λB P H σ ρ R Q q=>
 h B P H σ ρ R _ (YH q λxs vs H1 s1 r1 q1=>L _ C B H1 xs vs Q (R.keep s1).new r1.weak q1)
def Xe{id:String}{r:List V->Hp->VK->Prop}{g:Ou}(hc:X.K=C.W.K->vU X (.builtin id) r)(L:LfC C.W r g)(hg:Gl X x)(hm:X.mg x=none)(hv:bootBuiltins x=some (.builtin id))(ha:AM X C S ws (e::es) ms)(hn:x≠"__name__":=by decide)(hdb:(x==("__debug__":Str))=false:=by decide)
  (he:starEach (e::es) X.env=(false,eval e X.env)::starEach es X.env:=by rfl) (hpl:(backTo pos (starEach es X.env)).any (·.1)=false:=by rfl):EM X C S false (.Call (.Name x p) (e::es) [] pos) (zj g ms):=λhK=>by
 obtain⟨ta,a1,a2⟩:=ha hK;exact⟨_,Xc (hc hK) hg hm hv a1 hn hdb he hpl,Gg L a2⟩
def xG{id:String}{r:List V->Hp->VK->Prop}{g:Ou}(hc:X.K=C.W.K->vU X (.type id) r)(L:LfC C.W r g)(hg:Gl X x)(hm:X.mg x=none)(hv:bootBuiltins x=some (.type id))(ha:AM X C S ws (e::es) ms)(hn:x≠"__name__":=by decide)(hdb:(x==("__debug__":Str))=false:=by decide)
  (he:starEach (e::es) X.env=(false,eval e X.env)::starEach es X.env:=by rfl) (hpl:(backTo pos (starEach es X.env)).any (·.1)=false:=by rfl):EM X C S false (.Call (.Name x p) (e::es) [] pos) (zj g ms):=λhK=>by
 obtain⟨ta,a1,a2⟩:=ha hK;exact⟨_,dM (hc hK) hg hm hv a1 hn hdb he hpl,Gg L a2⟩
def lj{id:String}{r:List V->Hp->VK->Prop}{g:Ou}(hc:X.K=C.W.K->vU X (.type id) r)(L:LfF C.W r g)(hg:Gl X x)(hm:X.mg x=none)(hv:bootBuiltins x=some (.type id))(ha:AM X C S ws (e::es) ms)(hn:x≠"__name__":=by decide)(hdb:(x==("__debug__":Str))=false:=by decide)
  (he:starEach (e::es) X.env=(false,eval e X.env)::starEach es X.env:=by rfl) (hpl:(backTo pos (starEach es X.env)).any (·.1)=false:=by rfl):FM X C S (.Call (.Name x p) (e::es) [] pos) (zj g ms):=λhK=>by
 obtain⟨ta,a1,a2⟩:=ha hK;exact⟨_,dM (hc hK) hg hm hv a1 hn hdb he hpl,Gh L a2⟩
end
def QF:List PV->Out PV
 |[.l xs]=>.ok (.i xs.length)
 |[.t xs]=>.ok (.i xs.length)
 |[.sc xs]=>.ok (.i xs.length)
 |[.d xs]=>.ok (.i xs.length)
 |[.s z]=>if z.length<=sizeLine then .ok (.i z.length)else .wall
 |_=>.wall
def j8.len(h:j8 W M H a es):es.length=a.length:=by have:=a0e List.length (j8.iff.mp h).1;simpa using this
def Gi(K:OF):List V->Hp->VK->Prop:=λxs H Q=>(∃x n,xs=[x]/\MJ K x H n/\Q (.int n) H)\/∃a kvs,xs=[V.ref a]/\Rd H a (.dK kvs)/\Q (.int kvs.length) H
def p0:vU X (.builtin "len") (λxs H Q=>∃a kvs,xs=[V.ref a]/\Rd H a (.dK kvs)/\Q (.int kvs.length) H):=by intro pins s σ H xs us Q I r h;obtain⟨a,kvs,rfl,e,q⟩:=h;obtain⟨u,rfl,ru⟩:=vals1 r;cases ru;exact Lp I e λt s' I'=>⟨.int _,H,I',⟨t,rfl⟩,q⟩
def Gj:LfC W (Gi W.K) QF:=λM C B H xs vs Q n h q=>by
 unfold QF at q;split at q
 .obtain⟨v,r,rfl,⟨p,vs,rfl,_,hl,rr⟩,hr⟩:=h;cases(show _=_ from hr);exact .inl ⟨_,vs.length,rfl,.inl ⟨vs,SqL.of hl,rfl⟩,q _ H (zI.refl _) (by rw[rr.len];rfl)⟩
 .obtain⟨v,r,rfl,⟨p,vs,rfl,hl,rr⟩,hr⟩:=h;cases(show _=_ from hr);exact .inl ⟨_,vs.length,rfl,.inr ⟨vs,hl,rfl⟩,q _ H (zI.refl _) (by rw[rr.len];rfl)⟩
 .obtain⟨v,r,rfl,⟨p,rfl,hl⟩,hr⟩:=h;cases(show _=_ from hr);exact .inl ⟨_,_,rfl,.inl ⟨_,hl.sq,rfl⟩,q _ H (zI.refl _) (by rw[u8];rfl)⟩
 .obtain⟨v,r,rfl,⟨p,es,rfl,_,hl,rr⟩,hr⟩:=h;cases(show _=_ from hr);exact .inr ⟨_,es,rfl,hl,q _ H (zI.refl _) (by rw[rr.len];rfl)⟩
 .split at q
  .rename_i hz;obtain⟨v,r,rfl,hx,hr⟩:=h;cases(show _=_ from hr);cases(show _=_ from hx);exact .inl ⟨_,_,rfl,⟨hz,rfl⟩,q _ H (zI.refl _) rfl⟩
  .exact q.elim
 .exact q.elim
def j9(hg:Gl X "len")(hm:X.mg "len"=none)(ha:AM X C S ws [e] ms)(he:starEach [e] X.env=[(false,eval e X.env)]:=by rfl):EM X C S false (.Call (.Name "len" p) [e] [] pos) (zj QF ms):=
 Xe (r:=Gi C.W.K) (λhK=>hK▸uT.or p0) Gj hg hm PySem.boot_len ha (he:=he)
def C9:List PV->Out PV
 |[.l xs]=>.ok (.l xs)
 |[.t xs]=>.ok (.l xs)
 |[.sc xs]=>.ok (.l (xs.map PV.i))
 |_=>.wall
def QN(r:yQ W M H xs vs)(hl:H l=none):RFr W M H (upd H l (.lst vs)) (.l xs) (.ref l):=
 ⟨l,rfl,hl,vs,zi,(r.sub λa m n=>⟨m,λz=>n (z▸hl)⟩).same (zI.upd hl)⟩
def C_(r:j8 W M H xs vs)(hl:H l=none):RFr W M H (upd H l (.dK vs)) (.d xs) (.ref l):=
 ⟨l,rfl,hl,vs,zi,(r.sub λa m n=>⟨m,λz=>n (z▸hl)⟩).same (zI.upd hl)⟩
def Dc:LfF W (λxs H Q=>∃p ys,xs=[.ref p]/\(SqL W.K H p ys\/SqT W.K H p ys)/\∀l,H l=none->Q (.ref l) (upd H l (.lst ys))) C9:=λM C B H xs vs Q n h q=>by
 unfold C9 at q;split at q
 .obtain⟨v,r,rfl,⟨p,vs,rfl,_,hl,rr⟩,hr⟩:=h;cases(show _=_ from hr);exact⟨p,vs,rfl,.inl (SqL.of hl),λl hl=>q _ _ (zI.upd hl) (QN rr hl)⟩
 .obtain⟨v,r,rfl,⟨p,vs,rfl,hl,rr⟩,hr⟩:=h;cases(show _=_ from hr);exact⟨p,vs,rfl,.inr hl,λl hl=>q _ _ (zI.upd hl) (QN rr hl)⟩
 .obtain⟨v,r,rfl,⟨p,rfl,hl⟩,hr⟩:=h;cases(show _=_ from hr);exact⟨p,_,rfl,.inl hl.sq,λl hl=>q _ _ (zI.upd hl) (QN yQ.ints hl)⟩
 .exact q.elim
def toI:PV->Option Int
 |.i a=>some a
 |_=>none
def Gk:List PV->Option (List Int)
 |[]=>some []
 |x::r=>match toI x,Gk r with|some a,some b=>some (a::b)|_,_=>none
def p5{W:RC}{M:Of}{H:Hp}:∀{xs:Ov}{vs:Oi}{ns:OB},yQ W M H xs vs->Gk xs=some ns->vs=ns.map V.int
 |[],_,_,h,e=>by cases(show _=_ from h);cases e;rfl
 |x::xs,_,ns,h,e=>by
  obtain⟨v,r,rfl,h1,h2⟩:=h;unfold Gk at e;cases x with
  |i a=>
   cases hr:Gk xs with
   |none=>rw[hr]at e;cases e
   |some b=>rw[hr]at e;cases e;rw[O8,<- p5 h2 hr,(show v=_ from h1)]
  |_=>cases e
def xH:List Int->Int
 |[]=>0
 |[a]=>a
 |a::r=>max a (xH r)
def ll:∀{ns:OB},ns≠[]->xH ns∈ns
 |[],h=>absurd rfl h
 |[a],_=>by simp[xH]
 |a::b::r,_=>by
  have ih:=ll (ns:=b::r) (by simp);show max a (xH (b::r))∈_;rcases Int.le_total a (xH (b::r))with h|h
  .rw[Int.max_eq_right h];exact O3 _ ih
  .rw[Int.max_eq_left h];exact O1
def p6:∀{ns:OB}{a:Int},a∈ns->a<=xH ns
 |[],_,h=>by cases h
 |[b],a,h=>by simp at h;subst h;exact a0N _
 |b::c::r,a,h=>by
  show a<=max b (xH (c::r));rcases P8.mp h with rfl|h
  .exact Int.le_max_left ..
  .exact Int.le_trans (p6 h) (Int.le_max_right ..)
def IF:List PV->Out PV
 |[.i a,.i b]=>.ok (.i (max a b))
 |[.l xs]=>Yt ((Gk xs).bind λns=>if ns=[]then none else some (.i (xH ns)))
 |_=>.wall
def gX:List PV->Out PV
 |[.i a,.i b]=>.ok (.i (min a b))
 |_=>.wall
def Gm:LfC W (λxs H Q=>∃i j,xs=[.int i,.int j]/\Q (.int (if j<i then j else i)) H) gX:=λM C B H xs vs Q n h q=>by
 unfold gX at q;split at q
 .obtain⟨v,r,rfl,hx,v2,r2,rfl,hx2,hr⟩:=h;cases(show _=_ from hr);cases(show _=_ from hx);cases(show _=_ from hx2);exact⟨_,_,rfl,q _ H (zI.refl _) (by show V.int _=V.int _;congr 1;omega)⟩
 .exact q.elim
def Gn:LfC W (λxs H Q=>(∃i j,xs=[.int i,.int j]/\Q (.int (if j>i then j else i)) H)\/FX W.K xs H Q) IF:=λM C B H xs vs Q n h q=>by
 unfold IF at q;split at q
 .obtain⟨v,r,rfl,hx,v2,r2,rfl,hx2,hr⟩:=h;cases(show _=_ from hr);cases(show _=_ from hx);cases(show _=_ from hx2);exact .inl ⟨_,_,rfl,q _ H (zI.refl _) (by show V.int _=V.int _;congr 1;omega)⟩
 .obtain⟨z,e,q⟩:=y_ q;obtain⟨ns,hn,e⟩:=R9.mp e;by_cases hz:ns=[]
  .rw[if_pos hz]at e;cases e
  .rw[if_neg hz]at e;cases e;obtain⟨v,r,rfl,⟨p,vs,rfl,_,hl,rr⟩,hr⟩:=h;cases(show _=_ from hr);rw[p5 rr hn]at hl;refine .inr ⟨p,ns,rfl,SqL.of hl,hz,λM hM hM2=>?_⟩;have:M=xH ns:=Int.le_antisymm (p6 hM) (hM2 _ (ll hz));rw[this];exact q _ H (zI.refl _) rfl
 .exact q.elim
def p7:List PV->Option (List Bool)
 |[]=>some []
 |x::r=>match x,p7 r with | .b a,some b=>some (a::b)|_,_=>none
def ck{W:RC}{M:Of}{H:Hp}:∀{xs:Ov}{vs:Oi}{ns:Oh},yQ W M H xs vs->p7 xs=some ns->vs=ns.map V.bl
 |[],_,_,h,e=>by cases(show _=_ from h);cases e;rfl
 |x::xs,_,ns,h,e=>by
  obtain⟨v,r,rfl,h1,h2⟩:=h;unfold p7 at e;cases x with
  |b a=>
   cases hr:p7 xs with
   |none=>rw[hr]at e;cases e
   |some b=>rw[hr]at e;cases e;rw[O8,<- ck h2 hr,(show v=_ from h1)]
  |_=>cases e
def lx:∀{ns:Oh},p7 (ns.map PV.b)=some ns
 |[]=>rfl
 |n::ns=>by unfold p7;rw[O8];simp only[lx]
def Gp:List PV->Out PV
 |[.l xs]=>Yt ((p7 xs).map λns=>.b (ns.all id))
 |_=>.wall
def Gq:LfC W (MR W.K) Gp:=λM C B H xs vs Q n h q=>by
 unfold Gp at q;split at q
 .obtain⟨z,e,q⟩:=y_ q;obtain⟨ns,hn,rfl⟩:=N8.mp e;obtain⟨v,r,rfl,⟨p,vs,rfl,_,hl,rr⟩,hr⟩:=h;cases(show _=_ from hr);rw[ck rr hn]at hl;exact⟨p,ns,rfl,SqL.of hl,q _ H (zI.refl _) rfl⟩
 .exact q.elim
def Gr(hc:X.calm=true)(hg:Gl X "max")(hm:X.mg "max"=none)(ha:AM X C S ws (e::es) ms)(he:starEach (e::es) X.env=(false,eval e X.env)::starEach es X.env:=by rfl)(hpl:(backTo pos (starEach es X.env)).any (·.1)=false:=by rfl):EM X C S false (.Call (.Name "max" p) (e::es) [] pos) (zj IF ms):=
 Xe (λhK=>hK▸(o7 hc).or (pO hc)) Gn hg hm PyProof.Rows.boot_max ha (he:=he) (hpl:=hpl)
def p8(hc:X.calm=true)(hg:Gl X "min")(hm:X.mg "min"=none)(ha:AM X C S ws (e::es) ms)(he:starEach (e::es) X.env=(false,eval e X.env)::starEach es X.env:=by rfl)(hpl:(backTo pos (starEach es X.env)).any (·.1)=false:=by rfl):EM X C S false (.Call (.Name "min" p) (e::es) [] pos) (zj gX ms):=
 Xe (λhK=>o8 hc) Gm hg hm PyProof.Rows.boot_min ha (he:=he) (hpl:=hpl)
def Gs(hc:X.calm=true)(hg:Gl X "all")(hm:X.mg "all"=none)(ha:AM X C S ws [e] ms)(he:starEach [e] X.env=[(false,eval e X.env)]:=by rfl):EM X C S false (.Call (.Name "all" p) [e] [] pos) (zj Gp ms):=
 Xe (λhK=>hK▸xq hc) Gq hg hm PyProof.Rows.boot_all ha (he:=he)
def j_(W:RC)(M:Of)(H:Hp):List Bool->List PV->List V->Prop
 |[],xs,vs=>xs=[]/\vs=[]
 |w::ws,xs,vs=>∃x v xr vr,xs=x::xr/\vs=v::vr/\qL W (if w=true then λ_=>True else M) M H x v/\j_ W M H ws xr vr
def RVs.args{C:LC}{B:Bs}{S:Od}{P:Ol}{H:Hp}:∀{ws:Oh}{xs:Ov}{vs:Oi},RVs C B S P H ws xs vs->j_ C.W (Mof B S P) H ws xs vs
 |[],_,_,h=>h
 |w::ws,_,_,⟨x,v,xr,vr,e1,e2,h1,h2⟩=>⟨x,v,xr,vr,e1,e2,h1,RVs.args h2⟩
def j_.len{W:RC}{M:Of}{H:Hp}:∀{ws:Oh}{xs:Ov}{vs:Oi},j_ W M H ws xs vs->vs.length=ws.length/\xs.length=ws.length
 |[],_,_,⟨e1,e2⟩=>by subst e1;subst e2;exact⟨rfl,rfl⟩
 |w::ws,_,_,⟨x,v,xr,vr,e1,e2,h1,h2⟩=>by subst e1;subst e2;exact⟨by rw[N9,N9,(j_.len h2).1],by rw[N9,N9,(j_.len h2).2]⟩
def j_.same{W:RC}{M:Of}{H H':Hp}(s:zI H H'):∀{ws:Oh}{xs:Ov}{vs:Oi},j_ W M H ws xs vs->j_ W M H' ws xs vs
 |[],_,_,h=>h
 |w::ws,_,_,⟨x,v,xr,vr,e1,e2,h1,h2⟩=>⟨x,v,xr,vr,e1,e2,h1.same s,j_.same s h2⟩
def RtV(W:RC)(fr:Bool)(M:Of)(H H2:Hp)(r:PV)(v:V):Prop:=if fr=true then RFr W (λa=>M a\/H a=none) H H2 r v else Rep W (λa=>M a\/H a=none) H2 r v
def LP(W:RC)(fr:Bool)(M:Of)(H:Hp)(Q:VK)(E:XK):Out PV->Prop
 |.ok r=>∀v H2,zI H H2->RtV W fr M H H2 r v->Q v H2
 |.exc c fs=>∀e dx es H2,zI H H2->H2 e=some (XC e (W.cls c) dx)->H2 dx=some (XD dx es)->vI W (λa=>M a\/H a=none) H2 fs es->E (.ref e) (some dx) H2
 |.wall=>False
def lsp(W:RC)(fr:Bool)(ws:Oh)(g:Ou):Sp:=λvs H Q E=>∃M xs,j_ W M H ws xs vs/\LP W fr M H Q E (g xs)
def p9{W:RC}{fr:Bool}{ws:Oh}{g:Ou}{n:Nat}(h:ws.length=n):∀vs H Q E,lsp W fr ws g vs H Q E->vs.length=n:=λvs H Q E ⟨M,xs,a,_⟩=>a.len.1.trans h
def RFr.sub(h:RFr W M H H2 x v)(s:∀a,M a->M' a):RFr W M' H H2 x v:=by obtain⟨p,e,hp,h⟩:=h;exact⟨p,e,hp,h.gen rfl Fr.refl λa m _=>⟨s a m.1,m.2⟩⟩
section
variable {X:Cx}{C:LC}{S:Od}{e a b o:Oq}{es:Om}{w w1 w2 fr:Bool}{ws:Oh}{m m1 m2:ME}{ms:MA}{pos p vE:Pos}{x mn:Str}{k:Nat}{f:Addr}{fd:OC}{ps:Ob}{g:Ou}
def p_(R:Rel C.W B S P H σ ρ)(q:XPo C B c fs):∀e dx es H2,zI H H2->H2 e=some (XC e (C.W.cls c) dx)->H2 dx=some (XD dx es)->vI C.W (λa=>Mof B S P a\/H a=none) H2 fs es->C.E (.ref e) (some dx) H2:=
 λe dx es H2 s h1 h2 h3=>q e dx es H2 (R.same.trans s) h1 h2 (h3.sub λa m _=>m.elim (λm=>m.1.1) λn=>.inr (zI.none R.same n))
def Bw{B:Bs}{P:Ol}{H:Hp}{σ:St}{ρ:Sto}{Q:VK}{o:Out PV}(R:Rel C.W B S P H σ ρ)(q:yp C B H (RV C B S P false) Q o):LP C.W fr (Mof B S P) H Q C.E o:=by
 have sM:∀a,(Mof B S P a\/H a=none)->Mof B S P a:=λa m=>m.elim id λn=>R.new a n;cases o with
 |ok r=>
  intro v H2 s hr;refine q v H2 s (RV.of ?_);unfold RtV at hr;cases fr with
  |true=>rw[if_pos rfl]at hr;exact(hr.sub sM).rep R.new
  |false=>rw[if_neg P5]at hr;exact hr.sub λa m _=>sM a m
 |exc c fs=>exact p_ R q
 |wall=>exact q
def Dd{B:Bs}{P:Ol}{H:Hp}{σ:St}{ρ:Sto}{Q:VK}{o:Out PV}(R:Rel C.W B S P H σ ρ)(q:yp C B H (RFr C.W (Mof B S P) H) Q o):LP C.W true (Mof B S P) H Q C.E o:=by
 have sM:∀a,(Mof B S P a\/H a=none)->Mof B S P a:=λa m=>m.elim id λn=>R.new a n;cases o with
 |ok r=>intro v H2 s hr;unfold RtV at hr;rw[if_pos rfl]at hr;exact q v H2 s (hr.sub sM)
 |exc c fs=>exact p_ R q
 |wall=>exact q
def De(F:qO X.prog X.w X.K X.mg X.base (CXe X.prog X.w) k f fd ps (lsp C.W fr ws g))(hr:kY k X.A)(hg:Gl X x)(hm:X.mg x=some (.ref f))(hk:keepIn X.K (.ref f)=true)(hb:Binds X.K fd ps [])(hx:Passes (CXe X.prog X.w) X C.E)(ha:AM X C S ws (e::es) ms)
  (hdb:(x==("__debug__":Str))=false:=by decide) (he:starEach (e::es) X.env=(false,eval e X.env)::starEach es X.env:=by rfl) (hpl:(backTo pos (starEach es X.env)).any (·.1)=false:=by rfl):EM X C S false (.Call (.Name x p) (e::es) [] pos) (zj g ms):=λhK=>by
 obtain⟨ta,a1,a2⟩:=ha hK;refine⟨_,gz F hr hg hm hk hb .nil hx a1 hdb he hpl,λB P H σ ρ R Q q=>a2 B P H σ ρ R _ (qP q λxs vs H1 s1 r1 q1=>?_)⟩;rw[R8];exact⟨_,xs,r1.args,Bw (R.keep s1) q1⟩
def VY(F:qO X.prog X.w X.K X.mg X.base (CXe X.prog X.w) k f fd ps (lsp C.W true ws g))(hr:kY k X.A)(hg:Gl X x)(hm:X.mg x=some (.ref f))(hk:keepIn X.K (.ref f)=true)(hb:Binds X.K fd ps [])(hx:Passes (CXe X.prog X.w) X C.E)(ha:AM X C S ws (e::es) ms)
  (hdb:(x==("__debug__":Str))=false:=by decide) (he:starEach (e::es) X.env=(false,eval e X.env)::starEach es X.env:=by rfl) (hpl:(backTo pos (starEach es X.env)).any (·.1)=false:=by rfl):FM X C S (.Call (.Name x p) (e::es) [] pos) (zj g ms):=λhK=>by
 obtain⟨ta,a1,a2⟩:=ha hK;refine⟨_,gz F hr hg hm hk hb .nil hx a1 hdb he hpl,λB P H σ ρ R Q q=>a2 B P H σ ρ R _ (YH q λxs vs H1 s1 r1 q1=>?_)⟩;rw[R8];exact⟨_,xs,r1.args,Dd (R.keep s1) q1⟩
def ny(cs:Od)(f:Str)(m:ME):ME:=λρ=>(m ρ).bind λx=>match x with
 |.o c fs=>if c∈cs then Yt (fs.lookup f)else .wall
 |_=>.wall
def nA(cs:Od)(f:Str)(m:ME):ME:=λρ=>(m ρ).bind λx=>match x with
 |.x c fs=>if c∈cs then Yt (fs.lookup f)else .wall
 |_=>.wall
def eB(h:EM X C S w e m)(hc:∀c∈cs,Cls X.K (C.W.cls c)/\vF X.K (C.W.cls c) fn)(hb:attributeBase e fn X.env (eval e X.env)=eval e X.env:=by rfl):EM X C S false (.Attribute e fn pos) (ny cs fn m):=λhK=>by
 obtain⟨te,a1,a2⟩:=h hK;refine⟨_,Bg a1 hb,λB P H σ ρ R Q q=>a2 B P H σ ρ R _ (ye q λx v H1 s1 r1 q1=>?_)⟩;cases x with
 |o c fs=>
  obtain⟨p,dx,es,rfl,_,hp,hf⟩:=r1;by_cases hcs:c∈cs
  .have q1:yp C B H1 (RV C B S P false) Q (if c∈cs then Yt (fs.lookup fn)else .wall):=q1;rw[if_pos hcs]at q1;obtain⟨y,e,q1⟩:=y_ q1;obtain⟨v,hv,rv⟩:=hf.lookup e;exact⟨p,_,dx,es,v,rfl,hp,(hc c hcs).1,(hc c hcs).2,hv,q1 v H1 (zI.refl _) (RV.of rv)⟩
  .have q1:yp C B H1 (RV C B S P false) Q (if c∈cs then Yt (fs.lookup fn)else .wall):=q1;rw[if_neg hcs]at q1;exact q1.elim
 |_=>exact q1.elim
def XH(h:EM X C S w e m)(hc:∀c∈cs,JN X.K (C.W.cls c)/\findIn X.K (.ref (C.W.cls c)) fn=some none)(hb:attributeBase e fn X.env (eval e X.env)=eval e X.env:=by rfl):EM X C S false (.Attribute e fn pos) (nA cs fn m):=λhK=>by
 obtain⟨te,a1,a2⟩:=h hK;refine⟨_,CT a1 hb,λB P H σ ρ R Q q=>a2 B P H σ ρ R _ (ye q λx v H1 s1 r1 q1=>?_)⟩;cases x with
 |x c fs=>
  obtain⟨p,dx,es,rfl,hp,hd,hf⟩:=r1;by_cases hcs:c∈cs
  .have q1:yp C B H1 (RV C B S P false) Q (if c∈cs then Yt (fs.lookup fn)else .wall):=q1;rw[if_pos hcs]at q1;obtain⟨y,e,q1⟩:=y_ q1;obtain⟨v,hv,rv⟩:=hf.lookup e;exact⟨p,_,dx,es,v,rfl,(hc c hcs).1,(hc c hcs).2,.inl hp,hd,hv,q1 v H1 (zI.refl _) (RV.of rv)⟩
  .have q1:yp C B H1 (RV C B S P false) Q (if c∈cs then Yt (fs.lookup fn)else .wall):=q1;rw[if_neg hcs]at q1;exact q1.elim
 |_=>exact q1.elim
def nB(tab:List (Nat×(List PV->Out PV)))(mn:Str)(m:ME)(ms:MA):ME:=λρ=>(m ρ).bind λx=>match x with
 |.o c fs=>match tab.lookup c with
  |some g=>if(fs.lookup mn).isSome=true then .wall else(ms ρ).bind λxs=>g (x::xs)
  |none=>.wall
 |_=>.wall
def LQ(W:RC)(fr:Bool)(ws:Oh)(tab:List (Nat×(List PV->Out PV)))(K:Addr)(sp:Sp):Prop:=∃q∈tab,K=W.cls q.1/\sp=lsp W fr (true::ws) q.2
def lookup_mem{α:Type}:∀{tab:List (Nat×α)}{c:Nat}{g:α},tab.lookup c=some g->(c,g)∈tab
 |[],_,_,h=>by cases h
 |q::r,c,g,h=>by
  rw[T0]at h;by_cases e:(c==q.1)=true
  .simp only[e]at h;cases h;rw[S9.mp e];exact O1
  .simp only[e]at h;exact O3 _ (lookup_mem h)
def Df{B:Bs}{P:Ol}{H:Hp}{σ:St}{ρ:Sto}{Q:VK}{c:Nat}{fs:OA}{v:V}{tab:List (Nat×(List PV->Out PV))}{t:TA}(R:Rel C.W B S P H σ ρ)(r1:RV C B S P w H (.o c fs) v)
  (ht:∀g,tab.lookup c=some g->fs.lookup mn=none->t σ H λvs H2=>lsp C.W fr (true::ws) g (v::vs) H2 Q C.E)
  (q:(∃g,tab.lookup c=some g/\fs.lookup mn=none)):∃a dx es K sp,LQ C.W fr ws tab K sp/\v=.ref a/\H a=some (.ins K dx es)/\es.lookup mn=none/\t σ H λvs H2=>sp (v::vs) H2 Q C.E:=by
 obtain⟨g,hg,hn⟩:=q;have h:=ht g hg hn;obtain⟨p,dx,es,rfl,_,hp,hf⟩:=r1;exact⟨p,dx,es,_,_,⟨(c,g),lookup_mem hg,rfl,rfl⟩,rfl,hp,hf.Xz hn,h⟩
def RVs.consW{B:Bs}{P:Ol}{H:Hp}{x:PV}{v:V}{xs:Ov}{vs:Oi}(h:RV C B S P w H x v)(t:RVs C B S P H ws xs vs):j_ C.W (Mof B S P) H (true::ws) (x::xs) (v::vs):=⟨x,v,xs,vs,rfl,rfl,by rw[if_pos rfl];exact h.weak,t.args⟩
def Dg(h:EM X C S w o m)(hal:∀K sp,LQ C.W fr ws tab K sp->ER X.prog X.w X.K X.mg X.base X.A mn K sp)(hx:Passes (CXe X.prog X.w) X C.E)(ha:AM X C S ws (e::es) ms)
  (hst:starEach (e::es) X.env=(false,eval e X.env)::starEach es X.env:=by rfl) (hpl:(backTo pos (starEach es X.env)).any (·.1)=false:=by rfl)
  (ht:eval (.Call (.Attribute o mn vE) (e::es) [] pos) X.env=(do
   let ov<-eval o X.env
   standAt vE.atName
   let(f,first)<-holding [ov] (getMethod ov mn pl)
   callWith pos f first (backTo pos (starEach (e::es) X.env)) (backToKw pos (keywordEach [] X.env))):=by rfl):EM X C S false (.Call (.Attribute o mn vE) (e::es) [] pos) (nB tab mn m ms):=λhK=>by
 obtain⟨to,o1,o2⟩:=h hK;obtain⟨ta,a1,a2⟩:=ha hK;refine⟨_,xx (pl:=pl) o1 hal hx a1 hst hpl ht,λB P H σ ρ R Q q=>o2 B P H σ ρ R _ (ye q λx v H1 s1 r1 q1=>?_)⟩;cases x with
 |o c fs=>
  dsimp only at q1;cases hg:tab.lookup c with
  |none=>rw[hg]at q1;exact q1.elim
  |some g=>
   rw[hg]at q1;dsimp only at q1;cases hn:fs.lookup mn with
   |some z=>rw[hn]at q1;exact q1.elim
   |none=>rw[hn]at q1;have q1:yp C B H1 (RV C B S P false) Q ((ms ρ).bind λxs=>g (.o c fs::xs)):=q1;refine Df (R.keep s1) r1 (λg' hg' _=>?_) ⟨g,hg,hn⟩;rw[hg]at hg';cases hg';exact a2 B P H1 σ ρ (R.keep s1) _ (qP q1 λxs vs H2 s2 r2 q2=>⟨_,_,RVs.consW (RV.same r1 s2) r2,Bw ((R.keep s1).keep s2) q2⟩)
 |_=>exact q1.elim
def erase(H:Hp)(x:Addr):Hp:=λa=>if a=x then none else H a
def MW(W:RC)(M:Of)(H:Hp)(x:Addr)(Q:VK)(E:XK):Out PV->Prop
 |.ok r=>∀H2,zI (erase H x) H2->cb W (λa=>(M a\/erase H x a=none)/\a≠x) H2 x r->Q .non H2
 |.exc c fs=>∀e dx es H2,zI (erase H x) H2->H2 e=some (XC e (W.cls c) dx)->H2 dx=some (XD dx es)->vI W (λa=>M a\/erase H x a=none) H2 fs es->E (.ref e) (some dx) H2
 |.wall=>False
def IG(W:RC)(c:Nat)(ws:Oh)(g:Ou):Sp:=λvs H Q E=>∃M x dx xs avs,vs=.ref x::avs/\H x=some (.ins (W.cls c) dx [])/\j_ W M (erase H x) ws xs avs/\MW W M H x Q E (g xs)
def xI(h:ws.length+1=n):∀vs H Q E,IG W c ws g vs H Q E->vs.length=n:=λvs H Q E ⟨M,x,dx,xs,avs,e,_,a,_⟩=>by rw[e,N9,a.len.1,h]
def rf{H:Hp}{x dx K:Addr}(hx:H x=none)(hd:H dx=none)(hne:dx≠x):zI H (erase (upd (upd H dx (.own x)) x (.ins K dx [])) x):=λb o hb=>by unfold erase;have n1:b≠x:=zZ hb hx;rw[if_neg n1,zg n1,zg (zZ hb hd)];exact hb
def rg{H:Hp}{x dx K a:Addr}(hx:H x=none)(h:erase (upd (upd H dx (.own x)) x (.ins K dx [])) x a=none):H a=none:=by
 by_cases e:a=x
 .rw[e];exact hx
 .unfold erase at h;rw[if_neg e,zg e]at h;by_cases e2:a=dx
  .subst e2;rw[zi]at h;cases h
  .rwa [zg e2]at h
def Dh(M:Mk X.K (C.W.cls c) f)(F:qO X.prog X.w X.K X.mg X.base (CXe X.prog X.w) k f fd ps (IG C.W c ws g))(hr:kY (k+1) X.A)(hg:Gl X x)(hm:X.mg x=some (.ref (C.W.cls c)))(hb:Binds X.K fd ps [])(hx:Passes (CXe X.prog X.w) X C.E)(ha:AM X C S ws (e::es) ms)
  (hdb:(x==("__debug__":Str))=false:=by decide) (he:starEach (e::es) X.env=(false,eval e X.env)::starEach es X.env:=by rfl) (hpl:(backTo pos (starEach es X.env)).any (·.1)=false:=by rfl):FM X C S (.Call (.Name x p) (e::es) [] pos) (zj g ms):=λhK=>by
 obtain⟨ta,a1,a2⟩:=ha hK;refine⟨_,pd M F hr hg hm hb .nil hx a1 hdb he hpl,λB P H σ ρ R Q q=>a2 B P H σ ρ R _ (YH q λxs vs H1 s1 r1 q1=>?_)⟩;intro x dx hx hd hne;rw[R8];have R1:=R.keep s1;have sm:=rf (K:=C.W.cls c) hx hd hne;refine⟨_,x,dx,xs,vs,rfl,zi,r1.args.same sm,?_⟩;have sM:∀a,(Mof B S P a\/erase (upd (upd H1 dx (.own x)) x (.ins (C.W.cls c) dx [])) x a=none)->Mof B S P a:=λa m=>m.elim id λn=>R1.new a (rg hx n);revert q1;cases g xs with
 |ok r=>exact λq1 H2 s2 hr=>⟨rfl,q1 _ H2 (sm.trans s2) ⟨x,rfl,hx,hr.gen rfl Fr.refl λa m _=>⟨sM a m.1,m.2⟩⟩⟩
 |exc c fs=>exact λq1 e dx' es H2 s2 h1 h2 h3=>q1 e dx' es H2 ((R1.same.trans sm).trans s2) h1 h2 (h3.sub λa m _=>(sM a m).1.1)
 |wall=>exact id
inductive Kd where
 |int|str|bool|none|list|tuple|dict|obj (c:Nat)|exc (c:Nat)
 deriving DecidableEq
def kd:PV->Option Kd
 |.i _=>some .int | .s _=>some .str | .b _=>some .bool | .n=>some .none | .l _=>some .list | .t _=>some .tuple | .d _=>some .dict | .o c _=>some (.obj c) | .x c _=>some (.exc c)
 |.sc _=>Option.none
 |.dt _=>Option.none
def tyK(W:RC):Kd->Value
 |.int=>.type "int" | .str=>.type "str" | .bool=>.type "bool" | .none=>.type "NoneType" | .list=>.type "list" | .tuple=>.type "tuple" | .dict=>.type "dict" | .obj c=>.ref (W.cls c) | .exc c=>.ref (W.cls c)
def IH(W:RC):Kd->Prop
 |.obj c=>Cls W.K (W.cls c)/\findIn W.K (.ref (W.cls c)) "__class__"=some (some (.builtin "object.__class__"))/\specialIn W.K (.builtin "object.__class__") "__get__"=some (some (.builtin "getset_descriptor.__get__"))/\takesIn W.K (.builtin "object.__class__")=some true/\mroIn W.K (W.cls c) (.type "object")=some true
 |.exc c=>JN W.K (W.cls c)/\XIs W.K (W.cls c)
 |_=>True
def rh(W:RC)(f:Pe):List (Kd×Bool)->Prop
 |[]=>True
 |q::r=>(IH W q.1/\f (tyK W q.1)=some q.2)/\rh W f r
def rh.get{W:RC}{f:Pe}:∀{tab:List (Kd×Bool)}{k:Kd}{b:Bool},rh W f tab->tab.lookup k=some b->IH W k/\f (tyK W k)=some b
 |[],_,_,_,h=>by cases h
 |q::r,k,b,t,h=>by
  rw[T0]at h;by_cases e:(k==q.1)=true
  .simp only[e]at h;cases h;rw[S9.mp e];exact t.1
  .simp only[e]at h;exact rh.get t.2 h
def gY(tab:List (Kd×Bool))(x:PV):Out PV:=Yt (((kd x).bind λk=>tab.lookup k).map PV.b)
def NS(W:RC)(f:Pe)(cv:V):List V->Hp->VK->Prop:=λvs H Q=>∃(M:Of)(x:PV)(v:V)(k:Kd)(b:Bool),vs=[v,cv]/\qL W (λ_=>True) M H x v/\kd x=some k/\IH W k/\f (tyK W k)=some b/\Q (.bl b) H
def Gu{pins:Oa}{σ:St}{H:Hp}{s:Oe}{W:RC}{N M:Of}{x:PV}{v:V}{u:Value}{k:Kd}(hK:X.K=W.K)(I:Inv X pins σ H s)(h:qL W N M H x v)(ru:RelV v u)(hk:kd x=some k)(ok:IH W k):∃P,KitX X.K u (tyK W k) P/\P s.heap/\u≠.builtin "__main__.__loader__#opaque":=by
 cases x with
 |i a=>cases hk;exact gI I ru (.inl (by rw[(show v=_ from h)];exact .int a))
 |s a=>cases hk;exact gI I ru (.inl (by rw[(show v=_ from h)];exact .str a))
 |b a=>cases hk;exact gI I ru (.inl (by rw[(show v=_ from h)];exact .bl a))
 |n=>cases hk;exact gI I ru (.inl (by rw[(show v=_ from h)];exact .non))
 |l a=>cases hk;obtain⟨p,vs,rfl,_,hl,_⟩:=h;exact gI I ru (.inl (.lst hl))
 |t a=>cases hk;obtain⟨p,vs,rfl,hl,_⟩:=h;cases(show u=Value.ref p from ru);rw[<- hK]at hl;obtain⟨its,_,⟨o,h1,h2,_⟩,_⟩:=I.tuple hl;exact⟨_,kitx_tuple,⟨o,h1,h2⟩,λz=>nomatch z⟩
 |d a=>cases hk;obtain⟨p,vs,rfl,_,hl,_⟩:=h;cases(show u=Value.ref p from ru);obtain⟨_,_,ws,_,dd⟩:=JM I.hok hl;obtain⟨o,es,ep,h1,h2,_⟩:=dd;exact⟨_,kitx_dict,⟨o,h1,h2.1⟩,λz=>nomatch z⟩
 |o c a=>cases hk;obtain⟨p,dx,es,rfl,_,hl,_⟩:=h;obtain⟨o1,o2,o3,o4,o5⟩:=ok;rw[<- hK]at o1 o2 o3 o4 o5;exact gI I ru (.inl (.ins hl o1 o2 o3 o4 o5))
 |x c a=>cases hk;obtain⟨p,dx,es,rfl,hl,hd,_⟩:=h;obtain⟨o1,o2⟩:=ok;rw[<- hK]at o1 o2;exact gI I ru (.inr ⟨p,_,dx,es,rfl,rfl,o1,o2,.inl hl,hd⟩)
 |sc a=>cases hk
 |dt a=>cases hk
def xJ(hK:X.K=W.K)(hc:LB cv=some cl):vU X (.builtin "isinstance") (NS W (λt=>kitOne W.K t cl) cv):=by intro pins s σ H xs us Q I r h;obtain⟨M,x,v,k,b,rfl,hx,hk,ok,hb,q⟩:=h;obtain⟨u,c,rfl,rx,rc⟩:=vals2 r;obtain⟨P,kx,hP,hne⟩:=Gu hK I hx rx hk ok;rw[xk rc hc];rw[<- hK]at hb;exact kia_one kx I.kIn hP hb hne λtk=>⟨.bl b,H,I.tok _,rfl,q⟩
def Zm(hg:Gl X "isinstance")(hm:X.mg "isinstance"=none)(h:EM X C S w e m)(hc:PE X ce (tC cv))(hcl:LB cv=some cl)(tb:rh C.W (λt=>kitOne C.W.K t cl) tab)
  (he:starEach [e,ce] X.env=[(false,eval e X.env),(false,eval ce X.env)]:=by rfl) (he2:starEach [ce] X.env=[(false,eval ce X.env)]:=by rfl):EM X C S false (.Call (.Name "isinstance" p) [e,ce] [] pos) (mUn (gY tab) m):=λhK=>by
 obtain⟨te,a1,a2⟩:=h hK;refine⟨_,Xc (xJ hK hcl) hg hm PyProof.Rows.boot_isinstance (QK a1 (QK hc Xr he2) (by rw[he,he2])) (by decide) (by decide) (by rw[he,he2]) (by rw[he2];rfl),λB P H σ ρ R Q q=>a2 B P H σ ρ R _ (ye q λx v H1 s1 r1 q1=>?_)⟩;obtain⟨z,ez,q1⟩:=y_ q1;obtain⟨b,hb,rfl⟩:=N8.mp ez;obtain⟨k,hk,hb⟩:=R9.mp hb;obtain⟨ok,hv⟩:=tb.get hb;exact⟨_,x,v,k,b,rfl,r1.weak,hk,ok,hv,q1 _ H1 (zI.refl _) (RV.of rfl)⟩
abbrev MO:=Sto->Out (Option Int)
def LO(C:LC)(S:Od)(to:TO)(m:MO):Prop:=∀B P H σ ρ,Rel C.W B S P H σ ρ->∀Q:Option Int->Hp->Prop,(match m ρ with | .ok r=>∀H2,zI H H2->Q r H2 | .exc c fs=>XPo C B c fs | .wall=>False)->to σ H Q
def OM(X:Cx)(C:LC)(S:Od)(e:Pd)(m:MO):Prop:=X.K=C.W.K->∃to,PO X e to/\LO C S to m
def aX:MO:=λ_=>.ok none
def asI:PV->Out (Option Int)
 |.i a=>.ok (some a)
 |_=>.wall
def Zj(m:ME):MO:=λρ=>(m ρ).bind asI
def KG:OM X C S none aX:=λ_=>⟨_,CG,λB P H σ ρ R Q q=>q H (zI.refl _)⟩
def KH(h:EM X C S w e m):OM X C S (some e) (Zj m):=λhK=>by
 obtain⟨te,a1,a2⟩:=h hK;refine⟨_,CH a1,λB P H σ ρ R Q q=>a2 B P H σ ρ R _ ?_⟩;unfold Zj at q;revert q;cases m ρ with
 |ok x=>
  intro q v H2 s r;cases x with
  |i a=>exact⟨a,r,q H2 s⟩
  |_=>exact q.elim
 |exc c fs=>exact id
 |wall=>exact id
def eC{α:Type}(xs:List α)(lo hi:OV):List α:=(xs.drop (HT.sIx xs.length 0 lo)).take (HT.sIx xs.length xs.length hi-HT.sIx xs.length 0 lo)
def pSl:PV->Option Int->Option Int->Out PV
 |.l xs,lo,hi=>.ok (.l (eC xs lo hi))
 |.sc ns,lo,hi=>.ok (.l ((eC ns lo hi).map PV.i))
 |.s z,lo,hi=>if z.length<=sizeLine then .ok (.s (Txt.slice z lo hi))else .wall
 |_,_,_=>.wall
def Di:PV->Option Int->Option Int->Out PV
 |.l xs,lo,hi=>.ok (.l (eC xs lo hi))
 |.sc ns,lo,hi=>.ok (.l ((eC ns lo hi).map PV.i))
 |_,_,_=>.wall
def mSl(pp:PV->Option Int->Option Int->Out PV)(m:ME)(lo hi:MO):ME:=λρ=>(m ρ).bind λx=>(lo ρ).bind λl=>(hi ρ).bind λh=>pp x l h
def lA{ns:OB}{lo hi:OV}:Bi (ns.map V.int) lo hi=(eC ns lo hi).map V.int:=by unfold Bi eC;rw[u8,a1s,a24]
variable {lo hi:Pd}{ml mh:MO}{p2:Pos}
def lC(h:EM X C S w e m)(hl:OM X C S lo ml)(hh:OM X C S hi mh):FM X C S (.Subscript e (.Slice lo hi none p2) pos) (mSl Di m ml mh):=λhK=>by
 obtain⟨te,a1,a2⟩:=h hK;obtain⟨tl,b1,b2⟩:=hl hK;obtain⟨th,c1,c2⟩:=hh hK;refine⟨_,iY pf a1 b1 c1,λB P H σ ρ R Q q=>a2 B P H σ ρ R _ (KD q λx v H1 s1 r1 q1=>b2 B P H1 σ ρ (R.keep s1) _ ?_)⟩;revert q1;cases ml ρ with
 |exc c fs=>exact id
 |wall=>exact id
 |ok l=>
  intro q1 H2 s2;refine c2 B P H2 σ ρ ((R.keep s1).keep s2) _ ?_;have q1:yp C B H1 (RFr C.W (Mof B S P) H1) Q ((mh ρ).bind λh=>Di x l h):=q1;have q1:=vW q1 s2;revert q1;cases mh ρ with
  |exc c fs=>exact id
  |wall=>exact id
  |ok h=>
   intro q1 H3 s3;have q1:=vW (o:=Di x l h) q1 s3;have r3:=(r1.same s2).same s3;cases x with
   |l xs=>obtain⟨p,vs,rfl,_,hp,rr⟩:=r3;exact⟨p,vs,rfl,SqL.of hp,λz hz=>q1 _ _ (zI.upd hz) (QN rr.cut hz)⟩
   |sc ns=>obtain⟨p,rfl,hp⟩:=r3;exact⟨p,_,rfl,hK▸hp.sq,λz hz=>q1 _ _ (zI.upd hz) (by rw[lA];exact QN yQ.ints hz)⟩
   |_=>exact q1.elim
def Vc(h:EM X C S w e m)(hl:OM X C S lo ml)(hh:OM X C S hi mh):EM X C S false (.Subscript e (.Slice lo hi none p2) pos) (mSl pSl m ml mh):=λhK=>by
 obtain⟨te,a1,a2⟩:=h hK;obtain⟨tl,b1,b2⟩:=hl hK;obtain⟨th,c1,c2⟩:=hh hK;refine⟨_,iY (pf.or FT) a1 b1 c1,λB P H σ ρ R Q q=>a2 B P H σ ρ R _ (ye q λx v H1 s1 r1 q1=>b2 B P H1 σ ρ (R.keep s1) _ ?_)⟩;revert q1;cases ml ρ with
 |exc c fs=>exact id
 |wall=>exact id
 |ok l=>
  intro q1 H2 s2;refine c2 B P H2 σ ρ ((R.keep s1).keep s2) _ ?_;have q1:yp C B H1 (RV C B S P false) Q ((mh ρ).bind λh=>pSl x l h):=q1;have q1:=Yr q1 s2;revert q1;cases mh ρ with
  |exc c fs=>exact id
  |wall=>exact id
  |ok h=>
   intro q1 H3 s3;have q1:=Yr (o:=pSl x l h) q1 s3;have r3:=(r1.same s2).same s3;have N3:=(((R.keep s1).keep s2).keep s3).new;cases x with
   |l xs=>obtain⟨p,vs,rfl,_,hp,rr⟩:=r3;exact .inl ⟨p,vs,rfl,SqL.of hp,λz hz=>q1 _ _ (zI.upd hz) (RV.of ((QN rr.cut hz).rep N3))⟩
   |sc ns=>obtain⟨p,rfl,hp⟩:=r3;exact .inl ⟨p,_,rfl,hK▸hp.sq,λz hz=>q1 _ _ (zI.upd hz) (by rw[lA];exact RV.of ((QN yQ.ints hz).rep N3))⟩
   |s z=>
    unfold pSl at q1;by_cases hz:z.length<=sizeLine
    .simp only[hz,if_true]at q1;exact .inr ⟨z,r3,hz,q1 _ H3 (zI.refl _) (RV.of rfl)⟩
    .simp only[hz,if_false]at q1;exact q1.elim
   |_=>exact q1.elim
end
def EV(C:LC)(B:Bs)(H:Hp)(x:PV)(v:V):Prop:=if C.fr=true then RFr C.W B.Mt B.H0 H x v else Rep C.W B.Mt H x v
def Zk(C:LC)(B:Bs)(S' Sb Sc:Od)(D:Ends):Out Fw->Prop
 |.ok (.nx ρ')=>∀P' H' σ',Rel C.W B S' P' H' σ' ρ'->D.nx σ' H'
 |.ok (.rt x)=>∀v H',zI B.H0 H'->EV C B H' x v->D.rt v H'
 |.ok (.bk ρ')=>∀P' H' σ',Rel C.W B Sb P' H' σ' ρ'->D.bk σ' H'
 |.ok (.ct ρ')=>∀P' H' σ',Rel C.W B Sc P' H' σ' ρ'->D.ct σ' H'
 |.exc c fs=>XPo C B c fs
 |.wall=>False
def LS(C:LC)(S S' Sb Sc:Od)(ts:TS)(m:MS):Prop:=∀B P H σ ρ,Rel C.W B S P H σ ρ->∀D,Zk C B S' Sb Sc D (m ρ)->ts D σ H
def SM(X:Cx)(C:LC)(S S' Sb Sc:Od)(st:OO)(m:MS):Prop:=X.K=C.W.K->∃ts,PS X st ts/\LS C S S' Sb Sc ts m
def SsM(X:Cx)(C:LC)(S S' Sb Sc:Od)(st:OG)(m:MS):Prop:=X.K=C.W.K->∃ts,PSs X st ts/\LS C S S' Sb Sc ts m
def yc:MS:=λρ=>.ok (.nx ρ)
def yf(a b:MS):MS:=λρ=>(a ρ).bind λf=>match f with
 |.nx ρ'=>b ρ'
 |.rt x=>.ok (.rt x)
 |.bk ρ'=>.ok (.bk ρ')
 |.ct ρ'=>.ok (.ct ρ')
def y8(i:Nat)(m:ME):MS:=λρ=>(m ρ).bind λx=>.ok (.nx (ρ.set i (some x)))
def ZQ(m:ME):MS:=λρ=>(m ρ).bind λ_=>.ok (.nx ρ)
def jH(m:ME):MS:=λρ=>(m ρ).bind λx=>.ok (.rt x)
def sIf(t:MT)(a b:MS):MS:=λρ=>(t ρ).bind λc=>if c=true then a ρ else b ρ
section
variable {X:Cx}{C:LC}{S S' S1 Sb Sc:Od}{e a b o:Oq}{es:Om}{w w1 w2:Bool}{ws:Oh}{m m1 m2:ME}{ms:MA}{t1:MT}{s1 s2:MS}{pos p pos':Pos}{x:Str}{st:OO}{sts stt:OG}{i:Nat}
def ya:SsM X C S S Sb Sc [] yc:=λ_=>⟨_,oP,λB P H σ ρ R D q=>q P H σ R⟩
def Gv(h1:LS C S S1 Sb Sc t s1)(h2:LS C S1 S' Sb Sc u s2):LS C S S' Sb Sc (IZ t u) (yf s1 s2):=λB P H σ ρ R D q=>by
 refine h1 B P H σ ρ R _ ?_;unfold yf at q;revert q;cases s1 ρ with
 |ok f=>
  cases f with
  |nx ρ'=>exact λq P' H' σ' R'=>h2 B P' H' σ' ρ' R' D q
  |rt x=>exact id
  |bk ρ'=>exact id
  |ct ρ'=>exact id
 |exc c fs=>exact id
 |wall=>exact id
def zf(h1:SM X C S S1 Sb Sc st s1)(h2:SsM X C S1 S' Sb Sc sts s2):SsM X C S S' Sb Sc (st::sts) (yf s1 s2):=λhK=>by obtain⟨t,a1,a2⟩:=h1 hK;obtain⟨u,b1,b2⟩:=h2 hK;exact⟨_,bN a1 b1,Gv a2 b2⟩
def zk(h1:SM X C S S' Sb Sc st s1):SsM X C S S' Sb Sc [st] s1:=λhK=>by obtain⟨t,a1,a2⟩:=h1 hK;exact⟨_,ZK a1,a2⟩
def xK(i:Nat)(hi:S1[i]?=some 2)(q:Zk C B (S1.set i 0) Sb Sc D f):Zk C B S1 Sb Sc D f:=by
 cases f with
 |ok f=>
  cases f with
  |nx ρ'=>exact λP' H' σ' R'=>q P' H' σ' (R'.freeze hi)
  |rt x=>exact q
  |bk ρ'=>exact q
  |ct ρ'=>exact q
 |exc c fs=>exact q
 |wall=>exact q
def Dj(i:Nat)(h:SsM X C S S1 Sb Sc sts s1)(hi:S1[i]?=some 2:=by rfl):SsM X C S (S1.set i 0) Sb Sc sts s1:=λhK=>by obtain⟨t,a1,a2⟩:=h hK;exact⟨t,a1,λB P H σ ρ R D q=>a2 B P H σ ρ R D (xK i hi q)⟩
def Bx(h:LE C S false te m):LS C S (S.set i 0) Sb Sc (EK te (gu i)) (y8 i m):=λB P H σ ρ R D q=>by
 refine h B P H σ ρ R _ ?_;unfold y8 at q;revert q;cases m ρ with
 |ok x=>exact λq v H2 s r=>q P H2 _ ((R.keep s).set r.rep)
 |exc c fs=>exact id
 |wall=>exact id
def aY(hN:X.N.Nodup)(hi:X.N[i]?=some x)(hx:Loc X.env.scope x)(h:EM X C S false e m)(hs:swapsWith e (some (.Name x pos')) pos.line X.env=pure false:=by rfl)(hf:X.fn x=true\/X.env.scope.names.lookup x=some .local:=by first|exact .inl rfl|exact .inr rfl|assumption):
  SM X C S (S.set i 0) Sb Sc (.Assign [.Name x pos'] e pos) (y8 i m):=λhK=>by
 obtain⟨te,a1,a2⟩:=h hK;exact⟨_,oS hN hi hx a1 hs hf,Bx a2⟩
def Dk(h:LFr C S te m)(hl:i<S.length)(h0:i≠0):LS C S (S.set i 2) Sb Sc (EK te (gu i)) (y8 i m):=λB P H σ ρ R D q=>by
 refine h B P H σ ρ R _ ?_;unfold y8 at q;revert q;cases m ρ with
 |ok x=>exact λq v H2 s ⟨p,e,hp,r⟩=>by subst e;exact q _ H2 _ (R.NO s hp hl h0 r)
 |exc c fs=>exact id
 |wall=>exact id
def ZR(hN:X.N.Nodup)(hi:X.N[i]?=some x)(hx:Loc X.env.scope x)(h:FM X C S e m)(hl:i<S.length:=by decide)(h0:i≠0:=by decide)(hs:swapsWith e (some (.Name x pos')) pos.line X.env=pure false:=by rfl)(hf:X.fn x=true\/X.env.scope.names.lookup x=some .local:=by first|exact .inl rfl|exact .inr rfl|assumption):
  SM X C S (S.set i 2) Sb Sc (.Assign [.Name x pos'] e pos) (y8 i m):=λhK=>by
 obtain⟨te,a1,a2⟩:=h hK;exact⟨_,oS hN hi hx a1 hs hf,Dk a2 hl h0⟩
def jr(h:EM X C S w e m)(hs:swapsWith e none pos.line X.env=pure false:=by rfl):SM X C S S Sb Sc (.Expr e pos) (ZQ m):=λhK=>by
 obtain⟨te,a1,a2⟩:=h hK;refine⟨_,gr a1 hs,λB P H σ ρ R D q=>a2 B P H σ ρ R _ ?_⟩;unfold ZQ at q;revert q;cases m ρ with
 |ok x=>exact λq v H2 s r=>q P H2 σ (R.keep s)
 |exc c fs=>exact id
 |wall=>exact id
def yL(h:EM X C S false e m)(hf:C.fr=false:=by rfl):SM X C S S' Sb Sc (.Return (some e) pos) (jH m):=λhK=>by
 obtain⟨te,a1,a2⟩:=h hK;refine⟨_,oQ a1,λB P H σ ρ R D q=>a2 B P H σ ρ R _ ?_⟩;unfold jH at q;revert q;cases m ρ with
 |ok x=>exact λq v H2 s r=>q v H2 (R.same.trans s) (by unfold EV;rw[hf,if_neg P5];exact r.rep.sub λa m _=>m.1.1)
 |exc c fs=>exact id
 |wall=>exact id
def XI(h:PE X e (mQ i))(hi:S[i]?=some 2:=by rfl)(hf:C.fr=true:=by rfl):SM X C S S' Sb Sc (.Return (some e) pos) (jH (zc i)):=λhK=>by
 refine⟨_,oQ h,λB P H σ ρ R D q=>?_⟩;unfold jH zc at q;cases hρ:ρ[i]? with
 |none=>rw[hρ]at q;exact q.elim
 |some o=>
  cases o with
  |none=>rw[hρ]at q;exact q.elim
  |some y=>rw[hρ]at q;obtain⟨v,hv,h2,_,_⟩:=R.var i y hρ;obtain⟨rfl,ra⟩:=h2 hi;refine⟨_,hv,q _ H R.same ?_⟩;unfold EV;rw[if_pos hf];exact⟨P i,rfl,(R.act i hi).1,ra.gen rfl Fr.refl λa m _=>⟨m.1.1,λz=>m.2 i hi z.symm⟩⟩
def yU(h:TM X C S c t1)(h1:SsM X C S S' Sb Sc sts s1)(h2:SsM X C S S' Sb Sc stt s2):SM X C S S' Sb Sc (.If c sts stt pos) (sIf t1 s1 s2):=λhK=>by
 obtain⟨tt,a1,a2⟩:=h hK;obtain⟨t,b1,b2⟩:=h1 hK;obtain⟨u,c1,c2⟩:=h2 hK;refine⟨_,Fd a1 b1 c1,λB P H σ ρ R D q=>a2 B P H σ ρ R _ ?_⟩;unfold sIf at q;revert q;cases t1 ρ with
 |ok k=>
  intro q H2 s;cases k with
  |true=>exact CQ (b2 B P H2 σ ρ (R.keep s) D q)
  |false=>exact CP (c2 B P H2 σ ρ (R.keep s) D q)
 |exc c fs=>exact id
 |wall=>exact id
def Rel.at2(R:Rel W B S P H σ ρ)(hi:S[i]?=some 2)(e:ρ[i]?=some (some y)):σ[i]?=some (some (.ref (P i)))/\cb W (Mof B S P) H (P i) y/\i<ρ.length:=by obtain⟨v,hv,h2,_,_⟩:=R.var i y e;obtain⟨rfl,ra⟩:=h2 hi;exact⟨hv,ra,(P6.mp e).1⟩
def Mof.wr{W:RC}{B:Bs}{P:Ol}{H:Hp}{σ:St}{ρ:Sto}{o:HO}(R:Rel W B S P H σ ρ)(hi:S[i]?=some 2):Fr (Mof B S P) H (upd H (P i) o):=λa q e m=>by
 obtain⟨_,o0,e0,n0⟩:=R.act i hi;have:a≠P i:=λz=>by
  rcases m with m|m
  .exact m.2 i hi z.symm
  .rw[z,e0]at e;cases e;exact n0 m
 rw[zg this];exact e
def rj(i:Nat)(m:ME):MS:=λρ=>match ρ[i]? with
 |some (some (.l xs))=>(m ρ).bind λy=>if xs.length<sizeLine then .ok (.nx (ρ.set i (some (.l (xs++[y])))))else .wall
 |_=>.wall
def QO(ho:PE X o (mQ i))(h:EM X C S false e m)(hi:S[i]?=some 2:=by rfl)(dv:attributeBase o "append" X.env (eval o X.env)=eval o X.env:=by rfl)
  (Bb:((backTo p (starEach [e] X.env)).all (λx=>!x.1)&&(backToKw p (keywordEach [] X.env)).all (λx=>x.1.isSome)&&decide ([e].length+([]:List Keyword).length+(if([]:List Keyword).isEmpty then 0 else 1)<30))=true:=by rfl)
  (dr:(vE.endLine==p.line)=true:=by rfl) (hs:starEach [e] X.env=[(false,eval e X.env)]:=by rfl) (hsw:swapsWith (.Call (.Attribute o "append" vE) [e] [] p) none pos.line X.env=pure false:=by rfl):
  SM X C S S Sb Sc (.Expr (.Call (.Attribute o "append" vE) [e] [] p) pos) (rj i m):=λhK=>by
 obtain⟨te,a1,a2⟩:=h hK;refine⟨_,gr (uW a1F PySem.F.slot_list_append PySem.F.type_list_append dR ho (QK a1 Xr hs) dv Bb dr hs rfl) hsw,λB P H σ ρ R D q=>?_⟩;unfold rj at q;split at q
 .rename_i xs hx;obtain⟨hσ,⟨vs,hp,rr⟩,hl⟩:=R.at2 hi hx;refine⟨_,hσ,.inl ⟨rfl,_,SqL.of hp⟩,a2 B P H σ ρ R _ ?_⟩;revert q;cases m ρ with
  |ok y=>
   intro q v H2 s r;have q:Zk C B S Sb Sc D (if xs.length<sizeLine then .ok (.nx (ρ.set i (some (.l (xs++[y])))))else .wall):=q;split at q
   .rename_i hz;have R2:=R.keep s;refine⟨_,vs,v,rfl,rfl,s _ _ hp,by rw[rr.len];exact hz,q P _ σ (R2.wr hi hl hσ (by exact id) ?_)⟩;have f:=Mof.wr (o:=.lst (vs++[v])) R2 hi;exact⟨_,zi,((rr.same s).append (.cons r.rep .nil)).gen f λ_ m _=>m⟩
   .exact q.elim
  |exc c fs=>exact id
  |wall=>exact id
 .exact q.elim
def dput{κ α:Type}[DecidableEq κ](kvs:List (κ×α))(k:κ)(v:α):List (κ×α):=
 if kvs.any (λkv=>decide (kv.1=k))=true then kvs.map (λkv=>if kv.1=k then(kv.1,v)else kv)else kvs++[(k,v)]
end
def j8.put(h:j8 W M H a es)(hx:Rep W M H x v):j8 W M H (dput a k x) (putK es k v):=by
 have key:∀{a:Oz}{es:Oo},j8 W M H a es->a.any (λkv=>decide (kv.1=k))=es.any (λkv=>decide (kv.1=k))/\j8 W M H (a.map λkv=>if kv.1=k then(kv.1,x)else kv) (es.map λkv=>if kv.1=k then(kv.1,v)else kv)/\j8 W M H (a++[(k,x)]) (es++[(k,v)]):=by
  intro a
  induction a with
  |nil=>intro es h;cases(show _=_ from h);exact⟨rfl,rfl,v,[],rfl,hx,rfl⟩
  |cons kx a ih=>
   intro es h;obtain⟨u,q,rfl,h1,h2⟩:=h;obtain⟨i1,i2,i3⟩:=ih h2;refine⟨by rw[a0p,a0p,i1],?_,⟨u,_,rfl,h1,i3⟩⟩;rw[O8,O8];by_cases e:kx.1=k
   .rw[if_pos e,if_pos e];exact⟨v,_,rfl,hx,i2⟩
   .rw[if_neg e,if_neg e];exact⟨u,_,rfl,h1,i2⟩
 obtain⟨i1,i2,i3⟩:=key h;unfold dput putK;rw[i1];split
 .exact i2
 .exact i3
section
variable {X:Cx}{C:LC}{S S' S1 Sb Sc:Od}{e a b o:Oq}{es:Om}{w w1 w2:Bool}{ws:Oh}{m m1 m2:ME}{ms:MA}{t1:MT}{s1 s2:MS}{pos p pos':Pos}{x:Str}{st:OO}{sts stt:OG}{i:Nat}
def Dl(i:Nat)(mk mv:ME):MS:=λρ=>(mv ρ).bind λv=>match ρ[i]? with
 |some (some (.d kvs))=>(mk ρ).bind λy=>match pk y with
  |some k=>if kvs.length<sizeLine then .ok (.nx (ρ.set i (some (.d (dput kvs k v)))))else .wall
  |none=>.wall
 |_=>.wall
def By(hu:X.A.units+1<cLine)(ho:PE X o (mQ i))(hk:EM X C S w a m1)(hv:EM X C S false e m2)(hi:S[i]?=some 2:=by rfl)(hs:swapsWith e (some (.Subscript o a pos')) pos.line X.env=pure false:=by rfl):
  SM X C S S Sb Sc (.Assign [.Subscript o a pos'] e pos) (Dl i m1 m2):=λhK=>by
 obtain⟨ta,a1,a2⟩:=hk hK;obtain⟨tv,b1,b2⟩:=hv hK;refine⟨_,gG hu ho a1 b1 hs,λB P H σ ρ R D q=>b2 B P H σ ρ R _ ?_⟩;unfold Dl at q;revert q;cases m2 ρ with
 |ok y=>
  intro q v H1 sm1 rv;have R1:=R.keep sm1;have q:Zk C B S Sb Sc D (match ρ[i]? with
   |some (some (.d kvs))=>(m1 ρ).bind λz=>match pk z with
    |some k=>if kvs.length<sizeLine then .ok (.nx (ρ.set i (some (.d (dput kvs k y)))))else .wall
    |none=>.wall
   |_=>.wall):=q
  split at q
  .rename_i kvs hx;obtain⟨hσ,⟨es,hp,rr⟩,hl⟩:=R1.at2 hi hx;refine⟨_,hσ,a2 B P H1 σ ρ R1 _ ?_⟩;revert q;cases m1 ρ with
   |ok z=>
    intro q u H2 sm2 ru;have R2:=R1.keep sm2;have q:Zk C B S Sb Sc D (match pk z with
     |some k=>if kvs.length<sizeLine then .ok (.nx (ρ.set i (some (.d (dput kvs k y)))))else .wall
     |none=>.wall):=q
    split at q
    .rename_i k hk;split at q
     .rename_i hz;have hp2:=sm2 _ _ hp;refine⟨_,_,rfl,by rw[cg ru.weak hk];exact uY.k hp2 (by rw[j8.len rr];exact hz),q P _ σ (R2.wr hi hl hσ (by exact id) ?_)⟩;have f:=Mof.wr (o:=.dK (putK es k v)) R2 hi;exact⟨_,zi,((rr.same sm2).put (rv.rep.same sm2)).gen f λ_ m _=>m⟩
     .exact q.elim
    .exact q.elim
   |exc c fs=>exact id
   |wall=>exact id
  .exact q.elim
 |exc c fs=>exact id
 |wall=>exact id
def rn(i:Nat)(mk mv:ME):MS:=λρ=>(mv ρ).bind λv=>match ρ[i]? with
 |some (some (.l xs))=>(mk ρ).bind λy=>match y with
  |.i k=>match ixN xs.length k with
   |some j=>.ok (.nx (ρ.set i (some (.l (xs.set j v)))))
   |none=>.wall
  |_=>.wall
 |_=>.wall
def Dm(ho:PE X o (mQ i))(hk:EM X C S w a m1)(hv:EM X C S false e m2)(hi:S[i]?=some 2:=by rfl)
  (ha:∀v,assign (.Subscript o a p) X.env v=(do
   let ov<-holding [v] (eval o X.env)
   let iv<-holding [v,ov] (eval a X.env)
   standAt p
   holding [v,ov,iv] (setItem ov iv v)
   release [v,ov,iv] []):=by intro _;rfl)
  (hs:swapsWithSole [.Subscript o a p] e pos.line X.env=pure false:=by rfl) (hw:swappedStores [.Subscript o a p] e X.env=pure none:=by rfl) (h1:(assignEach [.Subscript o a p] X.env).map (·.2)=[assign (.Subscript o a p) X.env]:=by rfl):
  SM X C S S Sb Sc (.Assign [.Subscript o a p] e pos) (rn i m1 m2):=λhK=>by
 obtain⟨ta,a1,a2⟩:=hk hK;obtain⟨tv,b1,b2⟩:=hv hK;refine⟨_,Bc b1 (Ff ho a1 set_list ha) hs hw h1,λB P H σ ρ R D q=>b2 B P H σ ρ R _ ?_⟩;unfold rn at q;revert q;cases m2 ρ with
 |ok y=>
  intro q v H1 sm1 rv;have R1:=R.keep sm1;have q:Zk C B S Sb Sc D (match ρ[i]? with
   |some (some (.l xs))=>(m1 ρ).bind λz=>match z with
    |.i k=>match ixN xs.length k with
     |some j=>.ok (.nx (ρ.set i (some (.l (xs.set j y)))))
     |none=>.wall
    |_=>.wall
   |_=>.wall):=q
  split at q
  .rename_i xs hx;obtain⟨hσ,⟨vs,hp,rr⟩,hl⟩:=R1.at2 hi hx;refine⟨_,hσ,a2 B P H1 σ ρ R1 _ ?_⟩;revert q;cases m1 ρ with
   |ok z=>
    intro q u H2 sm2 ru;have R2:=R1.keep sm2;cases z with
    |i k=>
     have q:Zk C B S Sb Sc D (match ixN xs.length k with
      |some j=>.ok (.nx (ρ.set i (some (.l (xs.set j y)))))
      |none=>.wall):=q
     split at q
     .rename_i j hj;refine⟨_,vs,k,j,rfl,ru,sm2 _ _ hp,by rw[rr.len];exact hj,q P _ σ (R2.wr hi hl hσ (by exact id) ?_)⟩;have f:=Mof.wr (o:=.lst (vs.set j v)) R2 hi;exact⟨_,zi,(yQ.set (rv.rep.same sm2) j (rr.same sm2)).gen f λ_ m _=>m⟩
     .exact q.elim
    |_=>exact q.elim
   |exc c fs=>exact id
   |wall=>exact id
  .exact q.elim
 |exc c fs=>exact id
 |wall=>exact id
def uE(fs:OA)(f:Str)(v:PV):List (Str×PV):=match fs with
 |[]=>[(f,v)]
 |kx::r=>if kx.1=f then(f,v)::r else kx::uE r f v
end
def vI.put{W:RC}{M:Of}{H:Hp}{f:Str}{x:PV}{v:V}(hx:Rep W M H x v):∀{a:OA}{es:OE},vI W M H a es->vI W M H (uE a f x) (VU f v es)
 |[],_,h=>by cases(show _=_ from h);exact⟨v,[],rfl,hx,rfl⟩
 |kx::a,_,h=>by
  obtain⟨u,q,rfl,h1,h2⟩:=h;unfold uE VU;by_cases e:kx.1=f
  .rw[if_pos e,if_pos e,e];exact⟨v,q,rfl,hx,h2⟩
  .rw[if_neg e,if_neg e];exact⟨u,_,rfl,h1,vI.put hx h2⟩
def vI.len(h:vI W M H a es):es.length=a.length:=by have:=a0e List.length (vI.iff.mp h).1;simpa using this
section
variable {X:Cx}{C:LC}{S S' S1 Sb Sc:Od}{e a b o:Oq}{es:Om}{w w1 w2:Bool}{ws:Oh}{m m1 m2:ME}{ms:MA}{t1:MT}{s1 s2:MS}{pos p pos':Pos}{x:Str}{st:OO}{sts stt:OG}{i:Nat}
def gZ(i:Nat)(cs:Od)(f:Str)(m:ME):MS:=λρ=>(m ρ).bind λv=>match ρ[i]? with
 |some (some (.o c fs))=>if c∈cs/\fs.length<1000 then .ok (.nx (ρ.set i (some (.o c (uE fs f v)))))else .wall
 |_=>.wall
def rA(ho:PE X o (mQ i))(hv:EM X C S false e m)(hc:∀c∈cs,Cls X.K (C.W.cls c)/\vF X.K (C.W.cls c) fn)(hi:S[i]?=some 2:=by rfl)(hs:swapsWith e (some (.Attribute o fn pos')) pos.line X.env=pure false:=by rfl):
  SM X C S S Sb Sc (.Assign [.Attribute o fn pos'] e pos) (gZ i cs fn m):=λhK=>by
 obtain⟨tv,b1,b2⟩:=hv hK;refine⟨_,Bh ho b1 hs,λB P H σ ρ R D q=>b2 B P H σ ρ R _ ?_⟩;unfold gZ at q;revert q;cases m ρ with
 |ok y=>
  intro q v H1 sm1 rv;have R1:=R.keep sm1;have q:Zk C B S Sb Sc D (match ρ[i]? with
   |some (some (.o c fs))=>if c∈cs/\fs.length<1000 then .ok (.nx (ρ.set i (some (.o c (uE fs fn y)))))else .wall
   |_=>.wall):=q
  split at q
  .rename_i c fs hx;split at q
   .rename_i hz;obtain⟨hσ,⟨dx,es,hp,rr⟩,hl⟩:=R1.at2 hi hx;refine⟨_,hσ,_,_,dx,es,rfl,hp,(hc c hz.1).1,(hc c hz.1).2,by rw[rr.len];exact hz.2,q P _ σ (R1.wr hi hl hσ (by exact id) ?_)⟩;have f:=Mof.wr (o:=.ins (C.W.cls c) dx (VU fn v es)) R1 hi;exact⟨dx,_,zi,(vI.put rv.rep rr).gen f λ_ m _=>m⟩
   .exact q.elim
  .exact q.elim
 |exc c fs=>exact id
 |wall=>exact id
abbrev MG:=PV->Sto->Option Sto
def LG(C:LC)(S S':Od)(g:TG)(mg:MG):Prop:=∀B P H σ ρ x v,Rel C.W B S P H σ ρ->Rep C.W (Mof B S P) H x v->∀Q:St->Hp->Prop,(∃ρ',mg x ρ=some ρ'/\∀σ',Rel C.W B S' P H σ' ρ'->Q σ' H)->g v σ H Q
def GM(X:Cx)(C:LC)(S S':Od)(tg:Oq)(mg:MG):Prop:=X.K=C.W.K->∃g,PG X tg g/\LG C S S' g mg
def gNm(i:Nat):MG:=λx ρ=>some (ρ.set i (some x))
def QP(hN:X.N.Nodup)(hi:X.N[i]?=some x)(hx:Loc X.env.scope x)(hf:X.fn x=true\/X.env.scope.names.lookup x=some .local:=by first|exact .inl rfl|exact .inr rfl|assumption):GM X C S (S.set i 0) (.Name x pos) (gNm i):=
 λ_=>⟨_,oR hN hi hx hf,λB P H σ ρ x v R r Q ⟨ρ',e,k⟩=>by cases e;exact k _ (R.set r)⟩
abbrev MGs:=List PV->Sto->Option Sto
def LGs(C:LC)(S S':Od)(g:TGs)(mg:MGs):Prop:=∀B P H σ ρ xs vs,Rel C.W B S P H σ ρ->yQ C.W (Mof B S P) H xs vs->∀Q:St->Hp->Prop,(∃ρ',mg xs ρ=some ρ'/\∀σ',Rel C.W B S' P H σ' ρ'->Q σ' H)->g vs σ H Q
def GsM(X:Cx)(C:LC)(S S':Od)(tgs:Om)(mg:MGs):Prop:=X.K=C.W.K->∃g,PGs X tgs g/\LGs C S S' g mg
def cn:MGs:=λxs ρ=>match xs with
 |[]=>some ρ
 |_=>none
def yG(g:MG)(gs:MGs):MGs:=λxs ρ=>match xs with
 |x::r=>(g x ρ).bind λρ'=>gs r ρ'
 |[]=>none
def aZ:GsM X C S S [] cn:=λ_=>⟨_,Cu,λB P H σ ρ xs vs R r Q ⟨ρ',e,k⟩=>by
 cases xs with
 |nil=>cases e;cases(show _=_ from r);exact⟨rfl,k _ R⟩
 |cons x xs=>cases e⟩
def Mof.le{B:Bs}{S S':Od}{P:Ol}(h:∀j:Nat,S'[j]?=some 2->S[j]?=some 2){a:Addr}(m:Mof B S P a):Mof B S' P a:=⟨m.1,λj hj=>m.2 j (h j hj)⟩
def yZ(h1:GM X C S S1 e g)(h2:GsM X C S1 S' es gs)(hS:∀j:Nat,S1[j]?=some 2->S[j]?=some 2)(hs:(assignEach (e::es) X.env).map (·.2)=assign e X.env::(assignEach es X.env).map (·.2):=by rfl):GsM X C S S' (e::es) (yG g gs):=λhK=>by
 obtain⟨t,a1,a2⟩:=h1 hK;obtain⟨u,b1,b2⟩:=h2 hK;refine⟨_,uO a1 b1 hs,λB P H σ ρ xs vs R r Q ⟨ρ',e,k⟩=>?_⟩;cases xs with
 |nil=>cases e
 |cons x xs=>
  obtain⟨v,vr,rfl,rx,rr⟩:=r;have e:(g x ρ).bind (λρ'=>gs xs ρ')=some ρ':=e;cases hg:g x ρ with
  |none=>rw[hg]at e;cases e
  |some ρ1=>rw[hg]at e;exact⟨v,vr,rfl,a2 B P H σ ρ x v R rx _ ⟨ρ1,hg,λσ' R'=>b2 B P H σ' ρ1 xs vr R' (rr.sub λa m _=>Mof.le hS m) Q ⟨ρ',e,k⟩⟩⟩
def gTp(n:Nat)(gs:MGs):MG:=λx ρ=>match x with
 |.t xs=>if xs.length=n then gs xs ρ else none
 |_=>none
def a8(hc:X.calm=true)(h:GsM X C S S' es gs)(hn:(assignEach es X.env).length=n:=by rfl)(hst:(assignEach es X.env).findIdx? (·.1)=none:=by rfl):GM X C S S' (.Tuple es k pos) (gTp n gs):=λhK=>by
 obtain⟨t,a1,a2⟩:=h hK;refine⟨_,Fe hc a1 hn hst,λB P H σ ρ x v R r Q ⟨ρ',e,k⟩=>?_⟩;cases x with
 |t xs=>
  obtain⟨p,vs,rfl,hp,rr⟩:=r;have e:(if xs.length=n then gs xs ρ else none)=some ρ':=e;by_cases hl:xs.length=n
  .rw[if_pos hl]at e;exact⟨p,vs,rfl,hK▸hp,by rw[rr.len];exact hl,a2 B P H σ ρ xs vs R rr Q ⟨ρ',e,k⟩⟩
  .rw[if_neg hl]at e;cases e
 |_=>cases e
def Dp(g:MG)(m:ME):MS:=λρ=>(m ρ).bind λx=>(Yt (g x ρ)).bind λρ'=>.ok (.nx ρ')
def Bz(h:EM X C S false e m)(hg:GM X C S S' tg g)(hs:swapsWithSole [tg] e pos.line X.env=pure false:=by rfl)(hw:swappedStores [tg] e X.env=pure none:=by rfl)(h1:(assignEach [tg] X.env).map (·.2)=[assign tg X.env]:=by rfl):SM X C S S' Sb Sc (.Assign [tg] e pos) (Dp g m):=λhK=>by
 obtain⟨te,a1,a2⟩:=h hK;obtain⟨t,b1,b2⟩:=hg hK;refine⟨_,Bc a1 b1 hs hw h1,λB P H σ ρ R D q=>a2 B P H σ ρ R _ ?_⟩;unfold Dp at q;revert q;cases m ρ with
 |ok x=>
  intro q v H2 s r;have q:Zk C B S' Sb Sc D ((Yt (g x ρ)).bind λρ'=>.ok (.nx ρ')):=q;cases hgx:g x ρ with
  |some ρ1=>rw[hgx]at q;exact b2 B P H2 σ ρ x v (R.keep s) r.rep _ ⟨ρ1,hgx,λσ' R'=>q P H2 σ' R'⟩
  |none=>rw[hgx]at q;exact q.elim
 |exc c fs=>exact id
 |wall=>exact id
def NA(B:Bs)(S:Od)(P:Ol):Addr->Prop:=λa=>¬B.xc a/\∀i,S[i]?=some 2->P i≠a
def Dq(W:RC)(M N:Of)(H2:Hp)(J:It)(xs:Ov):Prop:=∀H',Fr N H2 H'->
 (∀i x,xs[i]?=some x->J.go i H'/\∀v H'',J.yld i H' v H''->zI H' H''/\∀M':Addr->Prop,(∀a,M a->H2 a≠none->M' a)->Rep W M' H'' x v)/\J.stop xs.length H'
abbrev MI:=Sto->Out (List PV)
def NAc(c:Bool)(B:Bs)(S:Od)(P:Ol):Addr->Prop:=if c=true then λ_=>True else NA B S P
def rB(C:LC)(B:Bs)(S:Od)(P:Ol)(c:Bool)(H:Hp)(R:It->Hp->Prop):Out (List PV)->Prop
 |.ok xs=>∀J H2,zI H H2->Dq C.W (Mof B S P) (NAc c B S P) H2 J xs->R J H2
 |.exc c fs=>XPo C B c fs
 |.wall=>False
def LI(C:LC)(S:Od)(c:Bool)(wi:TI)(mi:MI):Prop:=∀B P H σ ρ,Rel C.W B S P H σ ρ->∀R:It->Hp->Prop,rB C B S P c H R (mi ρ)->wi σ H R
def IM(X:Cx)(C:LC)(S:Od)(c:Bool)(tg kX:Oq)(mi:MI):Prop:=X.K=C.W.K->∃wi,PI X tg kX wi/\LI C S c wi mi
def QG(g:MG)(b:MS):List PV->Sto->Out Fw
 |[],ρ=>.ok (.nx ρ)
 |x::xs,ρ=>(Yt (g x ρ)).bind λρ1=>(b ρ1).bind λf=>match f with
  |.nx ρ2=>QG g b xs ρ2
  |.ct ρ2=>QG g b xs ρ2
  |.bk ρ2=>.ok (.nx ρ2)
  |.rt v=>.ok (.rt v)
def VZ(mi:MI)(g:MG)(b:MS):MS:=λρ=>(mi ρ).bind λxs=>QG g b xs ρ
end
open Classical in
def Bs.loop(B:Bs)(S:Od)(P:Ol)(H:Hp)(hz:∀a,B.N0 a->(¬((∃i,S[i]?=some 2/\P i=a)\/B.xc a))/\H a≠none):Bs where
 H0:=λa=>if(∃i,S[i]?=some 2/\P i=a)\/B.xc a then none else H a
 M0:=B.Mt
 N0:=B.N0
 nz:=λa h=>by rw[if_neg (hz a h).1];exact(hz a h).2
 pin:=B.pin
 xc:=B.xc
section
variable {W:RC}{B:Bs}{S S':Od}{P P':Ol}{H H':Hp}{σ σ':St}{ρ ρ':Sto}
def Rel.hz(R:Rel W B S P H σ ρ):∀a,B.N0 a->(¬((∃i,S[i]?=some 2/\P i=a)\/B.xc a))/\H a≠none:=λa h=>by
 have h0:=B.nz a h;refine⟨λz=>z.elim (λ⟨i,hi,e⟩=>h0 (e▸(R.act i hi).1)) (λz=>h0 (R.exc a z).choose_spec.2.2),λz=>?_⟩;cases q:B.H0 a with
 |none=>exact h0 q
 |some o=>rw[R.same a o q]at z;cases z
def Vd(R:Rel W B S P H σ ρ)(h:(B.loop S P H R.hz).H0 a=none):B.H0 a=none:=by
 cases q:B.H0 a with
 |none=>rfl
 |some o=>have n:¬((∃i,S[i]?=some 2/\P i=a)\/B.xc a):=λz=>z.elim (λ⟨i,hi,e⟩=>by rw[<- e,(R.act i hi).1]at q;cases q) (λz=>by rw[(R.exc a z).choose_spec.2.2]at q;cases q);unfold Bs.loop at h;dsimp only at h;rw[if_neg n,R.same a o q]at h;cases h
def XJ(R:Rel W B S P H σ ρ):zI B.H0 (B.loop S P H R.hz).H0:=λa o h=>by have n:¬((∃i,S[i]?=some 2/\P i=a)\/B.xc a):=λz=>z.elim (λ⟨i,hi,e⟩=>by rw[<- e,(R.act i hi).1]at h;cases h) (λz=>by rw[(R.exc a z).choose_spec.2.2]at h;cases h);unfold Bs.loop;dsimp only;rw[if_neg n];exact R.same a o h
def cq(R:Rel W B S P H σ ρ)(h:(B.loop S P H R.hz).Mt a):B.Mt a:=h.elim id λz=>.inr (Vd R z)
def Rel.loop(R:Rel W B S P H σ ρ):Rel W (B.loop S P H R.hz) S P H σ ρ:=by
 have sM:∀a,Mof B S P a->H a≠none->Mof (B.loop S P H R.hz) S P a:=λa m _=>⟨⟨.inl m.1.1,m.1.2⟩,m.2⟩;refine⟨λa o h=>?_,R.len,λi x e=>?_,λi hi=>⟨?_,(R.act i hi).2⟩,R.inj,R.pin,λa h=>?_,R.axc⟩
 .unfold Bs.loop at h;dsimp only at h;split at h
  .cases h
  .exact h
 .obtain⟨v,h1,h2,h3,h4⟩:=R.var i x e;exact⟨v,h1,λz=>⟨(h2 z).1,(h2 z).2.gen rfl Fr.refl sM⟩,λz=>(h3 z).sub (λ_ m _=>m) sM,λz z'=>(h4 z z').sub sM⟩
 .unfold Bs.loop;dsimp only;rw[if_pos (.inl ⟨i,hi,rfl⟩)]
 .obtain⟨o,e,n,_⟩:=R.exc a h;exact⟨o,e,n,by unfold Bs.loop;dsimp only;rw[if_pos (.inr h)]⟩
def Rel.BA(R:Rel W B S P H σ ρ)(R':Rel W (B.loop S P H R.hz) S' P' H' σ' ρ'):Rel W B S' P' H' σ' ρ':=by have sM:∀a,Mof (B.loop S P H R.hz) S' P' a->H' a≠none->Mof B S' P' a:=λa m _=>⟨⟨cq R m.1.1,m.1.2⟩,m.2⟩;refine⟨(XJ R).trans R'.same,R'.len,λi x e=>?_,λi hi=>⟨Vd R (R'.act i hi).1,(R'.act i hi).2⟩,R'.inj,R'.pin,λa h=>let⟨o,e,n⟩:=R'.exc a h;⟨o,e,n.1,Vd R n.2⟩,R'.axc⟩;obtain⟨v,h1,h2,h3,h4⟩:=R'.var i x e;exact⟨v,h1,λz=>⟨(h2 z).1,(h2 z).2.gen rfl Fr.refl sM⟩,λz=>(h3 z).sub (λ_ m _=>m) sM,λz z'=>(h4 z z').sub sM⟩
def Dr(R:Rel W B S P H σ ρ)(s:zI (B.loop S P H R.hz).H0 H'):Fr (NA B S P) H H':=λa o h m=>by
 have n:¬((∃i,S[i]?=some 2/\P i=a)\/B.xc a):=λz=>by
  rcases z with⟨i,hi,e⟩|z
  .rcases m with m|m
   .exact m.2 i hi e
   .obtain⟨_,o0,e0,n0⟩:=R.act i hi;rw[e,h]at e0;cases e0;exact n0 m
  .rcases m with m|m
   .exact m.1 z
   .obtain⟨o0,e0,n0,_⟩:=R.exc a z;rw[h]at e0;cases e0;exact n0 m
 refine s a o ?_;unfold Bs.loop;dsimp only;rw[if_neg n];exact h
def xM(hW:C.W=W)(R:Rel W B S P H σ ρ)(q:XPo C B c fs):XPo C (B.loop S P H R.hz) c fs:=λe dx es H2 s h1 h2 h3=>q e dx es H2 ((XJ R).trans s) h1 h2 (h3.sub λa m _=>cq R m)
def Ds(hW:C.W=W)(R:Rel W B S P H σ ρ)(h:EV C (B.loop S P H R.hz) H' x v):EV C B H' x v:=by
 unfold EV at h ⊢;by_cases f:C.fr=true
 .rw[if_pos f]at h ⊢;obtain⟨p,e,hp,r⟩:=h;exact⟨p,e,Vd R hp,r.gen rfl Fr.refl λa m _=>⟨cq R m.1,m.2⟩⟩
 .rw[if_neg f]at h ⊢;exact h.sub λa m _=>cq R m
end
section
variable {X:Cx}{C:LC}{S S' S1 Sb Sc:Od}{pos:Pos}
def xN(hi:∀R:It->Hp->Prop,rB C B S P false H R (mi ρ)->wi σ H R)(hg:LG C S S1 g mg)(hb:LS C S1 S S S tb mb)(R:Rel C.W B S P H σ ρ)(D:Ends)(q:Zk C B S Sb Sc D (VZ mi mg mb ρ)):Iw wi g tb D σ H:=by
 refine hi _ ?_;unfold VZ at q;revert q;cases mi ρ with
 |exc c fs=>exact id
 |wall=>exact id
 |ok xs=>
  intro q J H2 s2 io;have R2:=R.keep s2;have q:Zk C B S Sb Sc D (QG mg mb xs ρ):=q;refine⟨λi n σ' H'=>n=xs.length-i/\i<=xs.length/\∃ρ' P',Rel C.W (B.loop S P H2 R2.hz) S P' H' σ' ρ'/\Zk C B S Sb Sc D (QG mg mb (xs.drop i) ρ'),⟨_,rfl,T6 _,ρ,P,R2.loop,q⟩,?_⟩
  rintro i n σ' H' ⟨rfl,hle,ρ',P',R',q'⟩
  have io':=io H' (Dr R2 R'.same);by_cases hlt:i<xs.length
  .have hx:xs[i]?=some xs[i]:=P0 hlt;obtain⟨go,yl⟩:=io'.1 i _ hx;refine .inr ⟨go,λσ2 H2'=>i+1<=xs.length/\∃ρ' P',Rel C.W (B.loop S P H2 R2.hz) S P' H2' σ2 ρ'/\Zk C B S Sb Sc D (QG mg mb (xs.drop (i+1)) ρ'),λσ2 H2' h=>⟨xs.length-(i+1),by omega,rfl,h.1,h.2⟩,λv H'' hy=>?_⟩;obtain⟨sy,ry⟩:=yl v H'' hy;have Ry:=R'.keep sy;have rx:=ry (Mof (B.loop S P H2 R2.hz) S P') λa m hn=>⟨⟨.inl m.1.1,m.1.2⟩,λj hj e=>by
    have z:=(R'.act j hj).1;rw[e]at z;unfold Bs.loop at z;dsimp only at z;rw[if_neg (λz=>z.elim (λ⟨k,hk,ek⟩=>m.2 k hk ek) m.1.2)]at z;exact hn z⟩
   rw[a1w hlt]at q';have q':Zk C B S Sb Sc D ((Yt (mg xs[i] ρ')).bind λρ1=>(mb ρ1).bind λf=>match f with
    |.nx ρ2=>QG mg mb (xs.drop (i+1)) ρ2
    |.ct ρ2=>QG mg mb (xs.drop (i+1)) ρ2
    |.bk ρ2=>.ok (.nx ρ2)
    |.rt v=>.ok (.rt v)):=q'
   cases hgx:mg xs[i] ρ' with
   |none=>rw[hgx]at q';exact q'.elim
   |some ρ1=>
    rw[hgx]at q';refine hg _ P' H'' σ' ρ' _ v Ry rx _ ⟨ρ1,hgx,λσ1 R1=>hb _ P' H'' σ1 ρ1 R1 _ ?_⟩;have q':Zk C B S Sb Sc D ((mb ρ1).bind λf=>match f with
     |.nx ρ2=>QG mg mb (xs.drop (i+1)) ρ2
     |.ct ρ2=>QG mg mb (xs.drop (i+1)) ρ2
     |.bk ρ2=>.ok (.nx ρ2)
     |.rt v=>.ok (.rt v)):=q'
    revert q';cases mb ρ1 with
    |exc c fs=>exact λq'=>xM rfl R2 q'
    |wall=>exact id
    |ok f=>
     cases f with
     |nx ρ2=>exact λq' P3 H3 σ3 R3=>⟨hlt,ρ2,P3,R3,q'⟩
     |ct ρ2=>exact λq' P3 H3 σ3 R3=>⟨hlt,ρ2,P3,R3,q'⟩
     |bk ρ2=>exact λq' P3 H3 σ3 R3=>q' P3 H3 σ3 (R2.BA R3)
     |rt x=>exact λq' v H3 s3 h3=>q' v H3 ((XJ R2).trans s3) (Ds rfl R2 h3)
  .have e:i=xs.length:=by omega
   subst e;rw[a2B]at q';exact .inl ⟨io'.2,q' P' H' σ' (R2.BA R')⟩
def Gw(hi:LI C S false wi mi)(hg:LG C S S1 g mg)(hb:LS C S1 S S S tb mb):LS C S S Sb Sc (Iw wi g tb) (VZ mi mg mb):=λB P H σ ρ R D q=>xN (hi B P H σ ρ R) hg hb R D q
def ke(hp:PassesOwn (Ph X) X.A X.env X.xe)(hc:X.calm=true)(hi:IM X C S false tg kX mi)(hg:GM X C S S1 tg mg)(hb:SsM X C S1 S S S body mb)(hs:∀x,foldedSetIterable kX X.env x=pure x:=by intro _;rfl):
  SM X C S S Sb Sc (.For tg kX body [] pos) (VZ mi mg mb):=λhK=>by
 obtain⟨wi,a1,a2⟩:=hi hK;obtain⟨g,b1,b2⟩:=hg hK;obtain⟨tb,c1,c2⟩:=hb hK;exact⟨_,oX hp hc a1 b1 c1 hs,Gw a2 b2 c2⟩
def kf(c:MT)(b:MS):Nat->Sto->Out Fw
 |0,_=>.wall
 |n+1,ρ=>(c ρ).bind λt=>if t=true then(b ρ).bind λf=>match f with
   |.nx ρ2=>kf c b n ρ2
   |.ct ρ2=>kf c b n ρ2
   |.bk ρ2=>.ok (.nx ρ2)
   |.rt v=>.ok (.rt v)
  else .ok (.nx ρ)
open Classical in
def a9(c:MT)(b:MS):MS:=λρ=>if h:∃n,kf c b n ρ≠.wall then kf c b (choose h) ρ else .wall
def xO(hc:LT C S tc c)(hb:LS C S S S S tb b):LS C S S Sb Sc (Bd tc tb) (a9 c b):=λB P H σ ρ R D q=>by
 unfold a9 at q;split at q
 .rename_i h;generalize Classical.choose h=n0 at q;refine⟨λn σ' H'=>∃ρ' P',Rel C.W B S P' H' σ' ρ'/\Zk C B S Sb Sc D (kf c b n ρ'),⟨n0,ρ,P,R,q⟩,?_⟩
  rintro n σ' H' ⟨ρ',P',R',q'⟩
  cases n with
  |zero=>exact q'.elim
  |succ n=>
   refine hc B P' H' σ' ρ' R' _ ?_;unfold kf at q';revert q';cases c ρ' with
   |exc c fs=>exact id
   |wall=>exact id
   |ok k=>
    intro q' H1 s1;cases k with
    |false=>exact CP (q' P' H1 σ' (R'.keep s1))
    |true=>
     refine CQ ⟨λσ2 H2=>∃ρ' P',Rel C.W B S P' H2 σ2 ρ'/\Zk C B S Sb Sc D (kf c b n ρ'),λσ2 H2 h=>⟨n,a0a n,h⟩,hb B P' H1 σ' ρ' (R'.keep s1) _ ?_⟩;have q':Zk C B S Sb Sc D ((b ρ').bind λf=>match f with
      |.nx ρ2=>kf c b n ρ2
      |.ct ρ2=>kf c b n ρ2
      |.bk ρ2=>.ok (.nx ρ2)
      |.rt v=>.ok (.rt v)):=q'
     revert q';cases b ρ' with
     |exc c fs=>exact id
     |wall=>exact id
     |ok f=>
      cases f with
      |nx ρ2=>exact λq' P3 H3 σ3 R3=>⟨ρ2,P3,R3,q'⟩
      |ct ρ2=>exact λq' P3 H3 σ3 R3=>⟨ρ2,P3,R3,q'⟩
      |bk ρ2=>exact λq'=>q'
      |rt x=>exact λq'=>q'
 .exact q.elim
def xP(hp:PassesOwn (Ph X) X.A X.env X.xe)(hc:TM X C S c mc)(hb:SsM X C S S S S body mb):SM X C S S Sb Sc (.While c body [] pos) (a9 mc mb):=λhK=>by obtain⟨tc,a1,a2⟩:=hc hK;obtain⟨tb,c1,c2⟩:=hb hK;exact⟨_,uP hp a1 c1,xO a2 c2⟩
end
def LEn(C:LC)(S:Od)(te:TE)(m:ME):Prop:=∀B P H σ ρ,Rel C.W B S P H σ ρ->∀Q,yp C B H (λH2=>qL C.W (NA B S P) (Mof B S P) H2) Q (m ρ)->te σ H Q
def EN(X:Cx)(C:LC)(S:Od)(e:Oq)(m:ME):Prop:=X.K=C.W.K->∃te,PE X e te/\LEn C S te m
section
variable {X:Cx}{C:LC}{S S' S1 Sb Sc:Od}{e a b o kX tg:Oq}{es:Om}{w w1 w2:Bool}{ws:Oh}{m m1 m2:ME}{ms:MA}{t1:MT}{s1 s2:MS}{pos p pos':Pos}{x:Str}{st:OO}{sts stt:OG}{i:Nat}
def Mof.na{B:Bs}{P:Ol}{a:Addr}(m:Mof B S P a):NA B S P a:=⟨m.1.2,m.2⟩
def EM.en(h:EM X C S false e m):EN X C S e m:=λhK=>by obtain⟨te,a1,a2⟩:=h hK;exact⟨te,a1,λB P H σ ρ R Q q=>a2 B P H σ ρ R Q (K_ q λx v H2 s hr=>qL.sub hr (λa m _=>Mof.na m) λ_ m _=>m)⟩
def Ve(h:PE X e (mQ i))(hS:S[i]?=some 1:=by rfl):EN X C S e (zc i):=λ_=>⟨_,h,λB P H σ ρ R Q q=>lv R q λx v hv e=>by
 obtain⟨v',hv',_,h3,_⟩:=R.var i x e;rw[hv]at hv';cases hv';refine qL.sub (h3 hS) (λa n _=>?_) λ_ m _=>m;have h0:=B.nz a n;exact⟨λz=>h0 (R.exc a z).choose_spec.2.2,λj hj e=>h0 (e▸(R.act j hj).1)⟩⟩
def MX(K:OF)(tl:TE):TI:=λσ H R=>tl σ H λx H1=>(∃a,x=.ref a/\(∃xs,SqL K H1 a xs)/\R (Itl K a) H1)\/∃a,x=.ref a/\(∃xs,SqT K H1 a xs)/\R (Itt K a) H1
def rC(hl:PE X l tl):PI X tg l (MX X.K tl):=by
 intro pins s σ H R I h;refine thn (hl pins s σ H _ I h) λv s1 ⟨x,H1,I1,r1,q1⟩=>?_;rcases q1 with⟨a,e,⟨xs,hq⟩,q⟩|⟨a,e,⟨xs,hq⟩,q⟩
 .subst e;cases r1;obtain⟨its,rv,p,hz⟩:=I1.list hq;refine a2p p.isList ?_;refine⟨s1.heap.objs.size,[s1.heap.objs.size],_,_,H1,rfl,I1.kept (t':=s1.toks) λb o e=>v4 _ e,oU a _,⟨_,P2 _ rfl,rfl,rfl⟩,λb hb=>?_,q⟩;have e:b=s1.heap.objs.size:=by simpa using hb
  subst e;exact I1.EL (O2 _) (I1.hok.fresh (O2 _))
 .subst e;cases r1;obtain⟨its,rv,p,hz⟩:=I1.tuple hq;refine a2d (show s1.heap.IsTuple a its.toArray from p) ?_;refine⟨s1.heap.objs.size,[s1.heap.objs.size],_,_,H1,rfl,I1.kept (t':=s1.toks) λb o e=>v4 _ e,mS a _,⟨_,P2 _ rfl,rfl,rfl⟩,λb hb=>?_,q⟩;have e:b=s1.heap.objs.size:=by simpa using hb
  subst e;exact I1.EL (O2 _) (I1.hok.fresh (O2 _))
def rD{W:RC}{K:OF}{M N:Of}{H2:Hp}{a:Addr}{xs:Ov}{vs:Oi}(hMN:∀a,M a->N a)(h:∀H',Fr N H2 H'->SqL K H' a vs)(r:yQ W M H2 xs vs):Dq W M N H2 (Itl K a) xs:=λH' f=>by refine⟨λi x hx=>?_,vs,h H' f,by rw[r.len];exact O2 _⟩;obtain⟨v,hv,rv⟩:=r.get hx;refine⟨⟨vs,v,h H' f,hv⟩,λv' H'' hy=>?_⟩;obtain⟨rfl,y⟩:=hy;have:=y vs (h _ f);rw[hv]at this;cases this;exact⟨zI.refl _,λM' sM=>Rep.gen (λa o h m=>f a o h (m.imp (hMN a) id)) (λa m n=>sM a m n) rv⟩
def Gx{W:RC}{K:OF}{M N:Of}{H2:Hp}{a:Addr}{xs:Ov}{vs:Oi}(hMN:∀a,M a->N a)(h:∀H',Fr N H2 H'->SqT K H' a vs)(r:yQ W M H2 xs vs):Dq W M N H2 (Itt K a) xs:=λH' f=>by refine⟨λi x hx=>?_,vs,h H' f,by rw[r.len];exact O2 _⟩;obtain⟨v,hv,rv⟩:=r.get hx;refine⟨⟨vs,v,h H' f,hv⟩,λv' H'' hy=>?_⟩;obtain⟨rfl,y⟩:=hy;have:=y vs (h _ f);rw[hv]at this;cases this;exact⟨zI.refl _,λM' sM=>Rep.gen (λa o h m=>f a o h (m.imp (hMN a) id)) (λa m n=>sM a m n) rv⟩
def items:PV->Out (List PV)
 |.l xs=>.ok xs
 |.t xs=>.ok xs
 |.sc ns=>.ok (ns.map PV.i)
 |_=>.wall
def qa(m:ME):MI:=λρ=>(m ρ).bind items
variable {cc:Bool}
def Mof.nac{B:Bs}{P:Ol}{a:Addr}(m:Mof B S P a):NAc cc B S P a:=by
 unfold NAc;cases cc with
 |true=>rw[if_pos rfl];trivial
 |false=>rw[if_neg P5];exact Mof.na m
def rE(hK:X.K=C.W.K)(a2:∀B P H σ ρ,Rel C.W B S P H σ ρ->∀Q,yp C B H (λH2=>qL C.W (NAc cc B S P) (Mof B S P) H2) Q (m ρ)->te σ H Q):LI C S cc (MX X.K te) (qa m):=λB P H σ ρ R Q q=>by
 refine a2 B P H σ ρ R _ ?_;unfold qa at q;revert q;cases m ρ with
 |exc c fs=>exact id
 |wall=>exact id
 |ok y=>
  intro q v H2 s r;cases y with
  |l xs=>obtain⟨p,vs,rfl,n,hp,rr⟩:=r;exact .inl ⟨p,rfl,⟨vs,SqL.of hp⟩,q _ H2 s (rD (λa m=>Mof.nac m) (λH' f=>SqL.of (f _ _ hp (.inl n))) rr)⟩
  |t xs=>obtain⟨p,vs,rfl,hp,rr⟩:=r;rw[<- hK]at hp;exact .inr ⟨p,rfl,⟨vs,hp⟩,q _ H2 s (Gx (λa m=>Mof.nac m) (λH' f=>f.sqT hp) rr)⟩
  |sc ns=>obtain⟨p,rfl,hp⟩:=r;rw[<- hK]at hp;exact .inl ⟨p,rfl,⟨_,hp.sq⟩,q _ H2 s (rD (vs:=ns.map V.int) (λa m=>Mof.nac m) (λH' f=>(hp.frame f).sq) yQ.ints)⟩
  |_=>exact q.elim
def QQ(h:EN X C S e m):IM X C S false tg e (qa m):=λhK=>by obtain⟨te,a1,a2⟩:=h hK;exact⟨_,rC a1,rE hK a2⟩
def cu(h:EM X C S w e m):IM X C S true tg e (qa m):=λhK=>by obtain⟨te,a1,a2⟩:=h hK;exact⟨_,rC a1,rE hK λB P H σ ρ R Q q=>a2 B P H σ ρ R Q (K_ q λx v H2 s r=>r.weak)⟩
def nC(lo:Int)(n:Nat):List PV:=(List.range n).map λk=>.i (lo+(k:Nat))
def Dt{lo:Int}{n i:Nat}{x:PV}(h:(nC lo n)[i]?=some x):i<n/\x=.i (lo+i):=by unfold nC at h;rw[S4]at h;obtain⟨k,hk,rfl⟩:=N8.mp h;rw[P6]at hk;obtain⟨h1,h2⟩:=hk;rw[a0b]at h1;rw[a1z]at h2;subst h2;exact⟨h1,rfl⟩
def Du{lo:Int}{n:Nat}:(nC lo n).length=n:=by unfold nC;rw[u8,a0b]
def Gy{W:RC}{M N:Of}{H2:Hp}{lo:Int}{n:Nat}:Dq W M N H2 (Itr lo n) (nC lo n):=λH' f=>by refine⟨λi x hx=>?_,by rw[Du];exact O2 _⟩;obtain⟨hi,rfl⟩:=Dt hx;refine⟨hi,λv H'' hy=>?_⟩;obtain⟨rfl,rfl⟩:=hy;exact⟨zI.refl _,λ_ _=>rfl⟩
def rF:List PV->Out (List PV)
 |[.i n]=>if -(2 ^ 62)<=n/\n<2 ^ 62 then .ok (nC 0 n.toNat)else .wall
 |_=>.wall
def YI(ms:MA):MI:=λρ=>(ms ρ).bind rF
def KI(hg:Gl X "range")(hm:X.mg "range"=none)(ha:AM X C S ws [a] ms)(hs:starEach [a] X.env=[(false,eval a X.env)]:=by rfl):IM X C S cc tg (.Call (.Name "range" p) [a] [] pos) (YI ms):=λhK=>by
 obtain⟨ta,a1,a2⟩:=ha hK;refine⟨_,oV hg hm a1 hs,λB P H σ ρ R Q q=>a2 B P H σ ρ R _ ?_⟩;unfold YI at q;revert q;cases ms ρ with
 |exc c fs=>exact id
 |wall=>exact id
 |ok xs=>
  intro q vs H2 s r;have r:=r.weak;have q:rB C B S P cc H Q (rF xs):=q;unfold rF at q;split at q
  .split at q
   .rename_i hn;obtain⟨v,r',rfl,hx,hr⟩:=r;cases(show _=_ from hr);cases(show _=_ from hx);exact⟨_,rfl,hn.1,hn.2,q _ H2 s Gy⟩
   .exact q.elim
  .exact q.elim
end
def noX{α:Type}:Out α->Out α
 |.exc _ _=>.wall
 |o=>o
def lcP(g:MG)(c:MT)(e:ME):List PV->Sto->List PV->Out PV
 |[],_,acc=>.ok (.l acc)
 |x::xs,ρ,acc=>(Yt (g x ρ)).bind λρ1=>(noX (c ρ1)).bind λt=>if t=true then(noX (e ρ1)).bind λy=>if acc.length<sizeLine then lcP g c e xs ρ1 (acc++[y])else .wall else lcP g c e xs ρ1 acc
def g6(ρ:Sto)(fr:Ow):Sto:=fr.map λo=>match o with|none=>none|some j=>(ρ[j]?).join
def mLC(mi:MI)(fr:Ow)(g:MG)(c:MT)(e:ME):ME:=λρ=>(mi ρ).bind λxs=>lcP g c e xs (g6 ρ fr) []
def BB:MT:=λ_=>.ok true
def inS(S:Od)(fr:Ow):List Nat:=fr.map λo=>match o with|none=>0|some j=>if S[j]?=some 2\/S[j]?=some 1 then 1 else 0
def lcB(B:Bs)(S:Od)(P:Ol)(H:Hp)(acc:Addr):Bs:=⟨H,Mof B S P,λa=>H a≠none,λ_ h=>h,none,λa=>a=acc⟩
def rG{S:Od}{fr:Ow}{k c:Nat}(h:(inS S fr)[k]?=some c):c≠2:=by
 unfold inS at h;rw[S4]at h;obtain⟨o,ho,e⟩:=N8.mp h;intro z;rw[z]at e;cases o with
 |none=>cases e
 |some j=>dsimp only at e;split at e<;>cases e
section
variable {X:Cx}{C:LC}{S S' S1 Sb Sc:Od}{e a b o kX tg elt:Oq}{es ifs:Om}{w w1 w2:Bool}{ws:Oh}{m m1 m2 me:ME}{ms:MA}{t1 mc:MT}{mg:MG}{mi:MI}{s1 s2:MS}{pos p pos':Pos}{x:Str}{st:OO}{sts stt:OG}{i:Nat}{scope:Scope}
def Rel.comp{W:RC}{B:Bs}{P:Ol}{H H':Hp}{σ:St}{ρ:Sto}{acc:Addr}{fr:Ow}{ys:Oi}(R:Rel W B S P H σ ρ)(ha:H acc=none)(s:zI H H')(hy:H' acc=some (.lst ys)):Rel W (lcB B S P H acc) (inS S fr) (λ_=>0) H' (uD σ fr) (g6 ρ fr):=by
 have n2:∀{k:Nat},(inS S fr)[k]?=some 2->False:=λ{k} h=>rG h rfl;have sM:∀a,Mof B S P a->H a≠none->Mof (lcB B S P H acc) (inS S fr) (λ_=>0) a:=λa m n=>⟨⟨.inl m,λz=>n ((show a=acc from z)▸ha)⟩,λi hi=>(n2 hi).elim⟩;refine⟨s,by unfold uD g6;rw[u8,u8],λk x e=>?_,λi hi=>(n2 hi).elim,λi j hi=>(n2 hi).elim,λhi=>(n2 hi).elim,λa h=>?_,λi hi=>(n2 hi).elim⟩
 .unfold g6 at e;rw[S4]at e;obtain⟨o,ho,e⟩:=N8.mp e;cases o with
  |none=>cases e
  |some j=>
   have e:(ρ[j]?).join=some x:=e;have hj:ρ[j]?=some (some x):=by
    cases q:ρ[j]? with
    |none=>rw[q]at e;cases e
    |some z=>rw[q]at e;cases z with
     |none=>cases e
     |some z=>cases e;rfl
   obtain⟨v,hv,h2,h3,h4⟩:=R.var j x hj;have hS:(inS S fr)[k]?=some (if S[j]?=some 2\/S[j]?=some 1 then 1 else 0):=by unfold inS;rw[S4,ho];rfl
   refine⟨v,by unfold uD;rw[S4,ho];show some ((σ[j]?).join)=_;rw[hv];rfl,λz=>(n2 z).elim,λz=>?_,λz z'=>?_⟩
   .rw[hS]at z;by_cases c2:S[j]?=some 2
    .obtain⟨rfl,ra⟩:=h2 c2;obtain⟨_,o,eo,_⟩:=R.act j c2;exact((ra.Iz (N:=λa=>H a≠none) (by rw[eo];intro z;cases z)).sub (λ_ m _=>m) sM).same s
    .by_cases c1:S[j]?=some 1
     .exact((h3 c1).sub (λa n q=>(R.hz a n).2) sM).same s
     .rw[if_neg (by rintro(q|q);exact c2 q;exact c1 q)]at z;cases z
   .rw[hS]at z';by_cases c:S[j]?=some 2\/S[j]?=some 1
    .rw[if_pos c]at z';exact absurd rfl z'
    .exact((h4 (λq=>c (.inl q)) (λq=>c (.inr q))).sub sM).same s
 .cases(show a=acc from h);exact⟨_,hy,id,ha⟩
def TsM(X:Cx)(C:LC)(S:Od)(ifs:Om)(m:MT):Prop:=X.K=C.W.K->∃tt,PTs X ifs tt/\LT C S tt m
def eD:TsM X C S [] BB:=λ_=>⟨_,CW,λB P H σ ρ R Q q=>q H (zI.refl _)⟩
def Gz(h:TM X C S c t1):TsM X C S [c] t1:=λhK=>let⟨tt,a1,a2⟩:=h hK;⟨tt,CY a1,a2⟩
def rH{ι:Type}{Y:ι->Cx}(h:∀z,EM (Y z) C S w e m)(hK:∀z,(Y z).K=C.W.K):∃te,(∀z,PE (Y z) e te)/\LE C S w te m:=
 ⟨λσ H Q=>∀z,(Classical.choose (h z (hK z))) σ H Q,λz pins s σ H Q I q=>(T7 (h z (hK z))).1 pins s σ H Q I (q z),λB P H σ ρ R Q q z=>(T7 (h z (hK z))).2 B P H σ ρ R Q q⟩
def rJ{ι:Type}{Y:ι->Cx}(h:∀z,TsM (Y z) C S ifs mc)(hK:∀z,(Y z).K=C.W.K):∃te,(∀z,PTs (Y z) ifs te)/\LT C S te mc:=
 ⟨λσ H Q=>∀z,(Classical.choose (h z (hK z))) σ H Q,λz pins s σ H Q I q=>(T7 (h z (hK z))).1 pins s σ H Q I (q z),λB P H σ ρ R Q q z=>(T7 (h z (hK z))).2 B P H σ ρ R Q q⟩
def rK{ι:Type}{Y:ι->Cx}(h:∀z,GM (Y z) C S S1 tg mg)(hK:∀z,(Y z).K=C.W.K):∃g,(∀z,PG (Y z) tg g)/\LG C S S1 g mg:=
 ⟨λv σ H Q=>∀z,(Classical.choose (h z (hK z))) v σ H Q,λz pins s σ H v u Q I r q=>(T7 (h z (hK z))).1 pins s σ H v u Q I r (q z),λB P H σ ρ x v R r Q q z=>(T7 (h z (hK z))).2 B P H σ ρ x v R r Q q⟩
def Dv{wi:TI}{g:TG}{tc:TT}{te:TE}{fr:Ow}{Si:Od}{W:RC}{B:Bs}{P:Ol}{H:Hp}{σ:St}{ρ:Sto}(hi:∀R:It->Hp->Prop,rB C B S P true H R (mi ρ)->wi σ H R)(hW:W=C.W)(hS:Si=inS S fr)(hg:LG ⟨W,E0,false⟩ Si Si g mg)(ht:LT ⟨W,E0,false⟩ Si tc mc)(he:LE ⟨W,E0,false⟩ Si false te me)(R:Rel C.W B S P H σ ρ)(Q:VK)(q:yp C B H (RFr C.W (Mof B S P) H) Q (mLC mi fr mg mc me ρ)):tLC wi g tc te fr σ H Q:=by
 subst hW hS;refine hi _ ?_;unfold mLC at q;revert q;cases mi ρ with
 |exc c fs=>exact id
 |wall=>exact id
 |ok xs=>
  intro q J H1 s1 io acc ha;have R1:=R.keep s1;have q:yp C B H (RFr C.W (Mof B S P) H) Q (lcP mg mc me xs (g6 ρ fr) []):=q;have sM:∀a,Mof (lcB B S P H1 acc) (inS S fr) (λ_=>0) a->Mof B S P a/\a≠acc:=λa m=>⟨m.1.1.elim id λn=>R1.new a n,m.1.2⟩;refine⟨λi n σ' H'=>n=xs.length-i/\i<=xs.length/\∃ρ' ys vs,Rel C.W (lcB B S P H1 acc) (inS S fr) (λ_=>0) H' σ' ρ'/\H' acc=some (.lst vs)/\yQ C.W (Mof (lcB B S P H1 acc) (inS S fr) (λ_=>0)) H' ys vs/\yp C B H (RFr C.W (Mof B S P) H) Q (lcP mg mc me (xs.drop i) ρ' ys),
   ⟨_,rfl,T6 _,g6 ρ fr,[],[],R1.comp ha (zI.upd ha) zi,zi,rfl,q⟩,?_⟩
  rintro i n σ' H' ⟨rfl,hle,ρ',ys,vs,R',hacc,rys,q'⟩
  have io':=io H' (zI.fr R'.same);by_cases hlt:i<xs.length
  .have hx:xs[i]?=some xs[i]:=P0 hlt;obtain⟨go,yl⟩:=io'.1 i _ hx;refine .inr ⟨go,λσ2 H2'=>i+1<=xs.length/\∃ρ' ys vs,Rel C.W (lcB B S P H1 acc) (inS S fr) (λ_=>0) H2' σ2 ρ'/\H2' acc=some (.lst vs)/\yQ C.W (Mof (lcB B S P H1 acc) (inS S fr) (λ_=>0)) H2' ys vs/\yp C B H (RFr C.W (Mof B S P) H) Q (lcP mg mc me (xs.drop (i+1)) ρ' ys),λσ2 H2' h=>⟨xs.length-(i+1),by omega,rfl,h.1,h.2⟩,λv H'' hy=>?_⟩;obtain⟨sy,ry⟩:=yl v H'' hy;have Ry:=R'.keep sy;have rx:=ry (Mof (lcB B S P H1 acc) (inS S fr) (λ_=>0)) λa m hn=>⟨⟨.inl m,λz=>hn ((show a=acc from z)▸ha)⟩,λj hj=>(rG hj rfl).elim⟩;rw[a1w hlt]at q';unfold lcP at q';cases hgx:mg xs[i] ρ' with
   |none=>rw[hgx]at q';exact q'.elim
   |some ρ1=>
    rw[hgx]at q';refine hg _ _ H'' σ' ρ' _ v Ry rx _ ⟨ρ1,hgx,λσ1 R1'=>ht _ _ H'' σ1 ρ1 R1' _ ?_⟩;have q':yp C B H (RFr C.W (Mof B S P) H) Q ((noX (mc ρ1)).bind λt=>if t=true then(noX (me ρ1)).bind λy=>if ys.length<sizeLine then lcP mg mc me (xs.drop (i+1)) ρ1 (ys++[y])else .wall else lcP mg mc me (xs.drop (i+1)) ρ1 ys):=q';revert q';cases mc ρ1 with
    |exc c fs=>exact λq'=>q'.elim
    |wall=>exact id
    |ok t=>
     intro q' H5 s5;have R5:=R1'.keep s5;have hacc5:=s5 _ _ (sy _ _ hacc);have rys5:=(rys.same sy).same s5;cases t with
     |false=>exact CP ⟨hlt,ρ1,ys,vs,R5,hacc5,rys5,q'⟩
     |true=>
      refine CQ (he _ _ H5 σ1 ρ1 R5 _ ?_);have q':yp C B H (RFr C.W (Mof B S P) H) Q ((noX (me ρ1)).bind λy=>if ys.length<sizeLine then lcP mg mc me (xs.drop (i+1)) ρ1 (ys++[y])else .wall):=q';revert q';cases me ρ1 with
      |exc c fs=>exact λq'=>q'.elim
      |wall=>exact id
      |ok y=>
       intro q' v6 H6 s6 r6;have q':yp C B H (RFr C.W (Mof B S P) H) Q (if ys.length<sizeLine then lcP mg mc me (xs.drop (i+1)) ρ1 (ys++[y])else .wall):=q';split at q'
       .rename_i hz;have R6:=R5.keep s6;have fr6:Fr (Mof (lcB B S P H1 acc) (inS S fr) (λ_=>0)) H6 (upd H6 acc (.lst (vs++[v6]))):=λa o h m=>by
         have:a≠acc:=λz=>by
          rcases m with m|m
          .exact m.1.2 z
          .rw[z,s6 _ _ hacc5]at h;cases h;exact m
         rw[zg this];exact h
        exact⟨vs,s6 _ _ hacc5,by rw[rys5.len];exact hz,hlt,ρ1,ys++[y],vs++[v6],R6.wrx (show(lcB B S P H1 acc).xc acc from rfl) (by exact id),zi,((rys5.same s6).append (.cons r6.rep .nil)).gen fr6 λ_ m _=>m,q'⟩
       .exact q'.elim
  .have e:i=xs.length:=by omega
   subst e;rw[a2B]at q';exact .inl ⟨io'.2,q' _ H' (s1.trans R'.same) ⟨acc,rfl,zI.none s1 ha,vs,hacc,rys.sub λa m _=>sM a m⟩⟩
def GA{wi:TI}{g:TG}{tc:TT}{te:TE}{fr:Ow}{Si:Od}{W:RC}(hi:LI C S true wi mi)(hW:W=C.W)(hS:Si=inS S fr)(hg:LG ⟨W,E0,false⟩ Si Si g mg)(ht:LT ⟨W,E0,false⟩ Si tc mc)(he:LE ⟨W,E0,false⟩ Si false te me):LFr C S (tLC wi g tc te fr) (mLC mi fr mg mc me):=λB P H σ ρ R Q q=>Dv (hi B P H σ ρ R) hW hS hg ht he R Q q
abbrev CI:=List Addr×List (Addr×Obj)×Shared×Hp×Addr
abbrev cxI(X:Cx)(scope:Scope)(N:Ob)(z:CI):Cx:=qY X scope N z.1 z.2.1 z.2.2.1 z.2.2.2.1 z.2.2.2.2
def rL(N:Ob)(fr:Ow)(Si:Od)(hc:X.calm=true)(hok:xo X scope N fr=true)(hi:IM X C S true tg kX mi)(hg:∀z:CI,GM (cxI X scope N z) ⟨C.W,E0,false⟩ Si Si tg mg)(ht:∀z:CI,TsM (cxI X scope N z) ⟨C.W,E0,false⟩ Si ifs mc)(he:∀z:CI,EM (cxI X scope N z) ⟨C.W,E0,false⟩ Si false elt me)(hS:Si=inS S fr:=by rfl)
  (hs:∀x,foldedSetIterable kX X.env x=pure x:=by intro _;rfl):FM X C S (.ListComp elt [⟨tg,kX,ifs,0⟩] scope pos) (mLC mi fr mg mc me):=λhK=>by
 obtain⟨wi,a1,a2⟩:=hi hK;obtain⟨g,b1,b2⟩:=rK hg λ_=>hK;obtain⟨tc,c1,c2⟩:=rJ ht λ_=>hK;obtain⟨te,d1,d2⟩:=rH he λ_=>hK;exact⟨_,LF N fr hc hok a1 (λfp pn s H L=>b1 ⟨fp,pn,s,H,L⟩) (λfp pn s H L=>c1 ⟨fp,pn,s,H,L⟩) (λfp pn s H L=>d1 ⟨fp,pn,s,H,L⟩) hs,GA a2 rfl hS b2 c2 d2⟩
variable {y:Str}{uC py:Pos}
def LU(N:Ob)(fr:Ow)(Si:Od)(hN:X.N.Nodup)(hy:X.N[i]?=some y)(hl:X.env.scope.names.lookup y=some .local)(hc:X.calm=true)(hok:xo X scope N fr=true)(hi:IM X C S true tg kX mi)(hg:∀z:CI,GM (cxI X scope N z) ⟨C.W,E0,false⟩ Si Si tg mg)(ht:∀z:CI,TsM (cxI X scope N z) ⟨C.W,E0,false⟩ Si ifs mc)(he:∀z:CI,EM (cxI X scope N z) ⟨C.W,E0,false⟩ Si false elt me)(hS:Si=inS S fr:=by rfl)
  (hsw:swapsWith (.ListComp elt [⟨tg,kX,ifs,0⟩] scope pos) (some (.Name y py)) uC.line X.env=pure true:=by rfl) (hs:∀x,foldedSetIterable kX X.env x=pure x:=by intro _;rfl):SM X C S (S.set i 0) Sb Sc (.Assign [.Name y py] (.ListComp elt [⟨tg,kX,ifs,0⟩] scope pos) uC) (y8 i (mLC mi fr mg mc me)):=λhK=>by
 obtain⟨wi,a1,a2⟩:=hi hK;obtain⟨g,b1,b2⟩:=rK hg λ_=>hK;obtain⟨tc,c1,c2⟩:=rJ ht λ_=>hK;obtain⟨te,d1,d2⟩:=rH he λ_=>hK;refine⟨_,LH N fr hN hy hl hc hok a1 (λfp pn s H L=>b1 ⟨fp,pn,s,H,L⟩) (λfp pn s H L=>c1 ⟨fp,pn,s,H,L⟩) (λfp pn s H L=>d1 ⟨fp,pn,s,H,L⟩) hsw hs,Bx λB P H σ ρ R Q q=>GA a2 rfl hS b2 c2 d2 B P H σ ρ R Q (K_ q λx v H2 s hr=>RV.of (hr.rep R.new))⟩
end
def QH(fr:Bool)(n:Nat)(ms:MS)(xs:Ov):Out PV:=match ms (xs.map some++List.replicate (n-xs.length) none)with
 |.ok (.nx _)=>if fr=true then .wall else .ok .n
 |.ok (.rt x)=>.ok x
 |.ok (.bk _)=>.wall
 |.ok (.ct _)=>.wall
 |.exc c fs=>.exc c fs
 |.wall=>.wall
def KJ(ws:Oh)(n:Nat):List Nat:=ws.map (λw=>if w=true then 1 else 0)++List.replicate (n-ws.length) 0
def eE{ws:Oh}{n k:Nat}:(KJ ws n)[k]?≠some 2:=by
 unfold KJ;rw[a11];split
 .rw[S4];intro h;obtain⟨w,_,e⟩:=N8.mp h;split at e<;>cases e
 .rw[a0J];intro h;split at h<;>cases h
def j_.get{W:RC}{M:Of}{H:Hp}:∀{ws:Oh}{xs:Ov}{vs:Oi}{k:Nat}{x:PV},j_ W M H ws xs vs->xs[k]?=some x->∃v w,vs[k]?=some v/\ws[k]?=some w/\qL W (if w=true then λ_=>True else M) M H x v
 |[],_,_,_,_,⟨e1,e2⟩,h=>by subst e1;simp at h
 |w::ws,_,_,0,x,⟨y,v,xr,vr,e1,e2,h1,h2⟩,h=>by subst e1;subst e2;simp at h;subst h;exact⟨v,w,rfl,rfl,h1⟩
 |w::ws,_,_,k+1,x,⟨y,v,xr,vr,e1,e2,h1,h2⟩,h=>by subst e1;subst e2;simp only[List.getElem?_cons_succ]at h ⊢;exact j_.get h2 h
def eF{xs:Ov}{n k:Nat}{x:PV}(h:(xs.map some++List.replicate (n-xs.length) none)[k]?=some (some x)):xs[k]?=some x:=by
 rw[a11]at h;split at h
 .rw[S4]at h;obtain⟨y,hy,e⟩:=N8.mp h;cases e;exact hy
 .rw[a0J]at h;split at h<;>cases h
def uF(H:Hp)(M:Of):Bs:=⟨H,M,λa=>H a≠none,λ_ h=>h,none,λ_=>False⟩
def eG(h:j_ W M H ws xs vs)(hn:ws.length<=N.length):Rel W (uF H M) (KJ ws N.length) (λ_=>0) H (start N vs) (xs.map some++List.replicate (N.length-xs.length) none):=by
 have n2:∀{k:Nat},(KJ ws N.length)[k]?=some 2->False:=λ{k} h=>eE h;have sM:∀a,M a->H a≠none->Mof (uF H M) (KJ ws N.length) (λ_=>0) a:=λa m _=>⟨⟨.inl m,id⟩,λi hi=>(n2 hi).elim⟩;obtain⟨l1,l2⟩:=h.len;refine⟨zI.refl _,?_,λk x e=>?_,λi hi=>(n2 hi).elim,λi j hi=>(n2 hi).elim,λhi=>(n2 hi).elim,λa h=>h.elim,λi hi=>(n2 hi).elim⟩
 .unfold start;rw[O9,O9,u8,u8,a0V,a0V,l1,l2]
 .obtain⟨v,w,hv,hw,r⟩:=h.get (eF e);have hk:k<vs.length:=(P6.mp hv).1;have hS:(KJ ws N.length)[k]?=some (if w=true then 1 else 0):=by unfold KJ;rw[a0h (by rw[u8,<- l1];exact hk),S4,hw];rfl
  refine⟨v,?_,λz=>(n2 z).elim,λz=>?_,λ_ z=>?_⟩
  .unfold L2.start;rw[a0h (by rw[u8];exact hk),S4,hv];rfl
  .rw[hS]at z;refine qL.sub r (λa _ n=>n) sM
  .rw[hS]at z;cases w with
   |true=>exact absurd rfl z
   |false=>exact(qL.iff.mp r).sub sM
section
variable {P:Ot}{w:Ox}{K:OF}{mg:N_}{base:Heap}
def ym{x qual:Str}{st:OO}{f:Addr}{fd:OC}{N ps:Ob}{k n:Nat}{W:RC}{fr:Bool}{ws:Oh}{ms:MS}{S' Sb Sc:Od}(F:Fun K x qual st f fd)(S:zE N ps (zh st))(hW:K=W.K)(hl:ws.length=ps.length)(hN:N.length=n)(hn:ws.length<=n)
  (h:∀(cdv:Value)(A:Oy)(outer:List Env)(s:Oe)(H:Hp)(E:XK),kY k (A.deeper (envOfC qual (zh st) s.heap.objs.size f cdv))->SsM (thr (aU (CXe P w) P w K mg base N qual (zh st) f cdv A outer s H E) E) ⟨W,E,fr⟩ (KJ ws n) S' Sb Sc (vV st) ms):
  qO P w K mg base (CXe P w) (k+1) f fd ps (lsp W fr ws (QH fr n ms)):=by
 subst hN;refine F.okX S (p9 hl) λcdv A outer s H vs Q E hr ⟨M,xs,ha,q⟩=>?_;obtain⟨ts,t1,t2⟩:=h cdv A outer s H E hr hW;refine⟨ts,t1,t2 (uF H M) _ H _ _ (eG ha hn) _ ?_⟩;unfold QH at q;revert q;cases ms (xs.map some++List.replicate (N.length-xs.length) none)with
 |exc c fs=>exact λq e dx es H2 s h1 h2 h3=>q e dx es H2 s h1 h2 h3
 |wall=>exact id
 |ok fl=>
  cases fl with
  |nx ρ'=>
   intro q P' H' σ' R';cases fr with
   |true=>exact q.elim
   |false=>exact q .non H' R'.same rfl
  |rt y=>exact λq v H' s r=>q v H' s r
  |bk ρ'=>exact λq=>q.elim
  |ct ρ'=>exact λq=>q.elim
def LV(c:Nat)(n:Nat)(ms:MS)(xs:Ov):Out PV:=match ms (some (.o c [])::(xs.map some++List.replicate (n-xs.length) none))with
 |.ok (.nx ρ)=>match ρ[0]? with
  |some (some x)=>.ok x
  |_=>.wall
 |.ok (.rt _)=>.wall
 |.ok (.bk _)=>.wall
 |.ok (.ct _)=>.wall
 |.exc c fs=>.exc c fs
 |.wall=>.wall
def bsI(H:Hp)(M:Of)(x:Addr):Bs:=⟨erase H x,M,λa=>erase H x a≠none,λ_ h=>h,some x,λ_=>False⟩
def JA:zI (erase H x) H:=λa o h=>by
 unfold erase at h;split at h
 .cases h
 .exact h
def nD(h:j_ W M (erase H x) ws xs vs)(hx:H x=some (.ins (W.cls c) dx []))(hN:N.length=n+1)(hn:ws.length<=n):
  Rel W (bsI H M x) (2::KJ ws n) (λ_=>x) H (start N (.ref x::vs)) (some (.o c [])::(xs.map some++List.replicate (n-xs.length) none)):=by
 have e0:erase H x x=none:=by unfold erase;rw[if_pos rfl]
 have n2:∀{k:Nat},(2::KJ ws n)[k]?=some 2->k=0:=λ{k} h=>by
  cases k with
  |zero=>rfl
  |succ k=>rw[T2]at h;exact(eE h).elim
 have sM:∀a,M a->erase H x a≠none->Mof (bsI H M x) (2::KJ ws n) (λ_=>x) a:=λa m z=>⟨⟨.inl m,id⟩,λi hi q=>z (q▸e0)⟩;obtain⟨l1,l2⟩:=h.len;refine⟨JA,?_,λk y e=>?_,λi hi=>⟨e0,_,hx,id⟩,λi j hi hj _=>(n2 hi).trans (n2 hj).symm,λhi p hp=>(T4 hp),λa h=>h.elim,λi hi=>id⟩
 .unfold L2.start;simp only[List.length_cons,List.length_append,List.length_map,List.length_replicate,l1,l2,hN];omega
 .cases k with
  |zero=>cases e;exact⟨.ref x,rfl,λ_=>⟨rfl,dx,[],hx,rfl⟩,(λz=>by cases z),λz=>absurd rfl z⟩
  |succ k=>
   rw[T2]at e;obtain⟨v,w,hv,hw,r⟩:=h.get (eF e);have hk:k<vs.length:=(P6.mp hv).1;have hS:(2::KJ ws n)[k+1]?=some (if w=true then 1 else 0):=by rw[T2];unfold KJ;rw[a0h (by rw[u8,<- l1];exact hk),S4,hw];rfl
   have r2:qL W (if w=true then λ_=>True else M) M H y v:=qL.same r JA;refine⟨v,?_,(λz=>by cases(n2 z)),λz=>?_,λ_ z=>?_⟩
   .unfold L2.start;rw[O8,List.cons_append,T2,a0h (by rw[u8];exact hk),S4,hv];rfl
   .exact qL.same (qL.sub r (λa _ n=>n) sM) JA
   .rw[hS]at z;cases w with
    |true=>exact absurd rfl z
    |false=>exact Rep.same ((qL.iff.mp r).sub sM) JA
def rM{x qual:Str}{st:OO}{f:Addr}{fd:OC}{N ps:Ob}{k n c:Nat}{W:RC}{ws:Oh}{ms:MS}{S' Sb Sc:Od}(F:Fun K x qual st f fd)(S:zE N ps (zh st))(hW:K=W.K)(hl:ws.length+1=ps.length)(hN:N.length=n+1)(hn:ws.length<=n)(h2:S'[0]?=some 2)
  (h:∀(cdv:Value)(A:Oy)(outer:List Env)(s:Oe)(H:Hp)(E:XK),kY k (A.deeper (envOfC qual (zh st) s.heap.objs.size f cdv))->SsM (thr (aU (CXe P w) P w K mg base N qual (zh st) f cdv A outer s H E) E) ⟨W,E,false⟩ (2::KJ ws n) S' Sb Sc (vV st) ms):
  qO P w K mg base (CXe P w) (k+1) f fd ps (IG W c ws (LV c n ms)):=by
 refine F.okX S (xI hl) λcdv A outer s H vs Q E hr ⟨M,x,dx,xs,avs,e,hx,ha,q⟩=>?_;subst e;obtain⟨ts,t1,t2⟩:=h cdv A outer s H E hr hW;refine⟨ts,t1,t2 (bsI H M x) _ H _ _ (nD ha hx hN hn) _ ?_⟩;unfold LV at q;revert q;cases ms (some (.o c [])::(xs.map some++List.replicate (n-xs.length) none))with
 |exc c fs=>exact λq e dx es H2 s h1 h2 h3=>q e dx es H2 s h1 h2 h3
 |wall=>exact id
 |ok fl=>
  cases fl with
  |nx ρ'=>
   intro q P' H' σ' R';have q:MW W M H x Q E (match ρ'[0]? with|some (some x)=>.ok x|_=>.wall):=q;split at q
   .rename_i y hy;obtain⟨_,ra,_⟩:=R'.at2 h2 hy;have e:=R'.pin h2 x rfl;rw[e]at ra;exact q H' R'.same (ra.gen rfl Fr.refl λa m _=>⟨m.1.1,λz=>m.2 0 h2 (e.trans z.symm)⟩)
   .exact q.elim
  |rt y=>exact λq=>q.elim
  |bk ρ'=>exact λq=>q.elim
  |ct ρ'=>exact λq=>q.elim
end
def xQ(C:Addr)(fs:Ob):Sp:=λvs H Q _=>∃e us,vs=.ref e::us/\us.length=fs.length/\H e=some (XO e C none .none)/\∀dx,H dx=none->Q .non (upd (upd H dx (XD dx (fs.zip us))) e (XO e C (some dx) .none))
def vX(c:Nat)(fns:Ob)(ms:MA):MS:=λρ=>(ms ρ).bind λxs=>if xs.length=fns.length/\xs.length<=1000 then .exc c (fns.zip xs)else .wall
def vI.zip{W:RC}{M:Of}{H:Hp}:∀{fns:Ob}{xs:Ov}{vs:Oi},yQ W M H xs vs->xs.length=fns.length->vI W M H (fns.zip xs) (fns.zip vs)
 |[],[],_,h,_=>by cases(show _=_ from h);rfl
 |f::fns,x::xs,_,h,e=>by obtain⟨v,r,rfl,h1,h2⟩:=h;exact⟨v,_,rfl,h1,vI.zip h2 (by simpa using e)⟩
 |[],_::_,_,_,e=>by cases e
 |_::_,[],_,_,e=>by cases e
def vJ(hh:X.calm=true)(M:XMk X.K (C.W.cls c) f)(xc:JN X.K (C.W.cls c))(F:qO X.prog X.w X.K X.mg X.base (CXe X.prog X.w) k f fd ps (xQ (C.W.cls c) fns))(hr:kY (k+1) X.A)(hg:Gl X x)(hm:X.mg x=some (.ref (C.W.cls c)))(hb:Binds X.K fd ps [])
  (ha:AM (thr X C.E) C S ws (e::es) ms) (hw:ws.all (!·)=true:=by rfl) (hdb:(x==("__debug__":Str))=false:=by decide) (he:starEach (e::es) X.env=(false,eval e X.env)::starEach es X.env:=by rfl) (hpl:(backTo Zi (starEach es X.env)).any (·.1)=false:=by rfl):
  SM (thr X C.E) C S S' Sb Sc (.Raise (some (.Call (.Name x p) (e::es) [] Zi)) none pos) (vX c fns ms):=λhK=>by
 obtain⟨ta,a1,a2⟩:=ha hK;refine⟨_,xj hh (xi (X:=thr X C.E) M F hr hg hm hb yx a1 hdb he hpl),λB P H σ ρ R D q=>?_⟩;show ta σ H _;refine a2 B P H σ ρ R _ ?_;unfold vX at q;revert q;cases ms ρ with
 |exc c fs=>exact id
 |wall=>exact id
 |ok xs=>
  intro q vs H1 s1 r1;have rs:=r1.Ga hw;have q:Zk C B S' Sb Sc D (if xs.length=fns.length/\xs.length<=1000 then .exc c (fns.zip xs)else .wall):=q;split at q
  .rename_i hz;refine⟨by rw[rs.len];exact hz.2,λy hy=>⟨y,vs,rfl,by rw[rs.len];exact hz.1,zi,λdx hdx=>⟨rfl,y,_,dx,rfl,hK▸xc,zi,?_⟩⟩⟩;have ne:dx≠y:=λz=>by rw[z,zi]at hdx;cases hdx
   rw[zg ne]at hdx;rw[YE];have sm:zI H1 (upd (upd (upd H1 y (XO y (C.W.cls c) none .none)) dx (XD dx (fns.zip vs))) y (XC y (C.W.cls c) dx)):=λb q hb=>by rw[zg (zZ hb hy),zg (zZ hb hdx),zg (zZ hb hy)];exact hb
   exact q y dx (fns.zip vs) _ (R.same.trans (s1.trans sm)) zi (by rw[zg ne,zi]) ((vI.zip rs hz.1).gen sm.fr λa m _=>m.1.1)
  .exact q.elim
def qQ{S:Od}{i:Nat}:∀j:Nat,(S.set i 0)[j]?=some 2->S[j]?=some 2:=λ_ h=>(qy (c:=0) h).1
def xR:PV->PV->Out PV
 |.l a,.l b=>if a.length+b.length<=sizeLine then .ok (.l (a++b))else .wall
 |_,_=>.wall
section
variable {X:Cx}{C:LC}{S:Od}{e a b:Oq}{w w1 w2:Bool}{m m1 m2:ME}{pos:Pos}
def GB(h1:EM X C S w1 a m1)(h2:EM X C S w2 b m2):FM X C S (.BinOp a .Add b pos) (mOp xR m1 m2):=λhK=>by
 obtain⟨ta,a1,a2⟩:=h1 hK;obtain⟨tb,b1,b2⟩:=h2 hK;refine⟨_,Fg Bl a1 b1,λB P H σ ρ R Q q=>a2 B P H σ ρ R _ (KD q λx v H1 s1 r1 q1=>b2 B P H1 σ ρ (R.keep s1) _ (KD q1 λy u H2 s2 r2 q2=>?_))⟩;have r1:=r1.same s2;unfold xR at q2;split at q2
 .split at q2
  .rename_i hz;obtain⟨p,vs,rfl,_,hp,rr⟩:=r1;obtain⟨p',vs',rfl,_,hp',rr'⟩:=r2;exact⟨p,p',vs,vs',rfl,rfl,hp,hp',by rw[rr.len,rr'.len];exact hz,λz hz=>q2 _ _ (zI.upd hz) (QN (rr.append rr') hz)⟩
  .exact q2.elim
 .exact q2.elim
def xS:ME:=λ_=>.ok (.d [])
def rN:FM X C S (.Dict [] [] pos) xS:=λhK=>⟨_,u6,λB P H σ ρ R Q q=>λp hp=>q _ _ (zI.upd hp) (C_ (xs:=[]) (vs:=[]) rfl hp)⟩
end
section
variable {α β:Type}
def vY{a:α}{f:α->Out β}:(Out.ok a).bind f=f a:=rfl
def XM(h1:-(2 ^ 64)<a)(h2:a<2 ^ 64):Ys (.i a) (.i b)=.ok (.i (a*b)):=by show(if Be a b\/_ then _ else _)=_;rw[if_pos (.inl (.inl ⟨h1,h2⟩))]
def BC(h1:0<b)(h2:b<1073741824):QE (.i a) (.i b)=.ok (.i (a / b)):=by show(if EO a b then _ else _)=_;rw[if_pos ⟨h1,h2⟩]
def kg(h1:0<b):zX (.i a) (.i b)=.ok (.i (a % b)):=by show(if 0<b then _ else _)=_;rw[if_pos h1]
def LW:pIx (.l xs) (.i a)=Yt (atI xs a):=rfl
def eI{a:α}:Yt (some a)=.ok a:=rfl
def rO(h:z.length<=sizeLine):QF [.s z]=.ok (.i z.length):=by show(if _ then _ else _)=_;rw[if_pos h]
def rP{xs:List α}(h:0<=k):atI xs k=xs[k.toNat]?:=by
 unfold atI ixN;rw[if_pos h];by_cases c:k<xs.length
 .rw[if_pos c];rfl
 .rw[if_neg c];symm;exact a2r.mpr (by omega)
def rQ(h:kf c b n ρ=o)(hw:o≠.wall):a9 c b ρ=o:=by
 have mono:∀(n k:Nat)(ρ:Sto),kf c b n ρ≠.wall->kf c b (n+k) ρ=kf c b n ρ:=by
  intro n
  induction n with
  |zero=>intro k ρ h;exact absurd rfl h
  |succ n ih=>
   intro k ρ h;rw[show n+1+k=(n+k)+1 by omega];unfold kf at h ⊢;cases hc:c ρ with
   |exc c fs=>rfl
   |wall=>rfl
   |ok t=>
    rw[hc]at h;cases t with
    |false=>rfl
    |true=>
     simp only[vY,if_true]at h ⊢;cases hb:b ρ with
     |exc c fs=>rfl
     |wall=>rfl
     |ok f=>
      rw[hb]at h;cases f with
      |nx ρ2=>exact ih k ρ2 h
      |ct ρ2=>exact ih k ρ2 h
      |bk ρ2=>rfl
      |rt v=>rfl
 have ex:∃n,kf c b n ρ≠.wall:=⟨n,h▸hw⟩;unfold a9;rw[dif_pos ex];have hs:=T7 ex;generalize Classical.choose ex=n0 at hs;rcases Nat.le_total n n0 with g|g
 .obtain⟨k,rfl⟩:=Nat.le.dest g;rw[mono n k ρ (h▸hw)];exact h
 .obtain⟨k,rfl⟩:=Nat.le.dest g;rw[<- mono n0 k ρ hs];exact h
def rR:QG g b (x::xs) ρ=(Yt (g x ρ)).bind λρ1=>(b ρ1).bind λf=>match f with
  |.nx ρ2=>QG g b xs ρ2
  |.ct ρ2=>QG g b xs ρ2
  |.bk ρ2=>.ok (.nx ρ2)
  |.rt v=>.ok (.rt v):=rfl
def g9{α:Type}[BEq α][LawfulBEq α][DecidableEq α]{a b:α}:(a==b)=decide (a=b):=by
 by_cases h:a=b
 .subst h;simp
 .simp[h]
def GC:jq n (.i a) (.i b)=.ok (.b (xor n (decide (a=b)))):=by show Out.ok (PV.b (xor n (a==b)))=_;rw[g9]
def LX:jq n (.s x) (.s y)=.ok (.b (xor n (decide (x=y)))):=by show Out.ok (PV.b (xor n (x==y)))=_;rw[g9]
def GD:dy n (.s x) (.s y)=some (decide (x=y)):=by cases n<;>(show some (x==y)=_;rw[g9])
def yg{fr:Bool}{n:Nat}{ms:MS}{xs:Ov}{x:PV}(h:ms (xs.map some++List.replicate (n-xs.length) none)=.ok (.rt x)):QH fr n ms xs=.ok x:=by unfold QH;rw[h]
def Dw(h:s ρ=.ok (.nx ρ')):yf s t ρ=t ρ':=by unfold yf;rw[h];rfl
def kh(h:s ρ=.ok (.rt x)):yf s t ρ=.ok (.rt x):=by unfold yf;rw[h];rfl
def lD{k:Str}{v:PV}{r:OA}:List.lookup k ((k,v)::r)=some v:=by simp[List.lookup]
def vZ{k j:Str}{v:PV}{r:OA}(h:(k==j)=false):List.lookup k ((j,v)::r)=List.lookup k r:=by simp[List.lookup,h]
def GF:List.lookup k ([]:List (Str×PV))=none:=rfl
def cw:uE [] k v=[(k,v)]:=rfl
def XN(h:(j==k)=false):uE ((j,x)::r) k v=(j,x)::uE r k v:=by show(if j=k then _ else _)=_;rw[if_neg (by simpa using h)]
end
def BD{α:Type}{a:α}:noX (.ok a)=.ok a:=rfl
def cy{α:Type}{g:MG}{c:MT}{e:ME}(it:α->PV)(keep:α->Bool)(out:α->PV)(J:Sto->Prop):∀(xs:List α)(ρ:Sto)(acc:Ov),J ρ->(∀x∈xs,∀ρ,J ρ->∃ρ1,g (it x) ρ=some ρ1/\J ρ1/\c ρ1=.ok (keep x)/\(keep x=true->e ρ1=.ok (out x)))->acc.length+xs.length<=100000->lcP g c e (xs.map it) ρ acc=.ok (.l (acc++(xs.filter keep).map out))
 |[],ρ,acc,_,_,_=>by simp[lcP]
 |x::xs,ρ,acc,hJ,h,hl=>by
  obtain⟨ρ1,h1,h2,h3,h4⟩:=h x O1 ρ hJ;rw[N9]at hl;rw[O8];unfold lcP;rw[h1,eI,vY,h3,BD,vY];cases hk:keep x with
  |true=>rw[if_pos rfl,h4 hk,BD,vY,if_pos (P4 (show acc.length<100000 by omega) (by decide)),List.filter_cons_of_pos hk,O8];rw[cy it keep out J xs ρ1 (acc++[out x]) h2 (λz hz=>h z (O3 _ hz)) (by rw[O9];show acc.length+1+_<=_;omega),a0m];rfl
  |false=>rw[if_neg P5,List.filter_cons_of_neg (by rw[hk];exact P5)];exact cy it keep out J xs ρ1 acc h2 (λz hz=>h z (O3 _ hz)) (by omega)
def XQ{α:Type}(it:α->PV)(out:α->PV)(J:Sto->Prop)(xs:List α)(ρ:Sto)(hJ:J ρ)(h:∀x∈xs,∀ρ,J ρ->∃ρ1,g (it x) ρ=some ρ1/\J ρ1/\e ρ1=.ok (out x))(hl:xs.length<=100000):lcP g BB e (xs.map it) ρ []=.ok (.l (xs.map out)):=by rw[cy (c:=BB) it (λ_=>true) out J xs ρ [] hJ (λx hx ρ hρ=>let⟨ρ1,a,b,c⟩:=h x hx ρ hρ;⟨ρ1,a,b,rfl,λ_=>c⟩) (by simpa using hl)];rw[List.filter_eq_self.mpr λ_ _=>rfl];rfl
def rS{α:Type}{f:α->Bool}{xs:List α}:p7 (xs.map λx=>PV.b (f x))=some (xs.map f):=by
 have:=lx (ns:=xs.map f)
 rwa [a0y]at this
end L2
namespace L2
open PySem
end L2
namespace L2
open PySem PySem.Spec PyProof.Rows PySem.W
section
variable {X:Cx}
def XR:∀{xs:Oi}{us:Og},xs.length=us.length->(∀(j:Nat) x u,xs[j]?=some x->us[j]?=some u->RelV x u)->Vals xs us
 |[],[],_,_=>.nil
 |x::xs,u::us,hl,h=>.cons (h 0 x u rfl rfl) (XR (by simpa using hl) λj y v e1 e2=>h (j+1) y v (by simpa using e1) (by simpa using e2))
def xT(I:Inv X pins σ H s)(hs:s.heap.objs.size<=l)(hk:∀b o,s.heap.get? b=some o->h'.get? b=some o)
  (hl:h'.get? l=some { cls:=.type "list",dict:=none,data:=.seq acc c,slots:=#[] }) (hz:ys.length<=sizeLine) (hy:ys.length=acc.size) (hv:∀(j:Nat) x u,ys[j]?=some x->acc[j]?=some u->RelV x u) (q:∀l,H l=none->Q (.ref l) (upd H l (.lst ys))):
  EP X pins σ Q (.ref l) { s with heap:=h',toks:=tk }:=
 ⟨.ref l,_,I.laid (t':=tk) hk hs (show qE X.prog X.w _ h' _ (.lst ys)from⟨hz,acc.toList,c,XR (by rw[a07];exact hy) (λj x u e1 e2=>hv j x u e1 (by simpa using e2)),by rw[Array.toArray_toList];exact hl⟩),rfl,q _ (I.hok.fresh hs)⟩
end
section
variable {prog:Ot}{w:Ox}{A:Oy}{E:Oc}{s:Oe}
end
section
variable {X:Cx}
end
section
variable {X:Cx}{C:LC}{S:Od}{e:Oq}{ws:Oh}{ms:MA}{pos p pos' p':Pos}
end
def II{α β:Type}(o:Out α)(f:α->Out β):Out β:=match o with
 |.ok a=>f a
 |.exc _ _=>.wall
 |.wall=>.wall
abbrev LC.nox(C:LC):LC:=⟨C.W,E0,C.fr⟩
section
variable {X:Cx}{C:LC}{S S' S1 S2 Sb Sc:Od}{e:Oq}{es:Om}{ws:Oh}{ms:MA}{pos p pos':Pos}{x y:Str}{k i j:Nat}{f:Addr}{fd:OC}{ps:Ob}{fr:Bool}{g:Ou}{m1 m2:MS}
def BE(R:Rel C.W B S P H σ ρ)(m:Mof B S P a\/H a=none):Mof B S P a:=m.elim id λn=>R.new a n
def a_(g:Ou)(ms:MA):ME:=λρ=>II (ms ρ) λxs=>II (g xs) .ok
def xU(F:nj X.prog X.w X.K X.mg X.base k f fd ps (lsp C.W fr ws g))(hr:d8 k X.A)(hg:Gl X x)(hm:X.mg x=some (.ref f))(hk:keepIn X.K (.ref f)=true)(hb:Binds X.K fd ps [])(ha:AM X C.nox S ws (e::es) ms)
  (hdb:(x==("__debug__":Str))=false:=by decide) (he:starEach (e::es) X.env=(false,eval e X.env)::starEach es X.env:=by rfl) (hpl:(backTo pos (starEach es X.env)).any (·.1)=false:=by rfl):EM X C S false (.Call (.Name x p) (e::es) [] pos) (a_ g ms):=λhK=>by
 obtain⟨ta,a1,a2⟩:=ha hK;refine⟨_,xw F hr hg hm hk hb a1 hdb he hpl,λB P H σ ρ R Q q=>a2 B P H σ ρ R _ ?_⟩;unfold a_ at q;revert q;cases ms ρ with
 |exc c fs=>exact λq=>q.elim
 |wall=>exact id
 |ok xs=>
  intro q vs H1 s1 r1;have R1:=R.keep s1;refine⟨_,xs,r1.args,?_⟩;have q:yp C B H (RV C B S P false) Q (II (g xs) .ok):=q;revert q;cases g xs with
  |ok r=>
   intro q v H2 s hr;refine q v H2 (s1.trans s) (RV.of ?_);unfold RtV at hr;cases fr with
   |true=>rw[if_pos rfl]at hr;exact(hr.sub λa m=>BE R1 m).rep R1.new
   |false=>rw[if_neg P5]at hr;exact hr.sub λa m _=>BE R1 m
  |exc c fs=>exact λq=>q.elim
  |wall=>exact id
end
section
variable {P:Ot}{w:Ox}{K:OF}{mg:N_}{base:Heap}
def rT{x qual:Str}{st:OO}{f:Addr}{fd:OC}{N ps:Ob}{k n:Nat}{W:RC}{fr:Bool}{ws:Oh}{ms:MS}{S' Sb Sc:Od}(F:Fun K x qual st f fd)(S:zE N ps (zh st))(hW:K=W.K)(hl:ws.length=ps.length)(hN:N.length=n)(hn:ws.length<=n)
  (h:∀(cdv:Value)(A:Oy)(outer:List Env)(s:Oe)(H:Hp)(E:XK),d8 k (A.deeper (envOfC qual (zh st) s.heap.objs.size f cdv))->SsM (aU (CXe P w) P w K mg base N qual (zh st) f cdv A outer s H E).hx ⟨W,E,fr⟩ (KJ ws n) S' Sb Sc (vV st) ms):
  nj P w K mg base (k+1) f fd ps (lsp W fr ws (QH fr n ms)):=by
 subst hN;refine F.okH S (p9 hl) λcdv A outer s H vs Q E hr ⟨M,xs,ha,q⟩=>?_;obtain⟨ts,t1,t2⟩:=h cdv A outer s H E hr hW;refine⟨ts,t1,t2 (uF H M) _ H _ _ (eG ha hn) _ ?_⟩;unfold QH at q;revert q;cases ms (xs.map some++List.replicate (N.length-xs.length) none)with
 |exc c fs=>exact λq e dx es H2 s h1 h2 h3=>q e dx es H2 s h1 h2 h3
 |wall=>exact id
 |ok fl=>
  cases fl with
  |nx ρ'=>
   intro q P' H' σ' R';cases fr with
   |true=>exact q.elim
   |false=>exact q .non H' R'.same rfl
  |rt y=>exact λq v H' s r=>q v H' s r
  |bk ρ'=>exact λq=>q.elim
  |ct ρ'=>exact λq=>q.elim
end
section
variable {X:Cx}{pins:Oa}{σ:St}{H:Hp}{s:Oe}{a:Addr}{u u':HO}
end
def GG(h:KV es vs):∀{i:Nat}{k:Key}{v:V},es[i]?=some (k,v)->∃w,vs[i]?=some (k,w):=by
 induction h with
 |nil=>intro i k v e;simp at e
 |@cons p q _ _ hp _ ih=>
  intro i k v e;cases i with
  |zero=>simp at e;subst e;exact⟨q.2,by simp;exact Prod.ext hp.1.symm rfl⟩
  |succ i=>simp at e ⊢;exact ih e
def rV(h:(yY P w).is k u=true):RelV (kV k) u:=by
 rw[mP]at h;rcases qg h with⟨i,t,rfl,rfl⟩|⟨x,t,rfl,rfl⟩
 .exact⟨t,rfl⟩
 .exact⟨t,rfl⟩
section
variable {W:RC}{M:Of}{H H':Hp}{a:Addr}{es:Oo}
end
section
variable {W:RC}{B:Bs}{S S':Od}{P P':Ol}{H H':Hp}{σ σ':St}{ρ ρ':Sto}{a:Addr}{es:Oo}{u u':HO}
end
def kP:Key->PV
 |.inl i=>.i i
 |.inr x=>.s x
def GH{W:RC}{M:Of}{H:Hp}:∀k:Key,Rep W M H (kP k) (kV k)
 |.inl _=>rfl
 |.inr _=>rfl
section
variable {X:Cx}{W:RC}{E:XK}{fr:Bool}{S S1 Sb Sc:Od}{tg kX:Oq}{body:OG}{mg:MG}{mb:MS}{pos:Pos}{i:Nat}
end
section
variable {X:Cx}{C:LC}{S:Od}{kX tg elt:Oq}{ifs:Om}{me:ME}{mc:MT}{mg:MG}{pos:Pos}{i:Nat}{scope:Scope}
end
def GI:List V->Hp->VK->Prop:=λvs H Q=>∃(p:Addr)(es:Oo),vs=[.ref p]/\Rd H p (.dK es)/\∀l,H l=none->Q (.ref l) (upd H l (.dK es))
def nE:vU X (.type "dict") GI:=by intro pins s σ H xs us Q I r h;obtain⟨p,es,rfl,hS,q⟩:=h;obtain⟨u,rfl,ru⟩:=vals1 r;cases ru;exact xb I hS λl s' hl I'=>⟨.ref l,_,I',rfl,q l hl⟩
def g_(xs:Ov):PV->Out PV
 |.b k=>Yt ((p7 xs).map λns=>.i (ns.count k))
 |_=>.wall
def rW(m1 m2:ME):ME:=λρ=>(m1 ρ).bind λx=>match x with
 |.l xs=>(m2 ρ).bind (g_ xs)
 |_=>.wall
def rX(ho:EM X C S w1 o m1)(ha:EM X C S w2 e m2)(dv:attributeBase o "count" X.env (eval o X.env)=eval o X.env:=by rfl)
  (Bb:((backTo Zi (starEach [e] X.env)).all (λx=>!x.1)&&(backToKw Zi (keywordEach [] X.env)).all (λx=>x.1.isSome)
   && decide (([e]:List Expr).length+([]:List Keyword).length+(if([]:List Keyword).isEmpty then 0 else 1)<30))=true:=by rfl)
  (dr:(vE.endLine==Zi.line)=true:=by rfl) (hs:starEach [e] X.env=[(false,eval e X.env)]:=by rfl):EM X C S false (.Call (.Attribute o "count" vE) [e] [] Zi) (rW m1 m2):=λhK=>by
 obtain⟨to,a1,a2⟩:=ho hK;obtain⟨te,b1,b2⟩:=ha hK;refine⟨_,uW a1F a2J PySem.F.type_list_count pM a1 (QK b1 Xr (by rw[hs];rfl)) dv Bb dr (by rw[hs];rfl) rfl,λB P H σ ρ R Q q=>a2 B P H σ ρ R _ (ye q λx v H1 s1 r1 q1=>?_)⟩;cases x with
 |l xs=>
  obtain⟨p,vs,rfl,_,hl,rr⟩:=r1.weak;refine⟨.inl ⟨rfl,vs,SqL.of hl⟩,b2 B P H1 σ ρ (R.keep s1) _ ?_⟩;have q1:yp C B H1 (RV C B S P false) Q ((m2 ρ).bind (g_ xs)):=q1;revert q1;cases m2 ρ with
  |exc c fs=>exact id
  |wall=>exact id
  |ok y=>
   intro q1 u H2 s2 r2;have q1:yp C B H1 (RV C B S P false) Q (g_ xs y):=q1;cases y with
   |b k=>obtain⟨z,e,q1⟩:=y_ q1;obtain⟨ns,hn,rfl⟩:=N8.mp e;have hl2:=s2 _ _ hl;rw[ck rr hn]at hl2;exact⟨p,ns,k,rfl,by rw[(show u=V.bl k from r2.weak)],SqL.of hl2,q1 _ H2 s2 (RV.of rfl)⟩
   |_=>exact q1.elim
 |_=>exact q1.elim
section
variable {X:Cx}{pins:Oa}{σ:St}{H:Hp}{s:Oe}{W:RC}
end
section
variable {X:Cx}{C:LC}{S:Od}{e a b:Oq}{es:Om}{w:Bool}{m m1 m2:ME}{ms:MA}{pos:Pos}
end
section
variable {X:Cx}{elt kX tg:Oq}{ifs:Om}{scope:Scope}{pos uC py:Pos}{N:Ob}{fr:Ow}{g:TG}{tc:TT}{te:TEx}{wi:TI}{y:Str}{i:Nat}
end
section
variable {X:Cx}{C:LC}{S Si:Od}{e kX tg elt:Oq}{es ifs:Om}{w:Bool}{ws:Oh}{m me:ME}{ms:MA}{mc:MT}{mg:MG}{mi:MI}{pos p:Pos}{x:Str}{scope:Scope}{k:Nat}{f:Addr}{fd:OC}{ps:Ob}{fr':Bool}{g:Ou}
end
end L2
namespace L2
open PySem
def LY{α:Type}{P:List α->Prop}{us:List α}(hl:us.length=1)(h:∀a,P [a]):P us:=by rcases us with _|⟨a,_|⟨b,us⟩⟩<;>first|exact h _|cases hl
def LZ{α:Type}{P:List α->Prop}{us:List α}(hl:us.length=2)(h:∀a b,P [a,b]):P us:=by rcases us with _|⟨a,_|⟨b,_|⟨c,us⟩⟩⟩<;>first|exact h _ _|cases hl
def L6{α:Type}{P:List α->Prop}{us:List α}(hl:us.length=3)(h:∀a b c,P [a,b,c]):P us:=by rcases us with _|⟨a,_|⟨b,_|⟨c,_|⟨d,us⟩⟩⟩⟩<;>first|exact h _ _ _|cases hl
def L7{α:Type}{P:List α->Prop}{us:List α}(hl:us.length=4)(h:∀a b c d,P [a,b,c,d]):P us:=by rcases us with _|⟨a,_|⟨b,_|⟨c,_|⟨d,_|⟨e,us⟩⟩⟩⟩⟩<;>first|exact h _ _ _ _|cases hl
def L8{α:Type}{P:List α->Prop}{us:List α}(hl:us.length=5)(h:∀a b c d e,P [a,b,c,d,e]):P us:=by rcases us with _|⟨a,_|⟨b,_|⟨c,_|⟨d,_|⟨e,_|⟨f,us⟩⟩⟩⟩⟩⟩<;>first|exact h _ _ _ _ _|cases hl
def eJ(z:CXe P w outer H s (λ_ _ _=>False) v s'):False:=by obtain⟨_,_,_,_,_,_,_,_,_,_,_,_,_,_,_,_,_,_,q⟩:=z;exact q
def okb{α β:Type}{a:α}{f:α->Out β}:(Out.ok a).bind f=f a:=Eq.trans (Eq.refl _) (Eq.refl _)
section
variable {α β σ:Type}{g:MG}{b:MS}{c:MT}{e:ME}{ρ ρ':Sto}{s t:MS}{m:ME}{x:PV}{mi:MI}{o:Out Fw}{i:Nat}
def zd(h:∃ρ',s ρ=.ok (.nx ρ')/\t ρ'=o):yf s t ρ=o:=let⟨_,a,b⟩:=h;(Dw a).trans b
def nF{fr:Ow}{xs:Ov}(h:mi ρ=.ok xs)(h2:lcP g c e xs (g6 ρ fr) []=.ok x):mLC mi fr g c e ρ=.ok x:=by unfold mLC;rw[h,vY,h2]
def yr(h:m ρ=.ok x):y8 i m ρ=.ok (.nx (ρ.set i (some x))):=by unfold y8;rw[h,vY]
def qR(h:mi ρ=.ok xs)(h2:QG g b xs ρ=o):VZ mi g b ρ=o:=by unfold VZ;rw[h,vY,h2]
def xV{n:Nat}(h:n<=1000000):rF [.i (n:Int)]=.ok (nC 0 n):=by unfold rF;exact(if_pos ⟨by omega,by omega⟩).trans (by rw[Int.toNat_natCast])
def eK(h:ms ρ=.ok [.i (n:Int)])(hn:n<=1000000):YI ms ρ=.ok (nC 0 n):=by unfold YI;rw[h,vY,xV hn]
def hU(h:ms ρ=.ok [.i n])(h0:0<=n)(hn:n<=1000000):YI ms ρ=.ok (nC 0 n.toNat):=eK (n:=n.toNat) (by rw[h];congr 3;omega) (by omega)
def qq(h:m ρ=.ok (.l xs)):qa m ρ=.ok xs:=by unfold qa;rw[h,vY];rfl
def Xf:nC 0 n=(List.range n).map λk=>PV.i ((k:Nat):Int):=by unfold nC;exact a08 λk _=>by congr 1;omega
def lE(it:α->PV)(J:Nat->Sto->Prop):∀(xs:List α)(j:Nat)(ρ:Sto),J j ρ->(∀(k:Nat)(h:k<xs.length)(ρ:Sto),J (j+k) ρ->∃ρ1,g (it xs[k]) ρ=some ρ1/\∃ρ2,J (j+k+1) ρ2/\(b ρ1=.ok (.nx ρ2)\/b ρ1=.ok (.ct ρ2)))->∃ρ',J (j+xs.length) ρ'/\QG g b (xs.map it) ρ=.ok (.nx ρ')
 |[],j,ρ,h,_=>⟨ρ,h,rfl⟩
 |x::xs,j,ρ,h,hs=>by
  obtain⟨ρ1,h1,ρ2,h2,h3⟩:=hs 0 (Nat.zero_lt_succ _) ρ h;obtain⟨ρ3,h4,h5⟩:=lE it J xs (j+1) ρ2 h2 λk hk ρ hρ=>by have:=hs (k+1) (Nat.succ_lt_succ hk) ρ (by rw[show j+(k+1)=j+1+k by omega];exact hρ);rw[show j+(k+1)+1=j+1+k+1 by omega]at this;exact this
  refine⟨ρ3,by rw[N9,show j+(xs.length+1)=j+1+xs.length by omega];exact h4,?_⟩;rw[O8,rR,show g (it x) ρ=some ρ1 from h1,eI,vY];rcases h3 with h3|h3<;>(rw[h3,vY];exact h5)
def V0(it:α->PV)(J:Nat->Sto->Prop)(xs:List α)(ρ:Sto)(h:J 0 ρ)(hs:∀(k:Nat)(h:k<xs.length)(ρ:Sto),J k ρ->∃ρ1,g (it xs[k]) ρ=some ρ1/\∃ρ2,J (k+1) ρ2/\(b ρ1=.ok (.nx ρ2)\/b ρ1=.ok (.ct ρ2))):∃ρ',J xs.length ρ'/\QG g b (xs.map it) ρ=.ok (.nx ρ'):=by
 have:=lE (g:=g) (b:=b) it J xs 0 ρ h λk hk ρ hρ=>by have:=hs k hk ρ (by rwa [a3g]at hρ);rwa [a3g]
 rwa [a3g]at this
def Xg(J:Nat->Sto->Prop)(n:Nat)(ρ:Sto)(h:J 0 ρ)(hs:∀(k:Nat),k<n->∀(ρ:Sto),J k ρ->∃ρ1,g (.i (k:Int)) ρ=some ρ1/\∃ρ2,J (k+1) ρ2/\(b ρ1=.ok (.nx ρ2)\/b ρ1=.ok (.ct ρ2))):∃ρ',J n ρ'/\QG g b (nC 0 n) ρ=.ok (.nx ρ'):=by
 have:=V0 (g:=g) (b:=b) (λk:Nat=>PV.i (k:Int)) J (List.range n) ρ h λk hk ρ hρ=>by rw[a1z];exact hs k (by rwa [a0b]at hk) ρ hρ
 rwa [a0b,<- Xf]at this
end
end L2
namespace L2
open PySem PySem.Spec PyProof.Rows PySem.W
section
variable {prog:Ot}{w:Ox}{A:Oy}{E:Oc}{h:Heap}{g:Array GenState}{d:Drawn}{t:Nat}{os:OsState}{a:Addr}{its:ON}{n:Nat}{sl:OI}
def eM:typeLookup (.type "list") "keys"=pure none:=by rw[a2N,a1S];kernel_rfl
def XS:typeLookup (.type "list") "__getattr__"=pure none:=by rw[a2N,a1S];kernel_rfl
def rY:isSubtype (.type "AttributeError") (.type "AttributeError")=pure true:=by rw[isSubtype_type];kernel_rfl
def Dx(he:h.get? e=some ⟨.type "AttributeError",none,.fields #[T,.none,.none,.none,.bool false,X,rawInt 0,rawInt 0],#[]⟩)
  (hQ:∀h',(∀b o,b≠e->h.get? b=some o->h'.get? b=some o)->(∃oe,h'.get? e=some oe/\oe.cls=.type "AttributeError")->Q () ⟨h',g,d,t,os⟩):
  wpAny (model prog w) A (noteAttr (.ref e) o name) Q E ⟨h,g,d,t,os⟩:=by
 have hT:(⟨h,g,d,t,os⟩:Shared).TypeIs (.ref e) "AttributeError":=⟨_,he,rfl⟩;unfold noteAttr lacksNameAndObj;refine f8 ?_;refine f8 (a1n (b:=true) hT rY ?_);rw[if_neg (by decide)];refine f8 (a2Z he ?_);dsimp only;rw[if_neg (λz=>by cases(show false=true from z))];rw[if_neg (λz=>by cases(show false=true from z))];refine O0 ?_;rw[if_pos rfl];refine f8 (a1E ?_);refine f8 (a1A (T:="AttributeError") hT ?_);dsimp only;unfold layMembers;refine f8 (a2Z he ?_);dsimp only;refine wpAny_update he ?_;refine hQ _ (λb o hb e'=>(S7 _ _ (Ne.symm hb)).trans e') ⟨_,a0r _ he rfl,rfl⟩
def nG(hh:A.handled=none)(hx:h.get? a=some ⟨.type "list",none,.seq its n,sl⟩)
  (hE:∀h' tk e,(∀b o,h.get? b=some o->h'.get? b=some o)->(∃oe,h'.get? e=some oe/\oe.cls=.type "AttributeError")->E (.ref e) ⟨h',g,d,tk,os⟩):
  wpAny (model prog w) A (Builtin.«object.__getattribute__» ⟨[.ref a,.str "keys" tk],[]⟩) Q E ⟨h,g,d,t,os⟩:=by
 have hT:(⟨h,g,d,t,os⟩:Shared).TypeIs (.ref a) "list":=⟨_,hx,rfl⟩;have f4:=eM
 repeat(any_goals(first|assumption|wp_step))
 unfold raiseAttrError;refine f8 (wpAny_mkStr (f8 ?_) (by decide +kernel));unfold newExc newTuple;refine f8 (a01 ?_);refine f8 (m:=firstArgMember _ _) (a2b (a:=Value.none) (by simp only[firstArgMember];kernel_rfl) ?_);refine a01 ?_;refine f8 (a2z (f8 ?_));refine Dx (P2 _ rfl) λh' hk he=>?_;unfold raiseNew;refine f8 (wpAny_handled ?_);rw[hh]
 first
  |refine a2R ?_
  |refine f8 (O0 (a2R ?_))
 exact hE _ _ _ (λb o e=>hk b o (P1 (P4 (O5 e) (by simp))) (v4 _ (v4 _ e))) he
def rZ(hh:A.handled=none)(hx:h.get? a=some ⟨.type "list",none,.seq its n,sl⟩)
  (hE:∀h' tk e,(∀b o,h.get? b=some o->h'.get? b=some o)->(∃oe,h'.get? e=some oe/\oe.cls=.type "AttributeError")->R (.error (.ref e)) ⟨h',g,d,tk,os⟩):
  codeAny (model prog w) A (.call (.builtin "list.__getattribute__") ⟨[.ref a,.str "keys" tk],[]⟩) R ⟨h,g,d,t,os⟩:=
 a1l F.slot_list_getattribute.plain F.entry_list_ga (F.slot_list_getattribute.check _ _ _ _ _ _ _ _ (show(⟨h,g,d,t,os⟩:Shared).TypeIs (.ref a) "list" from⟨_,hx,rfl⟩) (F.args_list_getattribute_2 _ _) (nG hh hx hE))
def Dy(hh:A.handled=none)(hx:h.get? a=some ⟨.type "list",none,.seq its n,sl⟩)(hQ:∀h' tk,(∀b o,h.get? b=some o->h'.get? b=some o)->Q none ⟨h',g,d,tk,os⟩):
  wpAny (model prog w) A (getAttr? (.ref a) "keys") Q E ⟨h,g,d,t,os⟩:=by
 have hT:∀t,(⟨h,g,d,t,os⟩:Shared).TypeIs (.ref a) "list":=λt=>⟨_,hx,rfl⟩;have f2:=F.slot_list_getattribute.lookup;have f3:=F.slot_list_getattribute.bind (.ref a);unfold getAttr? getAttrBy?;refine f8 (a2z ?_);refine f8 (a0Y ?_);unfold getAttrBy;refine a0i ?_;refine f8 (a1A (T:="list") (hT _) ?_);refine f8 (a2b f2 ?_);dsimp only;rw[if_neg (λz=>by cases(show false=true from z))];unfold getAttrByItsOwn hookBefore;rw[if_neg (λz=>by cases(show false=true from z))];refine f8 (O0 ?_);refine f8 (a0Y ?_);refine a0i ?_;unfold callGetattribute;rw[if_neg (λz=>by cases(show false=true from z))];unfold boundAndCalled;refine f8 (a2b f3 ?_);dsimp only;refine a0M (rZ hh hx λh' tk e hk he=>?_);obtain⟨oe,he,hc⟩:=he;have hTe:(⟨h',g,d,tk,os⟩:Shared).TypeIs (.ref e) "AttributeError":=⟨_,he,hc⟩;dsimp only;unfold getattributeRaised;refine f8 (a1n (b:=true) hTe rY ?_);rw[if_pos rfl];unfold hookBehind;rw[if_neg (λz=>by cases(show false=true from z))];refine f8 (a2b XS ?_);unfold hookOrError attributeErrorLeaves;dsimp only;rw[if_pos (show(!false)=true from rfl)];refine f8 (a2R ?_);refine f8 (a1n (b:=true) hTe rY ?_);rw[if_pos rfl];exact O0 (hQ h' tk hk)
end
def JO:entryFor table "dict.update.loop"=some Builtin.«dict.update.loop»:=entryFor_of_tree (by kernel_rfl)
def kH:plainId "dict.update.loop"=true:=by decide +kernel
section
variable {prog:Ot}{w:Ox}{A:Oy}{R:Result->Shared->Prop}{I:Addr}{fp wr:OP}{G:Array GenState->Array GenState->Prop}{n:Nat}{P:Nat->Value->Prop}{St:Nat->Shared->Prop}{K:Type}[DecidableEq K] {knd:KeyKind prog w K}
def TupAt(h:Heap)(a:Addr)(k v:Value):Prop:=∃o m,h.get? a=some o/\o.cls=.type "tuple"/\o.data=.seq #[k,v] m
def uG(key:Nat->K)(val:Pf):Nat->List (K×Value)
 |0=>[]
 |i+1=>stored (uG key val i) (key i) (val i)
def cz(key:Nat->K)(val:Pf):∀i,(uG key val i).length<=i
 |0=>O2 _
 |i+1=>by
  have:=cz key val i;unfold uG stored;split
  .rw[u8];omega
  .rw[O9];show _+1<=_;omega
def xW(W:WalksS prog w A.in1 I fp wr G n P St)(D:Addr)(hDf:D∉fp)(key:Nat->K)(kv val:Pf)(ad:Ol)(hP:∀i v,P i v->v=.ref (ad i))(hk:∀i,i<n->knd.is (key i) (kv i)=true)(hw:∀i,i<n->ad i∉D::wr)(hn:n<=sizeLine):
  ∀(k i:Nat)(tk:Tok)(s:Oe),n-i=k->i<=n->St i s->(∀j,j<n->TupAt s.heap (ad j) (kv j) (val j))->s.heap.DictOf knd D (uG key val i)->
   (∀s',Moved (D::wr) G s s'->s'.heap.DictOf knd D (uG key val n)->R (.ok (.ret .none)) s')->
   codeAny (model prog w) A (.builtin "dict.update.loop" ⟨[.ref D,.ref I,.int (i:Int) tk,.none],[]⟩) R s:=by
 have hDw:D∉wr:=λh=>hDf (W.sub _ h);have hsub:∀b∈wr,b∈D::wr:=λb hb=>O3 _ hb;have tmv:∀{s s':Oe},Moved (D::wr) G s s'->(∀j,j<n->TupAt s.heap (ad j) (kv j) (val j))->∀j,j<n->TupAt s'.heap (ad j) (kv j) (val j):=λhm h j hj=>by obtain⟨o,m,h1,h2,h3⟩:=h j hj;exact⟨o,m,hm.heap _ _ (hw j hj) h1,h2,h3⟩
 intro k
 induction k with
 |zero=>
  intro i tk s hk' hi hst ht hD hR;have hin:i=n:=by omega
  subst hin;refine codeAny_builtin JO ?_;rw[a22 kH _];show wpAny _ A.in1 (pyNext (.ref I) >>= _) _ _ s;refine f8 (W.done s _ _ hst λs' hm=>?_);dsimp only;refine f8 (m:=Builtin.Dict.addKeywords D []) ?_;refine O0 ?_;exact O0 (hR s' (hm.mono hsub) (by
   obtain⟨o,es,ep,ho,rest⟩:=hD;exact⟨o,es,ep,hm.heap D _ hDw ho,rest⟩))
 |succ k ih=>
  intro i tk s hk' hi hst ht hD hR;have hlt:i<n:=by omega
  refine codeAny_builtin JO ?_;rw[a22 kH _];show wpAny _ A.in1 (pyNext (.ref I) >>= _) _ _ s;refine f8 (W.item i s _ _ hlt hst λv s' hPv hst' hm=>?_);cases hP i v hPv;have hm2:=hm.mono hsub;have ht':=tmv hm2 ht;obtain⟨o,m,h1,h2,h3⟩:=ht' i hlt;have hD':s'.heap.DictOf knd D (uG key val i):=by obtain⟨o,es,ep,ho,rest⟩:=hD;exact⟨o,es,ep,hm.heap D _ hDw ho,rest⟩
  have hT:s'.TypeIs (.ref (ad i)) "tuple":=⟨o,h1,h2⟩;dsimp only;refine f8 (a0i (f8 (wpAny_tryCatch ?_)));unfold Builtin.Dict.pairItems;refine f8 (a1A (T:="tuple") hT ?_);rw[if_pos (by decide)];unfold seqItems?;refine f8 (f8 (a2Z h1 ?_));rw[h3];dsimp only;refine O0 (O0 ?_);show wpAny _ _ (holding [kv i,val i] (dictSet D (kv i) (val i))) _ _ _;refine a0i (wpAny_dictSet_pairs (hsz:=P7 (cz key val i) (P7 hi hn)) (hk i hlt) hD' λh' hD2 hsb=>?_);have e1:((i:Int)+1)=((i+1:Nat):Int):=by omega
  have hm3:Moved (D::wr) G s { s' with heap:=h',toks:=s'.toks+1 }:=hm2.then_heap (a0w _) λb o hb e=>by rw[hsb.2 b (λh:b=D=>hb (by rw[h];exact O1))];exact e
  refine O0 ⟨a25 kH _,?_⟩;rw[show rawInt ((i:Int)+1)=Value.int ((i+1:Nat):Int) 0 by rw[e1];rfl];refine ih (i+1) 0 _ (by omega) hlt (W.frame _ s' _ _ hst' (a0w _) λb hb o e=>?_) (tmv hm3 ht) hD2 λs'' hm'' hD''=>hR s'' (Moved.trans W.gtrans hm3 hm'') hD'';rw[hsb.2 b (λh:b=D=>hDf (by rw[<- h];exact hb))];exact e
end
section
variable {prog:Ot}{w:Ox}{A:Oy}{E:Oc}{s:Oe}{K:Type}[DecidableEq K] {knd:KeyKind prog w K}
def cA{l:Addr}{items:ON}{m:Nat}{sl:OI}{Q:Oc}{key:Nat->K}{kv val:Pf}{ad:Ol}(hh:A.handled=none)(hl:s.heap.get? l=some ⟨.type "list",none,.seq items m,sl⟩)
  (hP:∀i,i<items.size->items[i]?=some (.ref (ad i))) (ht:∀i,i<items.size->TupAt s.heap (ad i) (kv i) (val i)) (hk:∀i,i<items.size->knd.is (key i) (kv i)=true) (hn:items.size<=sizeLine)
  (h:∀h' tk,(∀b o,s.heap.get? b=some o->h'.get? b=some o)->h'.DictOf knd s.heap.objs.size (uG key val items.size)->Q (.ref s.heap.objs.size) { s with heap:=h',toks:=tk }):
  wpAny (model prog w) A (call (.type "dict") [.ref l]) Q E s:=by
 refine callType_codes (Q₁:=λobj s₁=>obj=.ref s.heap.objs.size/\s₁={ s with heap:=s.heap.push { cls:=.type "dict",data:=.dict #[] } }) F.kt_called_dict (F.kt_typeCall_dict_1 _) F.entry_dict_init (kt_code_dict_new _ ⟨rfl,rfl⟩) ?_
 rintro obj s₁ ⟨rfl,rfl⟩
 have hnew:(s.heap.push { cls:=.type "dict",data:=.dict #[] }).DictOf knd s.heap.objs.size []:=Heap.DictOf.new s.heap;have hl':(s.heap.push { cls:=.type "dict",data:=.dict #[] }).get? l=some ⟨.type "list",none,.seq items m,sl⟩:=v4 _ hl;refine⟨hnew.typeIs,F.args_dict_init_2 _ _,?_⟩;unfold Builtin.«dict.__init__»;refine f8 ?_;unfold Builtin.Dict.selfAndRest;refine f8 (wpAny_notOrdered_dict hnew.typeIs ?_);show wpAny _ _ (pure (s.heap.objs.size,[Value.ref l])) _ _ _;refine O0 ?_;show wpAny _ _ (Builtin.Dict.updateFrom "dict.__init__" s.heap.objs.size (.ref l) [] .none) _ _ _;unfold Builtin.Dict.updateFrom;refine f8 (a1A (T:="list") ⟨_,hl',rfl⟩ ?_);rw[if_pos (by decide)];refine f8 ?_;refine Dy hh hl' λh1 t1 k1=>?_;rw[if_pos (show(none:Option Value).isNone=true from rfl)];refine f8 (a1E ?_);have hl1:h1.get? l=some ⟨.type "list",none,.seq items m,sl⟩:=k1 _ _ hl';have hil:h1.IsList l items:=⟨_,hl1,rfl,m,rfl⟩;refine f8 (a2p hil ?_);have D1:h1.DictOf knd s.heap.objs.size []:=by obtain⟨o,es,ep,ho,rest⟩:=hnew;exact⟨o,es,ep,k1 _ _ ho,rest⟩
 have ls:l<s.heap.objs.size:=O5 hl;have l1:l<h1.objs.size:=O5 hl1;have ds:s.heap.objs.size<h1.objs.size:=by obtain⟨o,_,_,ho,_⟩:=D1;exact O5 ho
 have hne:l≠h1.objs.size:=P1 l1;have kp:∀b o,h1.get? b=some o->(h1.push { cls:=.type "list_iterator",data:=.fields #[.ref l,.int 0 0] }).get? b=some o:=λb o e=>v4 _ e;have tl:∀j,j<items.size->ad j<s.heap.objs.size:=λj hj=>by obtain⟨o,_,h1,_⟩:=ht j hj;exact O5 h1
 refine O0 ⟨a25 kH _,xW (knd:=knd) (Walks.list (A:=A.in1.in1) hh h1.objs.size l hne items).toS s.heap.objs.size (by simp;exact⟨P1 ds,a0O ls⟩) key kv val ad (λi v hv=>?_) hk (λi hi=>?_) hn items.size 0 0 _ (by omega) (T6 _) ⟨⟨_,P2 _ rfl,rfl,rfl⟩,?_⟩ (λj hj=>?_) ?_ λs' hm hD=>?_⟩
 .have hi:i<items.size:=by
   by_cases c:i<items.size
   .exact c
   .rw[a2Q (by omega)]at hv;cases hv
  rw[hP i hi]at hv;cases hv;rfl
 .have:=tl i hi;intro hm;rcases P8.mp hm with e|hm
  .exact P1 this e
  .exact P1 (a10 this ds) (S0.mp hm)
 .exact⟨_,kp _ _ hl1,rfl,m,rfl⟩
 .obtain⟨o,q,e1,e2,e3⟩:=ht j hj;exact⟨o,q,kp _ _ (k1 _ _ (v4 _ e1)),e2,e3⟩
 .obtain⟨o,es,ep,ho,rest⟩:=D1;exact⟨o,es,ep,kp _ _ ho,rest⟩
 .rw[Moved.eq_with hm];refine⟨rfl,h s'.heap s'.toks (λb o e=>hm.heap b o (λhmem=>?_) (kp _ _ (k1 _ _ (v4 _ e)))) hD⟩;have:=O5 e;rcases P8.mp hmem with e'|hm
  .exact P1 this e'
  .exact P1 (a10 this ds) (S0.mp hm)
end
section
variable {X:Cx}
def cB(K:OF)(H:Hp):List V->List (Key×V)->Prop
 |[],es=>es=[]
 |x::xs,es=>∃a k v r,x=.ref a/\es=(k,v)::r/\SqT K H a [kV k,v]/\cB K H xs r
def r8(es:Oo):List (Key×V):=es.foldl (λacc kv=>putK acc kv.1 kv.2) []
def BF(K:OF):List V->Hp->VK->Prop:=λvs H Q=>∃(p:Addr)(xs:Oi)(es:Oo),vs=[.ref p]/\SqL K H p xs/\cB K H xs es/\∀l,H l=none->Q (.ref l) (upd H l (.dK (r8 es)))
def lF{pins:Oa}{σ:St}{H:Hp}{s:Oe}(I:Inv X pins σ H s):∀{xs:Oi}{es:Oo}{its:Og},cB X.K H xs es->Vals xs its->∃ps:List (Addr×Value×Value),its=ps.map (λp=>Value.ref p.1)/\ps.length=es.length/\(∀p∈ps,TupAt s.heap p.1 p.2.1 p.2.2)/\∀(i:Nat) p e,ps[i]?=some p->es[i]?=some e->RelV (kV e.1) p.2.1/\RelV e.2 p.2.2
 |[],_,its,h,r=>by cases(show _=_ from h);cases r;exact⟨[],rfl,rfl,(λ_ h=>by cases h),λ_ _ _ h=>by cases h⟩
 |x::xs,_,its,h,r=>by
  obtain⟨a,k,v,es,rfl,rfl,ht,hr⟩:=h;cases r with
  |cons rx r=>
   cases rx;obtain⟨ps,e1,e2,e3,e4⟩:=lF I hr r;obtain⟨us,ru,⟨o,h1,h2,m,h3⟩,_⟩:=I.tuple ht;obtain⟨u1,u2,rfl,r1,r2⟩:=vals2 ru;refine⟨(a,u1,u2)::ps,by rw[e1];rfl,by rw[N9,N9,e2],λp hp=>?_,λi p e hp he=>?_⟩
   .rcases P8.mp hp with rfl|hp
    .exact⟨o,m,h1,h2,h3⟩
    .exact e3 p hp
   .cases i with
    |zero=>rw[List.getElem?_cons_zero]at hp he;cases hp;cases he;exact⟨r1,r2⟩
    |succ i=>rw[T2]at hp he;exact e4 i p e hp he
def r9{es:Oo}{key:Nat->Key}{val:Pf}:∀n,n<=es.length->(∀i e,i<n->es[i]?=some e->key i=e.1/\RelV e.2 (val i))->KV ((es.take n).foldl (λacc kv=>putK acc kv.1 kv.2) []) (uG key val n)
 |0,_,_=>.nil
 |n+1,hn,h=>by have hlt:n<es.length:=hn;have hx:=P0 hlt;rw[List.take_succ,hx,List.foldl_append];obtain⟨e1,e2⟩:=h n _ (a0a n) hx;show KV (putK _ _ _) (stored (uG key val n) (key n) (val n));rw[e1];exact(r9 n (a1V hlt) λi e hi he=>h i e (a1I hi) he).put _ e2
def nH(hc:X.calm=true):vU X (.type "dict") (BF X.K):=by
 intro pins s σ H xs us Q I r h;obtain⟨p,xs,es,rfl,hS,hp,q⟩:=h;obtain⟨u,rfl,ru⟩:=vals1 r;cases ru;obtain⟨its,rv,⟨o,m,h1,h2,h3,h4⟩,hz⟩:=I.list hS;obtain⟨ps,e1,e2,e3,e4⟩:=lF I hp rv;have hlen:its.length=es.length:=by rw[e1,u8,e2]
 have hx:∀i,i<es.length->∃a,ps[i]?=some a/\es[i]?=some (es.getD i (.inl 0,.non))/\ps.getD i (0,.none,.none)=a:=λi hi=>by
  have hi2:i<ps.length:=by rw[e2];exact hi
  refine⟨ps[i],P0 hi2,by rw[a0E,P0 hi];rfl,by rw[a0E,P0 hi2];rfl⟩
 have hsz:its.toArray.size=es.length:=by simpa using hlen
 obtain⟨cls,dict,data,slots⟩:=o;dsimp only at h2 h3 h4;subst h2 h3 h4;refine cA (knd:=yY X.prog X.w) (key:=λi=>(es.getD i (.inl 0,.non)).1) (kv:=λi=>(ps.getD i (0,.none,.none)).2.1) (val:=λi=>(ps.getD i (0,.none,.none)).2.2) (ad:=λi=>(ps.getD i (0,.none,.none)).1) (I.ok.hd hc) h1 (λi hi=>?_) (λi hi=>?_) (λi hi=>?_) ?_ λh' tk hk hD=>?_
 .rw[hsz]at hi;obtain⟨a,ha,_,hg⟩:=hx i hi;rw[hg];simp[e1,ha]
 .rw[hsz]at hi;obtain⟨a,ha,_,hg⟩:=hx i hi;rw[hg];exact e3 a (a1k ha)
 .rw[hsz]at hi;obtain⟨a,ha,he,hg⟩:=hx i hi;rw[hg];exact bW (e4 i a _ ha he).1
 .rw[hsz,<- hlen,<- rv.length];exact hz
 .rw[hsz]at hD;have kvr:KV (r8 es) (uG (λi=>(es.getD i (.inl 0,.non)).1) (λi=>(ps.getD i (0,.none,.none)).2.2) es.length):=by
   have:=r9 (es:=es) (key:=λi=>(es.getD i (.inl 0,.non)).1) (val:=λi=>(ps.getD i (0,.none,.none)).2.2) es.length (O2 _) λi e hi he=>?_
   .rwa [a0L]at this
   .obtain⟨a,ha,he',hg⟩:=hx i hi;rw[he]at he';cases he';rw[hg];exact⟨by rw[a0E,he],(e4 i a _ ha he).2⟩
  have hfr:=I.hok.fresh (O2 s.heap.objs.size);refine⟨.ref s.heap.objs.size,_,I.laid (a:=s.heap.objs.size) (o:=.dK (r8 es)) (t':=tk) hk (O2 _) (i5 ?_ (a0d.mpr (Ne.symm (P1 I.big))) kvr hD),rfl,q _ hfr⟩;rw[kvr.length];refine P7 (cz _ _ _) ?_;rw[<- hlen,<- rv.length];exact hz
end
def Dz:List PV->Option (List (Key×PV))
 |[]=>some []
 |.t [k,v]::xs=>(pk k).bind λq=>(Dz xs).map ((q,v)::·)
 |_=>none
def lG(es:Oz):List (Key×PV):=es.foldl (λacc kv=>dput acc kv.1 kv.2) []
def eN:List PV->Out PV
 |[.d xs]=>.ok (.d xs)
 |[.l xs]=>Yt ((Dz xs).map λes=>.d (lG es))
 |_=>.wall
section
variable {W:RC}{M:Of}{H:Hp}
def r_:∀{xs:Ov}{vs:Oi}{es:Oz},yQ W M H xs vs->Dz xs=some es->∃ev,cB W.K H vs ev/\j8 W M H es ev
 |[],_,_,h,e=>by cases e;cases(show _=_ from h);exact⟨[],rfl,rfl⟩
 |x::xs,_,es,h,e=>by
  obtain⟨v,r,rfl,h1,h2⟩:=h;unfold Dz at e;split at e
  .cases ‹_::_=[]›
  .rename_i k y ys heq;cases heq;obtain⟨q,hq,e⟩:=R9.mp e;obtain⟨zs,hz,rfl⟩:=N8.mp e;obtain⟨ev,i1,i2⟩:=r_ h2 hz;obtain⟨p,us,rfl,hp,u1,r1,rfl,hk,u2,r2,rfl,hv,hr⟩:=h1;cases(show _=_ from hr);cases cg (qL.iff.mpr hk) hq;exact⟨(q,u2)::ev,⟨p,q,u2,ev,rfl,rfl,hp,i1⟩,⟨u2,ev,rfl,hv,i2⟩⟩
  .cases e
def ba:∀{es:Oz}{ev:Oo}{a:Oz}{av:Oo},j8 W M H a av->j8 W M H es ev->j8 W M H (es.foldl (λacc kv=>dput acc kv.1 kv.2) a) (ev.foldl (λacc kv=>putK acc kv.1 kv.2) av)
 |[],_,_,_,h,e=>by cases(show _=_ from e);exact h
 |kx::es,_,a,av,h,⟨v,q,e,h1,h2⟩=>by subst e;rw[a0W,a0W];exact ba (a:=dput a kx.1 kx.2) (av:=putK av kx.1 v) (h.put h1) h2
def xX:LfF W (λvs H Q=>GI vs H Q\/BF W.K vs H Q) eN:=λM C B H xs vs Q n h q=>by
 unfold eN at q;split at q
 .obtain⟨v,r,rfl,⟨p,es,rfl,_,hl,rr⟩,hr⟩:=h;cases(show _=_ from hr);exact .inl ⟨p,es,rfl,hl,λl hl=>q _ _ (zI.upd hl) (C_ rr hl)⟩
 .obtain⟨z,e,q⟩:=y_ q;obtain⟨es,he,rfl⟩:=N8.mp e;obtain⟨v,r,rfl,⟨p,ws,rfl,_,hl,rr⟩,hr⟩:=h;cases(show _=_ from hr);obtain⟨ev,i1,i2⟩:=r_ rr he;exact .inr ⟨p,ws,ev,rfl,SqL.of hl,i1,λl hl=>q _ _ (zI.upd hl) (C_ (ba (show j8 W M H [] []from rfl) i2) hl)⟩
 .exact q.elim
end
def xY(hc:X.calm=true)(hg:Gl X "dict")(hm:X.mg "dict"=none)(ha:AM X C S ws [e] ms)(he:starEach [e] X.env=[(false,eval e X.env)]:=by rfl):FM X C S (.Call (.Name "dict" p) [e] [] pos) (zj eN ms):=
 lj (λhK=>hK▸nE.or (nH hc)) xX hg hm PyProof.Rows.boot_dict ha (he:=he)
section
variable {prog:Ot}{w:Ox}{A:Oy}{E:Oc}{s:Oe}
def len_dict:typeLookup (.type "dict") "__len__"=pure (some (.builtin "dict.__len__")):=by rw[a2N,a1S];kernel_rfl
def DA(hT:s.TypeIs (.ref d) "dict")(h:Q false s):wpAny (model prog w) A (Builtin.List.listLengthHint (.ref d)) Q E s:=by
 unfold Builtin.List.listLengthHint;refine f8 (wpAny_specialOf hT len_dict ?_);generalize hid:("dict.__len__":String)=id0
 (fail_if_success (clear hid id0));wp_delta
 rw[show splitId id0=some ("dict","__len__")from by subst hid;decide +kernel];dsimp only;refine f8 (a1n (b:=true) hT (by rw[isSubtype_type];kernel_rfl) ?_);subst hid;rw[if_neg (by decide)];rw[if_pos (by decide +kernel)];refine f8 (a1A (T:="dict") hT ?_);exact O0 h
variable {K:Type}[DecidableEq K] {knd:KeyKind prog w K}
def DB{Q:Oc}{d:Addr}{kvs:List (K×Value)}{ep:Nat}(hh:A.handled=none)(hd:(d==sysModules)=false)(hm:s.heap.DictAt knd d kvs ep)(hn:kvs.length<=sizeLine)
  (hQ:∀h' tk acc' c',(∀b o,s.heap.get? b=some o->h'.get? b=some o)->h'.get? s.heap.objs.size=some { cls:=.type "list",dict:=none,data:=.seq acc' c',slots:=#[] }->ItemsOf (λi v=>∃k x,kvs[i]?=some (k,x)/\knd.is k v=true) acc' kvs.length->Q (.ref s.heap.objs.size) { s with heap:=h',toks:=tk }):
  wpAny (model prog w) A (call (.type "list") [.ref d]) Q E s:=by
 have l1:d<s.heap.objs.size:=by obtain⟨o,_,ho,_⟩:=hm;exact O5 ho
 refine callType_codes (Q₁:=λobj s₁=>obj=.ref s.heap.objs.size/\s₁={ s with heap:=s.heap.push { cls:=.type "list",data:=.seq #[] } }) PySem.F.called_list (PySem.F.typeCall_list_1 _) PySem.F.entry_list_init
  (code_list_new _ ⟨rfl,rfl⟩) λobj s₁ h₁=>?_
 obtain⟨rfl,rfl⟩:=h₁;have hS:(s.heap.push { cls:=.type "list",data:=.seq #[] }).get? s.heap.objs.size=some { cls:=.type "list",data:=.seq #[] }:=P2 _ rfl;refine⟨⟨_,hS,rfl⟩,PySem.F.args_list_init_2 _ _,?_⟩;show wpAny _ _ (do let old<-Builtin.List.listItems (.ref s.heap.objs.size);Builtin.List.listUpdate (.ref s.heap.objs.size) (λ_=>#[]);letGo old.toList.reverse;Builtin.List.listExtendWith (.ref s.heap.objs.size) (.ref d) .none) _ _ _;refine f8 ?_;unfold Builtin.List.listItems;refine f8 (a0I hS rfl (O0 ?_));show wpAny _ _ (updateSeq s.heap.objs.size (λ_=>#[]) >>= λ_=>letGo (#[]:Array Value).toList.reverse >>= λ_=>Builtin.List.listExtendWith (.ref s.heap.objs.size) (.ref d) .none) _ _ _;refine f8 (a2O hS rfl ?_);have hS₂:=a0r (Obj.mapSeq (λ_=>(#[]:Array Value))) hS rfl;refine f8 (a2c ?_);have kp:∀b o,s.heap.get? b=some o->((s.heap.push { cls:=.type "list",data:=.seq #[] }).update s.heap.objs.size (Obj.mapSeq (λ_=>(#[]:Array Value)))).get? b=some o:=λb o e=>
  (S7 _ _ (a0O (O5 e))).trans (v4 _ e)
 generalize((s.heap.push { cls:=.type "list",data:=.seq #[] }).update s.heap.objs.size (Obj.mapSeq (λ_=>(#[]:Array Value))))=h2 at hS₂ kp;have hm2:h2.DictAt knd d kvs ep:=hm.at' λo e=>kp _ _ e;have hT2:∀{s':Oe},s'.heap.DictAt knd d kvs ep->s'.TypeIs (.ref d) "dict":=λz=>z.dictOf.typeIs;unfold Builtin.List.listExtendWith;refine f8 (a1A (T:="dict") (hT2 hm2) ?_);have hne1:s.heap.objs.size≠d:=a0O l1;have h1:Builtin.List.listSameRef (.ref s.heap.objs.size) (.ref d)=false:=by simp[Builtin.List.listSameRef,hne1]
 rw[if_neg (by rw[h1];decide)];refine f8 (wpAny_pyIter_dict hd hm2 ?_);have kp2:∀b o,h2.get? b=some o->(h2.push { cls:=.type "dict_keyiterator",data:=.fields #[.ref d,.int 0 0,.int kvs.length 0,.int ep 0] }).get? b=some o:=λb o e=>v4 _ e;have hm3:(h2.push { cls:=.type "dict_keyiterator",data:=.fields #[.ref d,.int 0 0,.int kvs.length 0,.int ep 0] }).DictAt knd d kvs ep:=hm2.at' λo e=>kp2 _ _ e;refine f8 (a0i (DA (hT2 hm3) ?_));rw[if_pos (by decide)];refine f8 (a1E ?_);unfold Builtin.List.listTouch Builtin.List.listUpdate;have s2:s.heap.objs.size<h2.objs.size:=O5 hS₂;have dn:d≠h2.objs.size:=P1 (a10 l1 s2);have hS3:=kp2 _ _ hS₂;have it3:(h2.push { cls:=.type "dict_keyiterator",data:=.fields #[.ref d,.int 0 0,.int kvs.length 0,.int ep 0] }).get? h2.objs.size=some { cls:=.type "dict_keyiterator",data:=.fields #[.ref d,.int 0 0,.int kvs.length 0,.int ep 0] }:=P2 _ rfl;have kq:∀b o,s.heap.get? b=some o->(h2.push { cls:=.type "dict_keyiterator",data:=.fields #[.ref d,.int 0 0,.int kvs.length 0,.int ep 0] }).get? b=some o:=λb o e=>kp2 _ _ (kp b o e);generalize(h2.push { cls:=.type "dict_keyiterator",data:=.fields #[.ref d,.int 0 0,.int kvs.length 0,.int ep 0] })=h3 at hS3 it3 kq hm3;refine f8 (f8 (a2O hS3 rfl ?_));have hS4:=a0r (Obj.mapSeq (λx:Array Value=>x.push Value.none)) hS3 rfl;refine a2O hS4 rfl ?_;have hS5:=a0r (Obj.mapSeq (λx:Array Value=>x.pop)) hS4 rfl;have ku:∀b o,b≠s.heap.objs.size->h3.get? b=some o->((h3.update s.heap.objs.size (Obj.mapSeq λx=>x.push Value.none)).update s.heap.objs.size (Obj.mapSeq λx=>x.pop)).get? b=some o:=λb o hb e=>
  (S7 _ _ (Ne.symm hb)).trans ((S7 _ _ (Ne.symm hb)).trans e)
 have hm5:=hm3.at' (h':=((h3.update s.heap.objs.size (Obj.mapSeq λx=>x.push Value.none)).update s.heap.objs.size (Obj.mapSeq λx=>x.pop))) λo e=>ku _ _ (Ne.symm hne1) e;have it5:=ku _ _ (a0O s2) it3;have k5:∀b o,s.heap.get? b=some o->((h3.update s.heap.objs.size (Obj.mapSeq λx=>x.push Value.none)).update s.heap.objs.size (Obj.mapSeq λx=>x.pop)).get? b=some o:=λb o e=>ku b o (P1 (O5 e)) (kq b o e);generalize((h3.update s.heap.objs.size (Obj.mapSeq λx=>x.push Value.none)).update s.heap.objs.size (Obj.mapSeq λx=>x.pop))=h5 at hS5 hm5 it5 k5;refine O0 ⟨a25 PySem.F.plain_extend_loop _,codeAny_extend_loopS (Walks.dictKeys (knd:=knd) (A:=A.in1.in1) hh h2.objs.size d dn kvs ep).toS hn s.heap.objs.size (by simp;exact⟨P1 s2,hne1⟩) _ kvs.length 0 _ _ _ rfl (T6 _) (show _/\_ from⟨⟨_,it5,rfl,rfl⟩,hm5⟩) hS5 (ItemsOf.nil _) λs' acc' c' hmv hS' hacc=>?_⟩;rw[Moved.eq_with hmv];refine⟨rfl,hQ s'.heap s'.toks acc' c' (λb o e=>hmv.heap b o (λhmem=>?_) (k5 b o e)) hS' hacc⟩;have:=O5 e;rcases P8.mp hmem with e'|hm
 .exact P1 this e'
 .exact P1 (a10 this s2) (S0.mp hm)
end
section
variable {X:Cx}
def BG:List V->Hp->VK->Prop:=λvs H Q=>∃p es,vs=[.ref p]/\Rd H p (.dK es)/\∀l,H l=none->Q (.ref l) (upd H l (.lst (es.map λkv=>kV kv.1)))
def nI(hc:X.calm=true):vU X (.type "list") BG:=by
 intro pins s σ H xs us Q I r h;obtain⟨p,es,rfl,hS,q⟩:=h;obtain⟨u,rfl,ru⟩:=vals1 r;cases ru;obtain⟨z,hd,vs,rel,o,ds,ep,e1,e2,e3,e4,e5,e6⟩:=JM I.hok hS;have hl:vs.length=es.length:=rel.length.symm;refine DB (knd:=yY X.prog X.w) (kvs:=vs) (ep:=ep) (I.ok.hd hc) hd ⟨o,ds,e1,e2,e3,e4,e5,e6⟩ (by rw[hl];exact z) λh' tk acc' c' hk hg hi=>?_;refine xT (s:=s) (tk:=tk) I (O2 _) hk hg ?_ ?_ ?_ q
 .rw[u8];exact z
 .rw[u8,hi.1,hl]
 .intro j x v f1 f2;obtain⟨k,y,f3,f4⟩:=hi.2 j v f2;rw[S4]at f1;obtain⟨kx,f5,rfl⟩:=N8.mp f1;obtain⟨w',hw⟩:=GG rel (k:=kx.1) (v:=kx.2) f5;rw[hw]at f3;cases f3;exact rV f4
end
def jI:List PV->Out PV
 |[.l xs]=>.ok (.l xs)
 |[.t xs]=>.ok (.l xs)
 |[.sc xs]=>.ok (.l (xs.map PV.i))
 |[.d kvs]=>.ok (.l (kvs.map λkx=>kP kx.1))
 |_=>.wall
def lH{W:RC}{M:Of}{H:Hp}:∀{kvs:Oz}{es:Oo},j8 W M H kvs es->yQ W M H (kvs.map λkx=>kP kx.1) (es.map λkv=>kV kv.1)
 |[],_,h=>by cases(show _=_ from h);rfl
 |kx::r,_,⟨v,q,e,h1,h2⟩=>by subst e;exact⟨_,_,rfl,GH _,lH h2⟩
def xZ(L:LfF W r C9):LfF W (λvs H Q=>r vs H Q\/BG vs H Q) jI:=λM C B H xs vs Q n h q=>by
 unfold jI at q;split at q
 .exact .inl (L M C B H _ vs Q n h q)
 .exact .inl (L M C B H _ vs Q n h q)
 .exact .inl (L M C B H _ vs Q n h q)
 .obtain⟨v,r,rfl,⟨p,es,rfl,_,hl,rr⟩,hr⟩:=h;cases(show _=_ from hr);exact .inr ⟨p,es,rfl,hl,λl hl=>q _ _ (zI.upd hl) (QN (lH rr) hl)⟩
 .exact q.elim
def kI(hc:X.calm=true)(hg:Gl X "list")(hm:X.mg "list"=none)(ha:AM X C S ws [e] ms)(he:starEach [e] X.env=[(false,eval e X.env)]:=by rfl):FM X C S (.Call (.Name "list" p) [e] [] pos) (zj jI ms):=
 lj (λhK=>hK▸dQ.or (nI hc)) (xZ Dc) hg hm PyProof.Rows.boot_list ha (he:=he)
section
variable {X:Cx}{C:LC}{S:Od}{e:Oq}{ws:Oh}{ms:MA}{pos p:Pos}
end
inductive HV where
 |v (x:PV)|g (k:Nat)|t (xs:List HV)
inductive Cell where
 |l (xs:List HV)|d (kvs:List (Key×HV))|z (kvs:List (Key×HV))|o (c:Nat) (fs:List (Str×HV))
abbrev AH:=List Cell
abbrev K4:=List (Option HV)
structure HC where
 W:RC
 H0:Hp
 M0:Addr->Prop
def HM(Z:HC)(A:Ol)(n:Nat):Addr->Prop:=λa=>(Z.M0 a\/Z.H0 a=none)/\∀k,k<n->A k≠a
mutual
def JB(W:RC)(M:Of)(A:Ol)(n:Nat)(H:Hp):HV->V->Prop
 |.v x,v=>Rep W M H x v
 |.g k,v=>k<n/\v=.ref (A k)
 |.t xs,v=>∃p vs,v=.ref p/\SqT W.K H p vs/\k7 W M A n H xs vs
def k7(W:RC)(M:Of)(A:Ol)(n:Nat)(H:Hp):List HV->List V->Prop
 |[],vs=>vs=[]
 |x::xs,vs=>∃v r,vs=v::r/\JB W M A n H x v/\k7 W M A n H xs r
end
def qZ{κ:Type}(R:HV->V->Prop):List (κ×HV)->List (κ×V)->Prop
 |[],es=>es=[]
 |kx::r,es=>∃v q,es=(kx.1,v)::q/\R kx.2 v/\qZ R r q
section
variable {W:RC}{M M':Of}{A A':Ol}{n n':Nat}{H H':Hp}
mutual
def JB.gen(f:Fr M H H')(s:∀a,M a->H a≠none->M' a)(hn:n<=n')(ha:∀k,k<n->A' k=A k):∀{x:HV}{v:V},JB W M A n H x v->JB W M' A' n' H' x v
 |.v x,v,h=>Rep.gen f s h
 |.g k,v,h=>⟨P4 h.1 hn,by rw[ha k h.1];exact h.2⟩
 |.t xs,v,h=>by unfold JB at h ⊢;obtain⟨p,vs,e,r,q⟩:=h;exact⟨p,vs,e,f.sqT r,k7.gen f s hn ha q⟩
def k7.gen(f:Fr M H H')(s:∀a,M a->H a≠none->M' a)(hn:n<=n')(ha:∀k,k<n->A' k=A k):∀{x:List HV}{v:Oi},k7 W M A n H x v->k7 W M' A' n' H' x v
 |[],v,h=>h
 |x::xs,vs,h=>by unfold k7 at h ⊢;obtain⟨v,r,e,h1,h2⟩:=h;exact⟨v,r,e,JB.gen f s hn ha h1,k7.gen f s hn ha h2⟩
end
def qZ.imp{κ:Type}{R R':HV->V->Prop}(h:∀x v,R x v->R' x v):∀{kvs:List (κ×HV)}{es:List (κ×V)},qZ R kvs es->qZ R' kvs es
 |[],_,q=>q
 |_::_,_,⟨v,q,e,a,b⟩=>⟨v,q,e,h _ _ a,qZ.imp h b⟩
def hX(W:RC)(M:Of)(A:Ol)(n:Nat)(H:Hp)(p:Addr):Cell->Prop
 |.l xs=>∃vs,H p=some (.lst vs)/\k7 W M A n H xs vs
 |.d kvs=>∃es,H p=some (.dK es)/\qZ (JB W M A n H) kvs es
 |.z kvs=>∃o es,H p=some (.frz o (.dK es))/\qZ (JB W M A n H) kvs es
 |.o c fs=>∃dx es,H p=some (.ins (W.cls c) dx es)/\qZ (JB W M A n H) fs es
def hX.gen{p:Addr}(hp:H' p=H p)(f:Fr M H H')(s:∀a,M a->H a≠none->M' a)(hn:n<=n')(ha:∀k,k<n->A' k=A k):∀{c:Cell},hX W M A n H p c->hX W M' A' n' H' p c
 |.l _,⟨vs,e,q⟩=>⟨vs,hp.trans e,q.gen f s hn ha⟩
 |.d _,⟨es,e,q⟩=>⟨es,hp.trans e,q.imp λ_ _=>JB.gen f s hn ha⟩
 |.z _,⟨o,es,e,q⟩=>⟨o,es,hp.trans e,q.imp λ_ _=>JB.gen f s hn ha⟩
 |.o _ _,⟨dx,es,e,q⟩=>⟨dx,es,hp.trans e,q.imp λ_ _=>JB.gen f s hn ha⟩
def hX.ob{p:Addr}:∀{c:Cell},hX W M A n H p c->∃o,H p=some o
 |.l _,⟨_,e,_⟩=>⟨_,e⟩
 |.d _,⟨_,e,_⟩=>⟨_,e⟩
 |.z _,⟨_,_,e,_⟩=>⟨_,e⟩
 |.o _ _,⟨_,_,e,_⟩=>⟨_,e⟩
end
structure Gro(Z:HC)(A:Ol)(n:Nat)(H:Hp)(A':Ol)(n':Nat)(H':Hp):Prop where
 le:n<=n'
 agr:∀k,k<n->A' k=A k
 fresh:∀k,n<=k->k<n'->H (A' k)=none
 fr:Fr (HM Z A n) H H'
 dom:∀a,H' a=none->H a=none
structure HH(Z:HC)(A:Ol)(H:Hp)(G:AH):Prop where
 same:zI Z.H0 H
 cell:∀(k:Nat) c,G[k]?=some c->hX Z.W (HM Z A G.length) A G.length H (A k) c
 inj:∀j k,j<G.length->k<G.length->A j=A k->j=k
 own:∀k,k<G.length->Z.H0 (A k)=none
structure HR(Z:HC)(A:Ol)(H:Hp)(σ:St)(ρ:K4)(G:AH):Prop extends HH Z A H G where
 len:σ.length=ρ.length
 var:∀(i:Nat) x,ρ[i]?=some (some x)->∃v,σ[i]?=some (some v)/\JB Z.W (HM Z A G.length) A G.length H x v
section
variable {Z:HC}{A A' A'':Ol}{n n' n'':Nat}{H H' H'':Hp}{G G' G'':AH}{σ σ':St}{ρ ρ':K4}
def Gro.sM(g:Gro Z A n H A' n' H'):∀a,HM Z A n a->H a≠none->HM Z A' n' a:=λa m h=>⟨m.1,λk hk e=>by
 by_cases c:k<n
 .exact m.2 k c (by rw[<- g.agr k c];exact e)
 .exact h (e▸g.fresh k (by omega) hk)⟩
def Gro.same(s:zI H H'):Gro Z A n H A n H':=⟨O2 _,λ_ _=>rfl,λk a b=>absurd b (by omega),s.fr,λa h=>zI.none s h⟩
def Gro.refl:Gro Z A n H A n H:=Gro.same (zI.refl _)
def Gro.trans(g:Gro Z A n H A' n' H')(k:Gro Z A' n' H' A'' n'' H''):Gro Z A n H A'' n'' H'':=by
 refine⟨P7 g.le k.le,λj hj=>(k.agr j (P4 hj g.le)).trans (g.agr j hj),λj h1 h2=>?_,λa o h m=>?_,λa h=>g.dom a (k.dom a h)⟩
 .by_cases c:j<n'
  .rw[k.agr j c];exact g.fresh j h1 c
  .exact g.dom _ (k.fresh j (by omega) h2)
 .refine k.fr a o (g.fr a o h m) (m.imp (λm=>g.sM a m (by rw[h];exact λz=>by cases z)) id)
def JB.gro(g:Gro Z A n H A' n' H')(h:JB W (HM Z A n) A n H x v):JB W (HM Z A' n') A' n' H' x v:=h.gen g.fr g.sM g.le g.agr
def k7.gro(g:Gro Z A n H A' n' H')(h:k7 W (HM Z A n) A n H x v):k7 W (HM Z A' n') A' n' H' x v:=h.gen g.fr g.sM g.le g.agr
def HR.gro(R:HR Z A H σ ρ G)(h:HH Z A' H' G')(g:Gro Z A G.length H A' G'.length H'):HR Z A' H' σ ρ G':=
 ⟨h,R.len,λi x e=>let⟨v,h1,h2⟩:=R.var i x e;⟨v,h1,h2.gro g⟩⟩
def HH.ob(h:HH Z A H G)(hk:k<G.length):∃o,H (A k)=some o:=(h.cell k _ (P0 hk)).ob
def HH.keep(h:HH Z A H G)(s:zI H H'):HH Z A H' G:=⟨h.same.trans s,λk c e=>by
 have q:=h.cell k c e;obtain⟨o,ho⟩:=q.ob;exact q.gen ((s _ _ ho).trans ho.symm) s.fr (λ_ m _=>m) (O2 _) λ_ _=>rfl,h.inj,h.own⟩
def HH.new(h:HH Z A H G):New (HM Z A G.length) H:=λp hp=>⟨.inr (zI.none h.same hp),λk hk e=>by
 obtain⟨o,ho⟩:=h.ob hk;rw[e,hp]at ho;cases ho⟩
def HR.keep(R:HR Z A H σ ρ G)(s:zI H H'):HR Z A H' σ ρ G:=R.gro (R.toHH.keep s) (Gro.same s)
def exA(A:Ol)(n:Nat)(p:Addr):Nat->Addr:=λk=>if k=n then p else A k
def XT:exA A n p n=p:=if_pos rfl
def Wi(h:k<n):exA A n p k=A k:=if_neg (by omega)
def Gro.ext(s:zI H H')(hp:H p=none):Gro Z A n H (exA A n p) (n+1) H':=
 ⟨a0w _,λk hk=>Wi hk,λk h1 h2=>by rw[show k=n by omega,XT];exact hp,s.fr,λa h=>zI.none s h⟩
def HH.alloc(h:HH Z A H G)(s:zI H H')(hp:H p=none)(hc:hX Z.W (HM Z (exA A G.length p) (G.length+1)) (exA A G.length p) (G.length+1) H' p c):HH Z (exA A G.length p) H' (G++[c]):=by
 have g:Gro Z A G.length H (exA A G.length p) (G.length+1) H':=Gro.ext s hp;have hl:(G++[c]).length=G.length+1:=by simp
 have np:∀k,k<G.length->A k≠p:=λk hk e=>by obtain⟨o,ho⟩:=h.ob hk;rw[e,hp]at ho;cases ho
 refine⟨h.same.trans s,λk d e=>?_,λj k hj hk e=>?_,λk hk=>?_⟩
 .rw[hl];by_cases hk:k<G.length
  .rw[a0h hk]at e;have q:=h.cell k d e;obtain⟨o,ho⟩:=q.ob;rw[Wi hk];exact q.gen ((s _ _ ho).trans ho.symm) g.fr g.sM g.le g.agr
  .have e2:=(P6.mp e).1;have ek:k=G.length:=by omega
   subst ek;rw[a2g (O2 _),Nat.sub_self]at e;cases e;rw[XT];exact hc
 .rw[hl]at hj hk;by_cases c1:j=G.length
  .by_cases c2:k=G.length
   .rw[c1,c2]
   .rw[c1,XT,Wi (by omega)]at e;exact absurd e.symm (np k (by omega))
  .by_cases c2:k=G.length
   .rw[c2,XT,Wi (by omega)]at e;exact absurd e (np j (by omega))
   .rw[Wi (by omega),Wi (by omega)]at e;exact h.inj j k (by omega) (by omega) e
 .rw[hl]at hk;by_cases c1:k=G.length
  .rw[c1,XT];exact zI.none h.same hp
  .rw[Wi (by omega)];exact h.own k (by omega)
def HH.frw(h:HH Z A H G)(hk:k<G.length)(h0:H (A k)=Option.some o0)(n0:¬Imm o0):Gro Z A G.length H A G.length (upd H (A k) o):=by
 refine⟨O2 _,λ_ _=>rfl,λk a b=>absurd b (by omega),λa q e m=>?_,λa e=>?_⟩
 .have:a≠A k:=λz=>by
   rcases m with m|m
   .exact m.2 k hk z.symm
   .rw[z,h0]at e;cases e;exact n0 m
  rw[zg this];exact e
 .by_cases z:a=A k
  .rw[z,zi]at e;cases e
  .rw[zg z]at e;exact e
def HH.write(h:HH Z A H G)(hk:k<G.length)(h0:H (A k)=Option.some o0)(n0:¬Imm o0)(hc:hX Z.W (HM Z A G.length) A G.length (upd H (A k) o) (A k) c):HH Z A (upd H (A k) o) (G.set k c):=by
 have g:=h.frw (o:=o) hk h0 n0;have hl:(G.set k c).length=G.length:=T5 ..;refine⟨λa q e=>?_,λj d e=>?_,λi j hi hj=>h.inj i j (hl▸hi) (hl▸hj),λj hj=>h.own j (hl▸hj)⟩
 .have:a≠A k:=λz=>by rw[z,h.own k hk]at e;cases e
  rw[zg this];exact h.same a q e
 .rw[hl];by_cases hj:k=j
  .subst hj;rw[S6 hk]at e;cases e;exact hc
  .rw[S8 hj]at e;have jl:=(P6.mp e).1;exact(h.cell j d e).gen (zg λz=>hj (h.inj j k jl hk z).symm) g.fr g.sM g.le g.agr
def HR.set(R:HR Z A H σ ρ G)(hx:JB Z.W (HM Z A G.length) A G.length H x v):HR Z A H (σ.set i (Option.some v)) (ρ.set i (Option.some x)) G:=by
 refine⟨R.toHH,by rw[T5,T5];exact R.len,λj y e=>?_⟩;by_cases hij:i=j
 .subst hij;have hl:i<ρ.length:=by
   have:=(P6.mp e).1
   rwa [T5]at this
  rw[S6 hl]at e;cases e;exact⟨v,by rw[S6 (by rw[R.len];exact hl)],hx⟩
 .rw[S8 hij]at e ⊢;exact R.var j y e
end
inductive HX(α:Type)where
 |ok (a:α) (G:AH)|exc (c:Nat) (fs:OA) (G:AH)|wall
def HX.bind{α β:Type}:HX α->(α->AH->HX β)->HX β
 |.ok a G,f=>f a G
 |.exc c fs G,_=>.exc c fs G
 |.wall,_=>.wall
def uH(Z:HC)(E:XK)(A:Ol)(n:Nat)(H:Hp)(c:Nat)(fs:OA)(G':AH):Prop:=∀A' H' e dx es,HH Z A' H' G'->Gro Z A n H A' G'.length H'->H' e=some (XC e (Z.W.cls c) dx)->H' dx=some (XD dx es)->vI Z.W (HM Z A' G'.length) H' fs es->E (.ref e) (some dx) H'
def HPx{α:Type}(Z:HC)(E:XK)(A:Ol)(n:Nat)(H:Hp)(K:α->(Nat->Addr)->Hp->AH->Prop):HX α->Prop
 |.ok x G'=>∀A' H',HH Z A' H' G'->Gro Z A n H A' G'.length H'->K x A' H' G'
 |.exc c fs G'=>uH Z E A n H c fs G'
 |.wall=>False
section
variable {α β:Type}{K:β->(Nat->Addr)->Hp->AH->Prop}{K':α->(Nat->Addr)->Hp->AH->Prop}
def uH.gro(h:uH Z E A n H c fs G)(g:Gro Z A n H A' n' H'):uH Z E A' n' H' c fs G:=λA2 H2 e dx es h2 g2=>h A2 H2 e dx es h2 (g.trans g2)
def HPx.gro{o:HX β}(h:HPx Z E A n H K o)(g:Gro Z A n H A' n' H'):HPx Z E A' n' H' K o:=by
 cases o with
 |ok x G'=>exact λA2 H2 h2 g2=>h A2 H2 h2 (g.trans g2)
 |exc c fs G'=>exact uH.gro h g
 |wall=>exact h
def HPx.bind{o:HX α}{f:α->AH->HX β}(h:HPx Z E A n H K (o.bind f))(k:∀x A' H' G',HH Z A' H' G'->Gro Z A n H A' G'.length H'->HPx Z E A' G'.length H' K (f x G')->K' x A' H' G'):HPx Z E A n H K' o:=by
 cases o with
 |ok x G'=>exact λA2 H2 h2 g2=>k x A2 H2 G' h2 g2 (HPx.gro (o:=f x G') h g2)
 |exc c fs G'=>exact h
 |wall=>exact h
end
abbrev HME:=K4->AH->HX HV
abbrev HMT:=K4->AH->HX Bool
abbrev HMA:=K4->AH->HX (List HV)
def KV'(Z:HC)(Q:VK):HV->(Nat->Addr)->Hp->AH->Prop:=λx A' H' G'=>∀v,JB Z.W (HM Z A' G'.length) A' G'.length H' x v->Q v H'
def KT'(Q:Bool->Hp->Prop):Bool->(Nat->Addr)->Hp->AH->Prop:=λb _ H' _=>Q b H'
def KA'(Z:HC)(Q:List V->Hp->Prop):List HV->(Nat->Addr)->Hp->AH->Prop:=λxs A' H' G'=>∀vs,k7 Z.W (HM Z A' G'.length) A' G'.length H' xs vs->Q vs H'
def HE(X:Cx)(W:RC)(E:XK)(e:Oq)(m:HME):Prop:=X.K=W.K->∃te,PE X e te/\∀(Z:HC),Z.W=W->∀A H σ ρ G,HR Z A H σ ρ G->∀Q,HPx Z E A G.length H (KV' Z Q) (m ρ G)->te σ H Q
def HT(X:Cx)(W:RC)(E:XK)(e:Oq)(m:HMT):Prop:=X.K=W.K->∃te,PT X e te/\∀(Z:HC),Z.W=W->∀A H σ ρ G,HR Z A H σ ρ G->∀Q,HPx Z E A G.length H (KT' Q) (m ρ G)->te σ H Q
def HA(X:Cx)(W:RC)(E:XK)(es:Om)(m:HMA):Prop:=X.K=W.K->∃te,PA X es te/\∀(Z:HC),Z.W=W->∀A H σ ρ G,HR Z A H σ ρ G->∀Q,HPx Z E A G.length H (KA' Z Q) (m ρ G)->te σ H Q
mutual
def imm:PV->Bool
 |.i _=>true | .s _=>true | .b _=>true | .n=>true
 |.t xs=>uI xs
 |.l _=>false | .d _=>false | .o _ _=>false | .x _ _=>false | .sc _=>false | .dt _=>false
def uI:List PV->Bool
 |[]=>true
 |x::xs=>imm x&&uI xs
end
def x6:List (Str×PV)->Bool
 |[]=>true
 |x::xs=>imm x.2&&x6 xs
section
variable {W:RC}{M M':Of}{A A':Ol}{n n':Nat}{H H':Hp}
mutual
def XU:∀{x:PV}{v:V},imm x=true->Rep W M H x v->Rep W M' H x v
 |.i _,_,_,h=>h
 |.s _,_,_,h=>h
 |.b _,_,_,h=>h
 |.n,_,_,h=>h
 |.t xs,_,e,h=>by unfold Rep at h ⊢;unfold imm at e;obtain⟨p,vs,e1,r,q⟩:=h;exact⟨p,vs,e1,r,cC e q⟩
 |.l _,_,e,_=>by unfold imm at e;cases e
 |.d _,_,e,_=>by unfold imm at e;cases e
 |.o _ _,_,e,_=>by unfold imm at e;cases e
 |.x _ _,_,e,_=>by unfold imm at e;cases e
 |.sc _,_,e,_=>by unfold imm at e;cases e
 |.dt _,_,e,_=>by unfold imm at e;cases e
def cC:∀{x:Ov}{v:Oi},uI x=true->yQ W M H x v->yQ W M' H x v
 |[],_,_,h=>h
 |x::xs,_,e,h=>by unfold uI at e;simp only[Bool.and_eq_true]at e;obtain⟨v,r,e1,h1,h2⟩:=h;exact⟨v,r,e1,XU e.1 h1,cC e.2 h2⟩
end
def Vf:∀{x:OA}{v:OE},x6 x=true->vI W M H x v->vI W M' H x v
 |[],_,_,h=>h
 |x::xs,_,e,h=>by unfold x6 at e;simp only[Bool.and_eq_true]at e;obtain⟨v,r,e1,h1,h2⟩:=h;exact⟨v,r,e1,XU e.1 h1,Vf e.2 h2⟩
def Wj:List Bool->K4->Option Sto
 |_,[]=>some []
 |[],_::ρ=>(Wj [] ρ).map (none::·)
 |false::bs,_::ρ=>(Wj bs ρ).map (none::·)
 |true::bs,some (.v x)::ρ=>(Wj bs ρ).map (some x::·)
 |true::_,_=>none
def x8(f:HV->Option PV):List HV->Option (List PV)
 |[]=>some []
 |x::xs=>(f x).bind λy=>(x8 f xs).map (y::·)
def oF{κ:Type}(f:HV->Option PV):List (κ×HV)->Option (List (κ×PV))
 |[]=>some []
 |x::xs=>(f x.2).bind λy=>(oF f xs).map ((x.1,y)::·)
def YD(G:AH):Nat->HV->Option PV
 |0,_=>none
 |_+1,.v x=>some x
 |n+1,.t xs=>(x8 (YD G n) xs).map .t
 |n+1,.g k=>match G[k]? with
  |some (.l xs)=>(x8 (YD G n) xs).map .l
  |some (.d kvs)=>(oF (YD G n) kvs).map .d
  |some (.z kvs)=>(oF (YD G n) kvs).map .d
  |some (.o c fs)=>(oF (YD G n) fs).map (.o c)
  |none=>none
def KN(G:AH):List Bool->K4->Option Sto
 |_,[]=>some []
 |[],_::ρ=>(KN G [] ρ).map (none::·)
 |false::bs,_::ρ=>(KN G bs ρ).map (none::·)
 |true::bs,some x::ρ=>(YD G 8 x).bind λy=>(KN G bs ρ).map (some y::·)
 |true::_,none::_=>none
def cD{f:HV->Option PV}{N:Of}(hf:∀x v y,JB W M A n H x v->f x=some y->Rep W N H y v):∀{xs:List HV}{vs:Oi}{ys:Ov},k7 W M A n H xs vs->x8 f xs=some ys->yQ W N H ys vs
 |[],_,_,h,e=>by cases e;exact h
 |x::xs,_,ys,h,e=>by obtain⟨v,r,rfl,h1,h2⟩:=h;unfold x8 at e;obtain⟨y,e1,e⟩:=R9.mp e;obtain⟨zs,e2,rfl⟩:=N8.mp e;exact⟨v,r,rfl,hf _ _ _ h1 e1,cD hf h2 e2⟩
def cE{f:HV->Option PV}{N:Of}(hf:∀x v y,JB W M A n H x v->f x=some y->Rep W N H y v):∀{xs:List (Key×HV)}{vs:Oo}{ys:Oz},qZ (JB W M A n H) xs vs->oF f xs=some ys->j8 W N H ys vs
 |[],_,_,h,e=>by cases e;exact h
 |x::xs,_,ys,h,e=>by obtain⟨v,r,rfl,h1,h2⟩:=h;unfold oF at e;obtain⟨y,e1,e⟩:=R9.mp e;obtain⟨zs,e2,rfl⟩:=N8.mp e;exact⟨v,r,rfl,hf _ _ _ h1 e1,cE hf h2 e2⟩
def lI{f:HV->Option PV}{N:Of}(hf:∀x v y,JB W M A n H x v->f x=some y->Rep W N H y v):∀{xs:List (Str×HV)}{vs:OE}{ys:OA},qZ (JB W M A n H) xs vs->oF f xs=some ys->vI W N H ys vs
 |[],_,_,h,e=>by cases e;exact h
 |x::xs,_,ys,h,e=>by obtain⟨v,r,rfl,h1,h2⟩:=h;unfold oF at e;obtain⟨y,e1,e⟩:=R9.mp e;obtain⟨zs,e2,rfl⟩:=N8.mp e;exact⟨v,r,rfl,hf _ _ _ h1 e1,lI hf h2 e2⟩
end
section
variable {Z:HC}{A:Ol}{H:Hp}{G:AH}{σ:St}{ρ:K4}
def QR(h:HH Z A H G):∀(n:Nat)(x:HV)(v:V)(y:PV),JB Z.W (HM Z A G.length) A G.length H x v->YD G n x=some y->Rep Z.W (λ_=>True) H y v
 |0,_,_,_,_,e=>by cases e
 |n+1,.v x,v,y,r,e=>by cases e;exact Rep.sub r λ_ _ _=>trivial
 |n+1,.t xs,v,y,r,e=>by unfold YD at e;obtain⟨ys,e1,rfl⟩:=N8.mp e;unfold JB at r;obtain⟨p,vs,rfl,s,q⟩:=r;exact⟨p,vs,rfl,s,cD (QR h n) q e1⟩
 |n+1,.g k,v,y,r,e=>by
  obtain⟨hk,rfl⟩:=r;unfold YD at e;split at e
  .rename_i xs hc;obtain⟨ys,e1,rfl⟩:=N8.mp e;obtain⟨vs,h1,q⟩:=h.cell k _ hc;exact⟨A k,vs,rfl,trivial,h1,cD (QR h n) q e1⟩
  .rename_i xs hc;obtain⟨ys,e1,rfl⟩:=N8.mp e;obtain⟨vs,h1,q⟩:=h.cell k _ hc;exact⟨A k,vs,rfl,trivial,.inl h1,cE (QR h n) q e1⟩
  .rename_i xs hc;obtain⟨ys,e1,rfl⟩:=N8.mp e;obtain⟨o,vs,h1,q⟩:=h.cell k _ hc;exact⟨A k,vs,rfl,trivial,.inr ⟨o,h1⟩,cE (QR h n) q e1⟩
  .rename_i c xs hc;obtain⟨ys,e1,rfl⟩:=N8.mp e;obtain⟨dx,vs,h1,q⟩:=h.cell k _ hc;exact⟨A k,dx,vs,rfl,trivial,h1,lI (QR h n) q e1⟩
  .cases e
def Vg:∀{bs:Oh}{ρ:K4}{r:Sto}{i:Nat}{x:PV},Wj bs ρ=some r->r[i]?=some (some x)->ρ[i]?=some (some (.v x))
 |_,[],r,i,x,e,h=>by unfold Wj at e;cases e;simp at h
 |[],_::ρ,r,i,x,e,h=>by
  unfold Wj at e;obtain⟨r',e1,rfl⟩:=N8.mp e;cases i with
  |zero=>cases h
  |succ i=>rw[T2]at h ⊢;exact Vg e1 h
 |false::bs,_::ρ,r,i,x,e,h=>by
  unfold Wj at e;obtain⟨r',e1,rfl⟩:=N8.mp e;cases i with
  |zero=>cases h
  |succ i=>rw[T2]at h ⊢;exact Vg e1 h
 |true::bs,some (.v y)::ρ,r,i,x,e,h=>by
  unfold Wj at e;obtain⟨r',e1,rfl⟩:=N8.mp e;cases i with
  |zero=>cases h;rfl
  |succ i=>rw[T2]at h ⊢;exact Vg e1 h
 |true::bs,none::ρ,r,i,x,e,h=>by cases e
 |true::bs,some (.g _)::ρ,r,i,x,e,h=>by cases e
 |true::bs,some (.t _)::ρ,r,i,x,e,h=>by cases e
def Vh:∀{bs:Oh}{ρ:K4}{r:Sto},Wj bs ρ=some r->r.length=ρ.length
 |_,[],r,e=>by unfold Wj at e;cases e;rfl
 |[],_::ρ,r,e=>by unfold Wj at e;obtain⟨r',e1,rfl⟩:=N8.mp e;rw[N9,N9,Vh e1]
 |false::bs,_::ρ,r,e=>by unfold Wj at e;obtain⟨r',e1,rfl⟩:=N8.mp e;rw[N9,N9,Vh e1]
 |true::bs,some (.v y)::ρ,r,e=>by unfold Wj at e;obtain⟨r',e1,rfl⟩:=N8.mp e;rw[N9,N9,Vh e1]
 |true::bs,none::ρ,r,e=>by cases e
 |true::bs,some (.g _)::ρ,r,e=>by cases e
 |true::bs,some (.t _)::ρ,r,e=>by cases e
def Xh:∀{bs:Oh}{ρ:K4}{r:Sto}{i:Nat}{x:PV},KN G bs ρ=some r->r[i]?=some (some x)->∃y,ρ[i]?=some (some y)/\YD G 8 y=some x
 |_,[],r,i,x,e,h=>by unfold KN at e;cases e;simp at h
 |[],_::ρ,r,i,x,e,h=>by
  unfold KN at e;obtain⟨r',e1,rfl⟩:=N8.mp e;cases i with
  |zero=>cases h
  |succ i=>rw[T2]at h ⊢;exact Xh e1 h
 |false::bs,_::ρ,r,i,x,e,h=>by
  unfold KN at e;obtain⟨r',e1,rfl⟩:=N8.mp e;cases i with
  |zero=>cases h
  |succ i=>rw[T2]at h ⊢;exact Xh e1 h
 |true::bs,some y::ρ,r,i,x,e,h=>by
  unfold KN at e;obtain⟨z,e0,e⟩:=R9.mp e;obtain⟨r',e1,rfl⟩:=N8.mp e;cases i with
  |zero=>cases h;exact⟨y,rfl,e0⟩
  |succ i=>rw[T2]at h ⊢;exact Xh e1 h
 |true::bs,none::ρ,r,i,x,e,h=>by cases e
def Xi:∀{bs:Oh}{ρ:K4}{r:Sto},KN G bs ρ=some r->r.length=ρ.length
 |_,[],r,e=>by unfold KN at e;cases e;rfl
 |[],_::ρ,r,e=>by unfold KN at e;obtain⟨r',e1,rfl⟩:=N8.mp e;rw[N9,N9,Xi e1]
 |false::bs,_::ρ,r,e=>by unfold KN at e;obtain⟨r',e1,rfl⟩:=N8.mp e;rw[N9,N9,Xi e1]
 |true::bs,some y::ρ,r,e=>by unfold KN at e;obtain⟨z,e0,e⟩:=R9.mp e;obtain⟨r',e1,rfl⟩:=N8.mp e;rw[N9,N9,Xi e1]
 |true::bs,none::ρ,r,e=>by cases e
def GJ{S:Od}(hS:S.all (·==0)=true){i c:Nat}(h:S[i]?=some c):c=0:=by have:=a1m.mp hS c (a1k h);simpa using this
def GK(hl:σ.length=r.length)(hS:S.all (·==0)=true)(hv:∀(i:Nat) x,r[i]?=some (some x)->∃v,σ[i]?=some (some v)/\Rep Z.W M H x v):Rel Z.W (uF H M) S (λ_=>0) H σ r:=by
 have n2:∀{k:Nat},S[k]?=some 2->False:=λ{k} h=>by have:=GJ hS h;omega
 have n1:∀{k:Nat},S[k]?=some 1->False:=λ{k} h=>by have:=GJ hS h;omega
 refine⟨zI.refl _,hl,λi x e=>?_,λi hi=>(n2 hi).elim,λi j hi=>(n2 hi).elim,λhi=>(n2 hi).elim,λa h=>h.elim,λi hi=>(n2 hi).elim⟩;obtain⟨v,h1,h2⟩:=hv i x e;exact⟨v,h1,λz=>(n2 z).elim,λz=>(n1 z).elim,λ_ _=>h2.sub λa m _=>⟨⟨.inl m,id⟩,λi hi=>(n2 hi).elim⟩⟩
def DC(R:HR Z A H σ ρ G)(e:Wj bs ρ=some r)(hS:S.all (·==0)=true):Rel Z.W (uF H (HM Z A G.length)) S (λ_=>0) H σ r:=
 GK (R.len.trans (Vh e).symm) hS λi x h=>R.var i _ (Vg e h)
def DD(R:HR Z A H σ ρ G)(e:KN G bs ρ=some r)(hS:S.all (·==0)=true):Rel Z.W (uF H λ_=>True) S (λ_=>0) H σ r:=
 GK (R.len.trans (Xi e).symm) hS λi x h=>by obtain⟨y,h1,h2⟩:=Xh e h;obtain⟨v,h3,h4⟩:=R.var i y h1;exact⟨v,h3,QR R.toHH _ _ _ _ h4 h2⟩
def GL(h:HH Z A H G):∀a,Mof (uF H (HM Z A G.length)) S P a->HM Z A G.length a:=λa m=>m.1.1.elim id λn=>h.new a n
end
def hP(bs:Oh)(m:ME):HME:=λρ G=>match Wj bs ρ with
 |some r=>match m r with
  |.ok x=>.ok (.v x) G
  |.exc c fs=>.exc c fs G
  |.wall=>.wall
 |none=>match KN G bs ρ with
  |some r=>match m r with
   |.ok x=>if imm x=true then .ok (.v x) G else .wall
   |.exc c fs=>if x6 fs=true then .exc c fs G else .wall
   |.wall=>.wall
  |none=>.wall
def hPT(bs:Oh)(m:MT):HMT:=λρ G=>match Wj bs ρ with
 |some r=>match m r with
  |.ok x=>.ok x G
  |.exc c fs=>.exc c fs G
  |.wall=>.wall
 |none=>match KN G bs ρ with
  |some r=>match m r with
   |.ok x=>.ok x G
   |.exc c fs=>if x6 fs=true then .exc c fs G else .wall
   |.wall=>.wall
  |none=>.wall
def vK{κ:Type}(xs:List (κ×PV)):List (κ×HV):=xs.map λp=>(p.1,.v p.2)
def sd:PV->Option Cell
 |.l xs=>some (.l (xs.map .v))
 |.d kvs=>some (.d (vK kvs))
 |.o c fs=>some (.o c (vK fs))
 |_=>none
def GN:PV->Bool
 |.l xs=>uI xs
 |.d kvs=>uI (kvs.map (·.2))
 |.o _ fs=>x6 fs
 |_=>false
def hF(bs:Oh)(m:ME):HME:=λρ G=>match Wj bs ρ with
 |some r=>match m r with
  |.ok x=>match sd x with
   |some c=>.ok (.g G.length) (G++[c])
   |none=>.wall
  |.exc c fs=>.exc c fs G
  |.wall=>.wall
 |none=>match KN G bs ρ with
  |some r=>match m r with
   |.ok x=>if GN x=true then match sd x with
    |some c=>.ok (.g G.length) (G++[c])
    |none=>.wall else .wall
   |.exc c fs=>if x6 fs=true then .exc c fs G else .wall
   |.wall=>.wall
  |none=>.wall
section
variable {W:RC}{M M':Of}{A:Ol}{n:Nat}{H:Hp}
def GO:∀{xs:Ov}{vs:Oi},yQ W M H xs vs->k7 W M A n H (xs.map .v) vs
 |[],_,h=>h
 |_::_,_,⟨v,r,e,h1,h2⟩=>⟨v,r,e,h1,GO h2⟩
def GP:∀{xs:Oz}{vs:Oo},j8 W M H xs vs->qZ (JB W M A n H) (vK xs) vs
 |[],_,h=>h
 |_::_,_,⟨v,r,e,h1,h2⟩=>⟨v,r,e,h1,GP h2⟩
def GQ:∀{xs:OA}{vs:OE},vI W M H xs vs->qZ (JB W M A n H) (vK xs) vs
 |[],_,h=>h
 |_::_,_,⟨v,r,e,h1,h2⟩=>⟨v,r,e,h1,GQ h2⟩
def lJ:∀{x:Oz}{v:Oo},uI (x.map (·.2))=true->j8 W M H x v->j8 W M' H x v
 |[],_,_,h=>h
 |x::xs,_,e,h=>by rw[O8]at e;unfold uI at e;simp only[Bool.and_eq_true]at e;obtain⟨v,r,e1,h1,h2⟩:=h;exact⟨v,r,e1,XU e.1 h1,lJ e.2 h2⟩
def GR(hx:cb W M H p x)(e:sd x=some c):hX W M A n H p c:=by
 cases x with
 |l xs=>cases e;obtain⟨vs,h,r⟩:=hx;exact⟨vs,h,GO r⟩
 |d xs=>cases e;obtain⟨vs,h,r⟩:=hx;exact⟨vs,h,GP r⟩
 |o k xs=>cases e;obtain⟨dx,vs,h,r⟩:=hx;exact⟨dx,vs,h,GQ r⟩
 |_=>cases e
def x9(e:GN x=true)(hx:cb W M H p x):cb W M' H p x:=by
 cases x with
 |l xs=>obtain⟨vs,h,r⟩:=hx;exact⟨vs,h,cC e r⟩
 |d xs=>obtain⟨vs,h,r⟩:=hx;exact⟨vs,h,lJ e r⟩
 |o k xs=>obtain⟨dx,vs,h,r⟩:=hx;exact⟨dx,vs,h,Vf e r⟩
 |_=>cases e
end
section
variable {X:Cx}{W:RC}{E:XK}{fr:Bool}{S:Od}{e a b:Oq}{es:Om}{m:ME}{t:MT}{bs:Oh}{pos p:Pos}{i:Nat}{m1 m2:HME}{ms:HMA}{t1 t2:HMT}
def nJ(h:HH Z A H G)(q:uH Z E A G.length H c fs G)(hM:∀H2 es,vI Z.W (λa=>M a\/H a=none) H2 fs es->vI Z.W (HM Z A G.length) H2 fs es):XPo ⟨Z.W,E,fr⟩ (uF H M) c fs:=
 λe dx es H2 s h1 h2 h3=>q A H2 e dx es (h.keep s) (Gro.same s) h1 h2 (hM H2 es h3)
def NT(bs:Oh)(h:EM X ⟨W,E,fr⟩ S false e m)(hS:S.all (·==0)=true:=by rfl):HE X W E e (hP bs m):=λhK=>by
 obtain⟨te,a1,a2⟩:=h hK;refine⟨te,a1,λZ hZ A H σ ρ G R Q q=>?_⟩;subst hZ;unfold hP at q;split at q
 .rename_i r hr;refine a2 _ _ H σ r (DC R hr hS) Q ?_;revert q;cases m r with
  |ok x=>exact λq v H2 s rx=>q A H2 (R.toHH.keep s) (Gro.same s) v (rx.rep.sub λa m _=>GL R.toHH a m)
  |exc c fs=>exact λq=>nJ R.toHH q λH2 es h=>h.sub λa m _=>m.elim id λn=>R.toHH.new a n
  |wall=>exact id
 .split at q
  .rename_i r hr;refine a2 _ _ H σ r (DD R hr hS) Q ?_;revert q;cases m r with
   |ok x=>
    intro q v H2 s rx;dsimp only at q;split at q
    .rename_i hi;exact q A H2 (R.toHH.keep s) (Gro.same s) v (XU hi rx.rep)
    .exact q.elim
   |exc c fs=>
    intro q;dsimp only at q;split at q
    .rename_i hi;exact nJ R.toHH q λH2 es h=>Vf hi h
    .exact q.elim
   |wall=>exact id
  .exact q.elim
def MY(bs:Oh)(h:TM X ⟨W,E,fr⟩ S e t)(hS:S.all (·==0)=true:=by rfl):HT X W E e (hPT bs t):=λhK=>by
 obtain⟨te,a1,a2⟩:=h hK;refine⟨te,a1,λZ hZ A H σ ρ G R Q q=>?_⟩;subst hZ;unfold hPT at q;split at q
 .rename_i r hr;refine a2 _ _ H σ r (DC R hr hS) Q ?_;revert q;cases t r with
  |ok x=>exact λq H2 s=>q A H2 (R.toHH.keep s) (Gro.same s)
  |exc c fs=>exact λq=>nJ R.toHH q λH2 es h=>h.sub λa m _=>m.elim id λn=>R.toHH.new a n
  |wall=>exact id
 .split at q
  .rename_i r hr;refine a2 _ _ H σ r (DD R hr hS) Q ?_;revert q;cases t r with
   |ok x=>exact λq H2 s=>q A H2 (R.toHH.keep s) (Gro.same s)
   |exc c fs=>
    intro q;dsimp only at q;split at q
    .rename_i hi;exact nJ R.toHH q λH2 es h=>Vf hi h
    .exact q.elim
   |wall=>exact id
  .exact q.elim
def h_{Z:HC}{A:Ol}{H H2:Hp}{G:AH}{c:Cell}{p:Addr}{Q:VK}(h:HH Z A H G)(s:zI H H2)(hp:H p=none)(hc:hX Z.W (HM Z (exA A G.length p) (G.length+1)) (exA A G.length p) (G.length+1) H2 p c)(q:HPx Z E A G.length H (KV' Z Q) (.ok (.g G.length) (G++[c]))):Q (.ref p) H2:=by
 have hl:(G++[c]).length=G.length+1:=by simp
 refine q _ H2 (h.alloc s hp hc) (by rw[hl];exact Gro.ext s hp) _ ⟨by rw[hl];exact a0a _,?_⟩;rw[XT]
def GS{Z:HC}{A:Ol}{n:Nat}{p a:Addr}(m:HM Z A n a)(h:a≠p):HM Z (exA A n p) (n+1) a:=⟨m.1,λk hk e=>by
 by_cases c:k=n
 .rw[c,XT]at e;exact h e.symm
 .rw[Wi (by omega)]at e;exact m.2 k (by omega) e⟩
def NU(bs:Oh)(a2:LFr ⟨W,E,fr⟩ S te m)(hS:S.all (·==0)=true:=by rfl):∀(Z:HC),Z.W=W->∀A H σ ρ G,HR Z A H σ ρ G->∀Q,HPx Z E A G.length H (KV' Z Q) (hF bs m ρ G)->te σ H Q:=λZ hZ A H σ ρ G R Q q=>by
 subst hZ;unfold hF at q;split at q
 .rename_i r hr;refine a2 _ _ H σ r (DC R hr hS) Q ?_;revert q;cases m r with
  |ok x=>
   intro q v H2 s rx;dsimp only at q;split at q
   .rename_i c hc;obtain⟨p,rfl,hp,ra⟩:=rx;exact h_ R.toHH s hp (GR (ra.gen rfl Fr.refl λa m _=>GS (GL R.toHH a m.1) m.2) hc) q
   .exact q.elim
  |exc c fs=>exact λq=>nJ R.toHH q λH2 es h=>h.sub λa m _=>m.elim id λn=>R.toHH.new a n
  |wall=>exact id
 .split at q
  .rename_i r hr;refine a2 _ _ H σ r (DD R hr hS) Q ?_;revert q;cases m r with
   |ok x=>
    intro q v H2 s rx;dsimp only at q;split at q
    .rename_i hi;split at q
     .rename_i c hc;obtain⟨p,rfl,hp,ra⟩:=rx;exact h_ R.toHH s hp (GR (x9 hi ra) hc) q
     .exact q.elim
    .exact q.elim
   |exc c fs=>
    intro q;dsimp only at q;split at q
    .rename_i hi;exact nJ R.toHH q λH2 es h=>Vf hi h
    .exact q.elim
   |wall=>exact id
  .exact q.elim
def NV(bs:Oh)(h:FM X ⟨W,E,fr⟩ S e m)(hS:S.all (·==0)=true:=by rfl):HE X W E e (hF bs m):=λhK=>by obtain⟨te,a1,a2⟩:=h hK;exact⟨te,a1,NU bs a2 hS⟩
def JC(i:Nat):HME:=λρ G=>match ρ[i]? with
 |some (some x)=>.ok x G
 |_=>.wall
def Yu(h:PE X e (mQ i)):HE X W E e (JC i):=λ_=>⟨_,h,λZ hZ A H σ ρ G R Q q=>by
 unfold JC at q;split at q
 .rename_i x hx;obtain⟨v,h1,h2⟩:=R.var i x hx;exact⟨v,h1,q A H R.toHH Gro.refl v h2⟩
 .exact q.elim⟩
def gf:HMA:=λ_ G=>.ok [] G
def jJ(m:HME)(ms:HMA):HMA:=λρ G=>(m ρ G).bind λx G1=>(ms ρ G1).bind λxs G2=>.ok (x::xs) G2
def eO:HA X W E [] gf:=λ_=>⟨_,Xr,λZ hZ A H σ ρ G R Q q=>q A H R.toHH Gro.refl [] rfl⟩
def YJ(h:HE X W E e m1)(hr:HA X W E es ms)(hs:starEach (e::es) X.env=(false,eval e X.env)::starEach es X.env:=by rfl):HA X W E (e::es) (jJ m1 ms):=λhK=>by obtain⟨te,a1,a2⟩:=h hK;obtain⟨ta,b1,b2⟩:=hr hK;refine⟨_,QK a1 b1 hs,λZ hZ A H σ ρ G R Q q=>a2 Z hZ A H σ ρ G R _ (HPx.bind q λx A1 H1 G1 h1 g1 q1 v rx=>?_)⟩;refine b2 Z hZ A1 H1 σ ρ G1 (R.gro h1 g1) _ (HPx.bind q1 λxs A2 H2 G2 h2 g2 q2 vs rs=>?_);exact q2 A2 H2 h2 Gro.refl (v::vs) ⟨v,vs,rfl,rx.gro g2,rs⟩
def k7.len{W:RC}{M:Of}{A:Ol}{n:Nat}{H:Hp}:∀{xs:List HV}{vs:Oi},k7 W M A n H xs vs->vs.length=xs.length
 |[],_,h=>by cases(show _=_ from h);rfl
 |x::xs,_,h=>by obtain⟨v,r,rfl,_,h2⟩:=h;rw[N9,N9,k7.len h2]
variable {rest:Om}
def DE(m:HME):HMT:=λρ G=>(m ρ G).bind λx G1=>match x with
 |.v (.b c)=>.ok c G1
 |_=>.wall
end
section
variable {W:RC}{M:Of}{A:Ol}{n:Nat}{H:Hp}
def k7.get:∀{xs:List HV}{vs:Oi}{i:Nat}{x:HV},k7 W M A n H xs vs->xs[i]?=some x->∃v,vs[i]?=some v/\JB W M A n H x v
 |[],_,_,_,_,e=>by simp at e
 |x::xs,_,0,y,h,e=>by obtain⟨v,r,rfl,h1,h2⟩:=h;simp at e;subst e;exact⟨v,rfl,h1⟩
 |x::xs,_,i+1,y,h,e=>by obtain⟨v,r,rfl,h1,h2⟩:=h;simp only[List.getElem?_cons_succ]at e ⊢;exact k7.get h2 e
variable {κ:Type}[DecidableEq κ] {R:HV->V->Prop}
def qZ.len:∀{kvs:List (κ×HV)}{es:List (κ×V)},qZ R kvs es->es.length=kvs.length
 |[],_,h=>by cases(show _=_ from h);rfl
 |_::_,_,⟨v,q,e,h1,h2⟩=>by subst e;rw[N9,N9,qZ.len h2]
def qZ.lookup:∀{kvs:List (Str×HV)}{es:OE}{f:Str}{x:HV},qZ R kvs es->kvs.lookup f=some x->∃v,es.lookup f=some v/\R x v
 |[],_,_,_,_,e=>by cases e
 |kx::r,_,f,x,h,e=>by
  obtain⟨v,q,rfl,h1,h2⟩:=h;rw[T0]at e ⊢;cases c:(f==kx.1)with
  |true=>rw[c]at e;cases e;exact⟨v,rfl,h1⟩
  |false=>rw[c]at e;exact qZ.lookup h2 e
def qZ.Xz:∀{kvs:List (Str×HV)}{es:OE}{f:Str},qZ R kvs es->kvs.lookup f=none->es.lookup f=none
 |[],_,_,h,_=>by cases(show _=_ from h);rfl
 |kx::r,_,f,h,e=>by
  obtain⟨v,q,rfl,h1,h2⟩:=h;rw[T0]at e ⊢;cases c:(f==kx.1)with
  |true=>rw[c]at e;cases e
  |false=>rw[c]at e;exact qZ.Xz h2 e
def qZ.put{k:κ}{a:List (κ×HV)}{es:List (κ×V)}(h:qZ R a es)(hx:R x v):qZ R (dput a k x) (putK es k v):=by
 have key:∀{a:List (κ×HV)}{es:List (κ×V)},qZ R a es->a.any (λkv=>decide (kv.1=k))=es.any (λkv=>decide (kv.1=k))/\qZ R (a.map λkv=>if kv.1=k then(kv.1,x)else kv) (es.map λkv=>if kv.1=k then(kv.1,v)else kv)/\qZ R (a++[(k,x)]) (es++[(k,v)]):=by
  intro a
  induction a with
  |nil=>intro es h;cases(show _=_ from h);exact⟨rfl,rfl,v,[],rfl,hx,rfl⟩
  |cons kx a ih=>
   intro es h;obtain⟨u,q,rfl,h1,h2⟩:=h;obtain⟨i1,i2,i3⟩:=ih h2;refine⟨by rw[a0p,a0p,i1],?_,⟨u,_,rfl,h1,i3⟩⟩;rw[O8,O8];by_cases e:kx.1=k
   .rw[if_pos e,if_pos e];exact⟨v,_,rfl,hx,i2⟩
   .rw[if_neg e,if_neg e];exact⟨u,_,rfl,h1,i2⟩
 obtain⟨i1,i2,i3⟩:=key h;unfold dput putK;rw[i1];split
 .exact i2
 .exact i3
end
def GU(cs:Od)(f:Str)(m:HME):HME:=λρ G=>(m ρ G).bind λx G1=>match x with
 |.g k=>match G1[k]? with
  |some (.o c fs)=>if c∈cs then match fs.lookup f with
   |some z=>.ok z G1
   |none=>.wall else .wall
  |_=>.wall
 |_=>.wall
def eR(f:List HV->AH->HX HV)(ms:HMA):HME:=λρ G=>(ms ρ G).bind λxs G1=>f xs G1
def hsp(W:RC)(n:Nat)(f:List HV->AH->HX HV):Sp:=λvs H Q E=>∃(Z:HC)(A:Ol)(G:AH)(xs:List HV),Z.W=W/\xs.length=n/\HH Z A H G/\k7 Z.W (HM Z A G.length) A G.length H xs vs/\HPx Z E A G.length H (KV' Z Q) (f xs G)
def DF:∀vs H Q E,hsp W n f vs H Q E->vs.length=n:=λvs H Q E ⟨Z,A,G,xs,_,hl,_,r,_⟩=>r.len.trans hl
def GV(h:HE X W E e m1)(hc:∀c∈cs,Cls X.K (W.cls c)/\vF X.K (W.cls c) fn)(hb:attributeBase e fn X.env (eval e X.env)=eval e X.env:=by rfl):HE X W E (.Attribute e fn pos) (GU cs fn m1):=λhK=>by
 obtain⟨te,a1,a2⟩:=h hK;refine⟨_,Bg a1 hb,λZ hZ A H σ ρ G R Q q=>a2 Z hZ A H σ ρ G R _ (HPx.bind q λx A1 H1 G1 h1 g1 q1 v rx=>?_)⟩;subst hZ;split at q1
 .rename_i k;obtain⟨hk,rfl⟩:=rx;split at q1
  .rename_i c fs hG;obtain⟨dx,vs,hp,r⟩:=h1.cell k _ hG;split at q1
   .rename_i hcs;split at q1
    .rename_i z hz;obtain⟨w,hw,rw'⟩:=r.lookup hz;exact⟨_,_,dx,vs,w,rfl,hp,(hc c hcs).1,(hc c hcs).2,hw,q1 A1 H1 h1 Gro.refl w rw'⟩
    .exact q1.elim
   .exact q1.elim
  .exact q1.elim
 .exact q1.elim
def sf(F:qO X.prog X.w X.K X.mg X.base (CXe X.prog X.w) k f fd ps (hsp W n g))(hr:kY k X.A)(hg:Gl X x)(hm:X.mg x=some (.ref f))(hk:keepIn X.K (.ref f)=true)(hb:Binds X.K fd ps [])(hx:Passes (CXe X.prog X.w) X E)(ha:HA X W E (e::es) ms)(hn:∀ρ G xs G',ms ρ G=.ok xs G'->xs.length=n)
  (hdb:(x==("__debug__":Str))=false:=by decide) (he:starEach (e::es) X.env=(false,eval e X.env)::starEach es X.env:=by rfl) (hpl:(backTo pos (starEach es X.env)).any (·.1)=false:=by rfl):HE X W E (.Call (.Name x p) (e::es) [] pos) (eR g ms):=λhK=>by
 obtain⟨ta,a1,a2⟩:=ha hK;refine⟨_,gz F hr hg hm hk hb .nil hx a1 hdb he hpl,λZ hZ A H σ ρ G R Q q=>a2 Z hZ A H σ ρ G R _ ?_⟩;unfold eR at q;revert q;cases hq:ms ρ G with
 |wall=>exact id
 |exc c fs G'=>exact id
 |ok xs G'=>intro q A1 H1 h1 g1 vs rs;rw[R8];exact⟨Z,A1,G',xs,hZ,hn _ _ _ _ hq,h1,rs,HPx.gro (o:=g xs G') q g1⟩
def lK:∀ρ G xs G',gf ρ G=.ok xs G'->xs.length=0:=λρ G xs G' e=>by cases e;rfl
def QS(h:∀ρ G xs G',ms ρ G=.ok xs G'->xs.length=n):∀ρ G xs G',jJ m ms ρ G=.ok xs G'->xs.length=n+1:=λρ G xs G' e=>by
 unfold jJ at e;cases h1:m ρ G with
 |wall=>rw[h1]at e;cases e
 |exc c fs G1=>rw[h1]at e;cases e
 |ok x G1=>
  rw[h1]at e;have e:(ms ρ G1).bind (λxs G2=>.ok (x::xs) G2)=.ok xs G':=e;cases h2:ms ρ G1 with
  |wall=>rw[h2]at e;cases e
  |exc c fs G1=>rw[h2]at e;cases e
  |ok ys G2=>rw[h2]at e;cases e;rw[N9,h _ _ _ _ h2]
inductive HFw where
 |nx (ρ:K4) (G:AH)|rt (x:HV) (G:AH)|bk (ρ:K4) (G:AH)|ct (ρ:K4) (G:AH)|exc (c:Nat) (fs:OA) (G:AH)|wall
abbrev HMS:=K4->AH->HFw
def HPs(Z:HC)(E:XK)(A:Ol)(n:Nat)(H:Hp)(D:Ends):HFw->Prop
 |.nx ρ' G'=>∀A' H' σ',HR Z A' H' σ' ρ' G'->Gro Z A n H A' G'.length H'->D.nx σ' H'
 |.rt x G'=>∀A' H' v,HH Z A' H' G'->Gro Z A n H A' G'.length H'->JB Z.W (HM Z A' G'.length) A' G'.length H' x v->D.rt v H'
 |.bk ρ' G'=>∀A' H' σ',HR Z A' H' σ' ρ' G'->Gro Z A n H A' G'.length H'->D.bk σ' H'
 |.ct ρ' G'=>∀A' H' σ',HR Z A' H' σ' ρ' G'->Gro Z A n H A' G'.length H'->D.ct σ' H'
 |.exc c fs G'=>uH Z E A n H c fs G'
 |.wall=>False
def HX.fw{α:Type}:HX α->(α->AH->HFw)->HFw
 |.ok a G,f=>f a G
 |.exc c fs G,_=>.exc c fs G
 |.wall,_=>.wall
def LHS(W:RC)(E:XK)(ts:TS)(m:HMS):Prop:=∀(Z:HC),Z.W=W->∀A H σ ρ G,HR Z A H σ ρ G->∀D,HPs Z E A G.length H D (m ρ G)->ts D σ H
def HS(X:Cx)(W:RC)(E:XK)(st:OO)(m:HMS):Prop:=X.K=W.K->∃ts,PS X st ts/\LHS W E ts m
def HSs(X:Cx)(W:RC)(E:XK)(st:OG)(m:HMS):Prop:=X.K=W.K->∃ts,PSs X st ts/\LHS W E ts m
section
variable {α:Type}{K':α->(Nat->Addr)->Hp->AH->Prop}
def HPs.gro(h:HPs Z E A n H D o)(g:Gro Z A n H A' n' H'):HPs Z E A' n' H' D o:=by
 cases o with
 |nx ρ G=>exact λA2 H2 σ2 r g2=>h A2 H2 σ2 r (g.trans g2)
 |rt x G=>exact λA2 H2 v r g2=>h A2 H2 v r (g.trans g2)
 |bk ρ G=>exact λA2 H2 σ2 r g2=>h A2 H2 σ2 r (g.trans g2)
 |ct ρ G=>exact λA2 H2 σ2 r g2=>h A2 H2 σ2 r (g.trans g2)
 |exc c fs G=>exact uH.gro h g
 |wall=>exact h
def HPs.bind{o:HX α}{f:α->AH->HFw}(h:HPs Z E A n H D (o.fw f))(k:∀x A' H' G',HH Z A' H' G'->Gro Z A n H A' G'.length H'->HPs Z E A' G'.length H' D (f x G')->K' x A' H' G'):HPx Z E A n H K' o:=by
 cases o with
 |ok x G'=>exact λA2 H2 h2 g2=>k x A2 H2 G' h2 g2 (HPs.gro (o:=f x G') h g2)
 |exc c fs G'=>exact h
 |wall=>exact h
end
def nK:HMS:=λρ G=>.nx ρ G
def K5(a b:HMS):HMS:=λρ G=>match a ρ G with
 |.nx ρ' G'=>b ρ' G'
 |.rt x G'=>.rt x G'
 |.bk ρ' G'=>.bk ρ' G'
 |.ct ρ' G'=>.ct ρ' G'
 |.exc c fs G'=>.exc c fs G'
 |.wall=>.wall
def eS(i:Nat)(m:HME):HMS:=λρ G=>(m ρ G).fw λx G1=>.nx (ρ.set i (some x)) G1
def XW(m:HME):HMS:=λρ G=>(m ρ G).fw λ_ G1=>.nx ρ G1
def oG(m:HME):HMS:=λρ G=>(m ρ G).fw λx G1=>.rt x G1
def hIf(t:HMT)(a b:HMS):HMS:=λρ G=>(t ρ G).fw λc G1=>if c=true then a ρ G1 else b ρ G1
section
variable {X:Cx}{W:RC}{E:XK}{e a b o:Oq}{es:Om}{pos p pos' vE:Pos}{m m1 m2:HME}{ms:HMA}{t1:HMT}{s1 s2:HMS}{x:Str}{st:OO}{sts stt:OG}{i:Nat}
def ia:HSs X W E [] nK:=λ_=>⟨_,oP,λZ hZ A H σ ρ G R D q=>q A H σ R Gro.refl⟩
def GW(h1:LHS W E t s1)(h2:LHS W E u s2):LHS W E (IZ t u) (K5 s1 s2):=λZ hZ A H σ ρ G R D q=>by
 refine h1 Z hZ A H σ ρ G R _ ?_;unfold K5 at q;revert q;cases s1 ρ G with
 |nx ρ' G'=>exact λq A' H' σ' R' g=>h2 Z hZ A' H' σ' ρ' G' R' D (HPs.gro (o:=s2 ρ' G') q g)
 |rt x G'=>exact id
 |bk ρ' G'=>exact id
 |ct ρ' G'=>exact id
 |exc c fs G'=>exact id
 |wall=>exact id
def yV(h1:HS X W E st s1)(h2:HSs X W E sts s2):HSs X W E (st::sts) (K5 s1 s2):=λhK=>by obtain⟨t,a1,a2⟩:=h1 hK;obtain⟨u,b1,b2⟩:=h2 hK;exact⟨_,bN a1 b1,GW a2 b2⟩
def ZS(h1:HS X W E st s1):HSs X W E [st] s1:=λhK=>by obtain⟨t,a1,a2⟩:=h1 hK;exact⟨_,ZK a1,a2⟩
def GX(a2:∀(Z:HC),Z.W=W->∀A H σ ρ G,HR Z A H σ ρ G->∀Q,HPx Z E A G.length H (KV' Z Q) (m ρ G)->te σ H Q):LHS W E (EK te (gu i)) (eS i m):=λZ hZ A H σ ρ G R D q=>
 a2 Z hZ A H σ ρ G R _ (HPs.bind q λx A1 H1 G1 h1 g1 q1 v rx=>q1 A1 H1 _ ((R.gro h1 g1).set rx) Gro.refl)
def GY(hN:X.N.Nodup)(hi:X.N[i]?=some x)(hx:Loc X.env.scope x)(h:HE X W E e m)(hs:swapsWith e (some (.Name x pos')) pos.line X.env=pure false:=by rfl)(hf:X.fn x=true\/X.env.scope.names.lookup x=some .local:=by first|exact .inl rfl|exact .inr rfl|assumption):
  HS X W E (.Assign [.Name x pos'] e pos) (eS i m):=λhK=>by
 obtain⟨te,a1,a2⟩:=h hK;exact⟨_,oS hN hi hx a1 hs hf,GX a2⟩
def si(h:HE X W E e m)(hs:swapsWith e none pos.line X.env=pure false:=by rfl):HS X W E (.Expr e pos) (XW m):=λhK=>by obtain⟨te,a1,a2⟩:=h hK;exact⟨_,gr a1 hs,λZ hZ A H σ ρ G R D q=>a2 Z hZ A H σ ρ G R _ (HPs.bind q λx A1 H1 G1 h1 g1 q1 v rx=>q1 A1 H1 σ (R.gro h1 g1) Gro.refl)⟩
def bb(h:HE X W E e m):HS X W E (.Return (some e) pos) (oG m):=λhK=>by obtain⟨te,a1,a2⟩:=h hK;exact⟨_,oQ a1,λZ hZ A H σ ρ G R D q=>a2 Z hZ A H σ ρ G R _ (HPs.bind q λx A1 H1 G1 h1 g1 q1 v rx=>q1 A1 H1 v h1 Gro.refl rx)⟩
def DG(h:HT X W E c t1)(h1:HSs X W E sts s1)(h2:HSs X W E stt s2):HS X W E (.If c sts stt pos) (hIf t1 s1 s2):=λhK=>by
 obtain⟨tt,a1,a2⟩:=h hK;obtain⟨t,b1,b2⟩:=h1 hK;obtain⟨u,c1,c2⟩:=h2 hK;refine⟨_,Fd a1 b1 c1,λZ hZ A H σ ρ G R D q=>a2 Z hZ A H σ ρ G R _ (HPs.bind q λk A1 H1 G1 h1 g1 q1=>?_)⟩;cases k with
 |true=>show(if true=true then t D σ H1 else u D σ H1);rw[if_pos rfl];exact b2 Z hZ A1 H1 σ ρ G1 (R.gro h1 g1) D q1
 |false=>show(if false=true then t D σ H1 else u D σ H1);rw[if_neg P5];exact c2 Z hZ A1 H1 σ ρ G1 (R.gro h1 g1) D q1
def MZ{Z:HC}{A:Ol}{H:Hp}{G:AH}{σ:St}{ρ:K4}{D:Ends}{k:Nat}{c:Cell}{o o0:HO}(R:HR Z A H σ ρ G)(hk:k<G.length)(h0:H (A k)=some o0)(n0:¬Imm o0)(hc:hX Z.W (HM Z A G.length) A G.length (upd H (A k) o) (A k) c)(q:HPs Z E A G.length H D (.nx ρ (G.set k c))):D.nx σ (upd H (A k) o):=by
 have g:Gro Z A G.length H A (G.set k c).length (upd H (A k) o):=by rw[T5];exact R.toHH.frw hk h0 n0
 exact q A _ σ (R.gro (R.toHH.write hk h0 n0 hc) g) g
def GZ(mo mk mv:HME):HMS:=λρ G=>(mv ρ G).fw λy G1=>(mo ρ G1).fw λx G2=>(mk ρ G2).fw λz G3=>match x,z with
 |.g k,.v z=>match G3[k]?,pk z with
  |some (.d kvs),some q=>if kvs.length<sizeLine then .nx ρ (G3.set k (.d (dput kvs q y)))else .wall
  |_,_=>.wall
 |_,_=>.wall
def G0(hu:X.A.units+1<cLine)(ho:HE X W E o m)(hk:HE X W E a m1)(hv:HE X W E e m2)(hs:swapsWith e (some (.Subscript o a pos')) pos.line X.env=pure false:=by rfl):
  HS X W E (.Assign [.Subscript o a pos'] e pos) (GZ m m1 m2):=λhK=>by
 obtain⟨to,o1,o2⟩:=ho hK;obtain⟨ta,a1,a2⟩:=hk hK;obtain⟨tv,b1,b2⟩:=hv hK;refine⟨_,gG hu o1 a1 b1 hs,λZ hZ A H σ ρ G R D q=>b2 Z hZ A H σ ρ G R _ (HPs.bind q λy A1 H1 G1 h1 g1 q1 v ry=>?_)⟩;have R1:=R.gro h1 g1;refine o2 Z hZ A1 H1 σ ρ G1 R1 _ (HPs.bind q1 λx A2 H2 G2 h2 g2 q2 w rx=>?_);have R2:=R1.gro h2 g2;refine a2 Z hZ A2 H2 σ ρ G2 R2 _ (HPs.bind q2 λz A3 H3 G3 h3 g3 q3 u rz=>?_);split at q3
 .rename_i k z;obtain⟨hk,rfl⟩:=rx;split at q3
  .rename_i kvs q hc hq;split at q3
   .rename_i hl;obtain⟨es,hp,r⟩:=h3.cell k _ hc;have hk3:k<G3.length:=P4 hk g3.le;have g4:=h3.frw (o:=.dK (putK es q v)) hk3 hp id;rw[<- g3.agr k hk];refine⟨_,_,rfl,by rw[cg (qL.iff.mpr (show Rep Z.W _ H3 z u from rz)) hq];exact uY.k hp (by rw[r.len];exact hl),MZ (c:=.d (dput kvs q y)) (R2.gro h3 g3) hk3 hp id ⟨_,zi,?_⟩ q3⟩;exact(r.put ((ry.gro g2).gro g3)).imp λ_ _ h=>h.gro g4
   .exact q3.elim
  .exact q3.elim
 .exact q3.elim
end
abbrev HMG:=HV->K4->Option K4
def HG(X:Cx)(W:RC)(tg:Oq)(mg:HMG):Prop:=X.K=W.K->∃g,PG X tg g/\∀(Z:HC),Z.W=W->∀A H σ ρ G x v,HR Z A H σ ρ G->JB Z.W (HM Z A G.length) A G.length H x v->∀Q:St->Hp->Prop,(∃ρ',mg x ρ=some ρ'/\∀σ',HR Z A H σ' ρ' G->Q σ' H)->g v σ H Q
abbrev N7:=List HV->K4->Option K4
def hgN(i:Nat):HMG:=λx ρ=>some (ρ.set i (some x))
def sj(hN:X.N.Nodup)(hi:X.N[i]?=some x)(hx:Loc X.env.scope x)(hf:X.fn x=true\/X.env.scope.names.lookup x=some .local:=by first|exact .inl rfl|exact .inr rfl|assumption):HG X W (.Name x pos) (hgN i):=
 λ_=>⟨_,oR hN hi hx hf,λZ hZ A H σ ρ G x v R r Q ⟨ρ',e,k⟩=>by cases e;exact k _ (R.set r)⟩
def nM(g:HMG)(b:HMS):List HV->K4->AH->HFw
 |[],ρ,G=>.nx ρ G
 |x::xs,ρ,G=>match g x ρ with
  |none=>.wall
  |some ρ1=>match b ρ1 G with
   |.nx ρ2 G2=>nM g b xs ρ2 G2
   |.ct ρ2 G2=>nM g b xs ρ2 G2
   |.bk ρ2 G2=>.nx ρ2 G2
   |.rt v G2=>.rt v G2
   |.exc c fs G2=>.exc c fs G2
   |.wall=>.wall
def isZ:Cell->Bool
 |.z _=>true
 |_=>false
def x_(A:Ol)(G:AH)(a:Addr):Prop:=∃k c,G[k]?=some c/\isZ c=false/\A k=a
section
variable {X:Cx}{W:RC}{E:XK}{Z:HC}{A A':Ol}{H H':Hp}{G G':AH}{σ:St}{ρ:K4}{D:Ends}
def hX.live{M:Of}{n:Nat}{p:Addr}:∀{c:Cell},hX W M A n H p c->isZ c=false->∃o,H p=Option.some o/\¬Imm o
 |.l _,⟨_,e,_⟩,_=>⟨_,e,id⟩
 |.d _,⟨_,e,_⟩,_=>⟨_,e,id⟩
 |.z _,_,h=>by cases h
 |.o _ _,⟨_,_,e,_⟩,_=>⟨_,e,id⟩
def hX.zed{M:Of}{n:Nat}{p:Addr}:∀{c:Cell},hX W M A n H p c->isZ c=true->∃o,H p=Option.some o/\Imm o
 |.l _,_,h=>by cases h
 |.d _,_,h=>by cases h
 |.z _,⟨_,_,e,_⟩,_=>⟨_,e,trivial⟩
 |.o _ _,_,h=>by cases h
def Gro.rest(h:HH Z A H G)(h':HH Z A' H' G')(g:Gro Z A G.length H A' G'.length H'):Fr (λa=>¬x_ A G a) H H':=λa o e m=>by
 rcases m with m|m
 .by_cases hc:∃k,k<G.length/\A k=a
  .obtain⟨k,hk,rfl⟩:=hc;have hq:=P0 hk;have hz:isZ G[k]=true:=by
    cases z:isZ G[k]with
    |true=>rfl
    |false=>exact absurd ⟨k,_,hq,z,rfl⟩ m
   obtain⟨o',e',i⟩:=(h.cell k _ hq).zed hz;rw[e']at e;cases e;exact g.fr _ _ e' (.inr i)
  .cases q:Z.H0 a with
   |none=>exact g.fr a o e (.inl ⟨.inr q,λk hk z=>hc ⟨k,hk,z⟩⟩)
   |some u=>have:=h.same a u q;rw[e]at this;cases this;exact h'.same a _ q
 .exact g.fr a o e (.inr m)
open Classical in
def bsH(Z:HC)(A:Ol)(H:Hp)(G:AH):Bs:=⟨λa=>if x_ A G a then none else H a,HM Z A G.length,λ_=>False,λ_ h=>h.elim,none,x_ A G⟩
def L9(R:HR Z A H σ ρ G)(e:Wj bs ρ=some r)(hS:S.all (·==0)=true):Rel Z.W (bsH Z A H G) S (λ_=>0) H σ r:=by
 have n2:∀{k:Nat},S[k]?=some 2->False:=λ{k} h=>by have:=GJ hS h;omega
 have n1:∀{k:Nat},S[k]?=some 1->False:=λ{k} h=>by have:=GJ hS h;omega
 refine⟨λa o h=>?_,R.len.trans (Vh e).symm,λi x hx=>?_,λi hi=>(n2 hi).elim,λi j hi=>(n2 hi).elim,λhi=>(n2 hi).elim,λa h=>?_,λi hi=>(n2 hi).elim⟩
 .unfold bsH at h;dsimp only at h;split at h
  .cases h
  .exact h
 .obtain⟨v,h1,h2⟩:=R.var i _ (Vg e hx);refine⟨v,h1,λz=>(n2 z).elim,λz=>(n1 z).elim,λ_ _=>(show Rep Z.W _ H x v from h2).sub λa m _=>⟨⟨.inl m,λ⟨k,c,hk,_,ea⟩=>m.2 k (P6.mp hk).1 ea⟩,λi hi=>(n2 hi).elim⟩⟩
 .obtain⟨k,c,hk,hz,rfl⟩:=h;obtain⟨o,ho,ni⟩:=(R.toHH.cell k c hk).live hz;exact⟨o,ho,ni,by unfold bsH;dsimp only;rw[if_pos ⟨k,c,hk,hz,rfl⟩]⟩
def Aa(hZ:Z.W=W)
  (hi:∀R:It->Hp->Prop,(∀J H2,zI H H2->Dq Z.W (HM Z A G.length) (λa=>¬x_ A G a) H2 J xs->R J H2)->wi σ H R)
  (hg:∀(Z:HC),Z.W=W->∀A H σ ρ G x v,HR Z A H σ ρ G->JB Z.W (HM Z A G.length) A G.length H x v->∀Q:St->Hp->Prop,(∃ρ',mg x ρ=some ρ'/\∀σ',HR Z A H σ' ρ' G->Q σ' H)->g v σ H Q) (hb:LHS W E tb mb) (R:HR Z A H σ ρ G) (q:HPs Z E A G.length H D (nM mg mb (xs.map .v) ρ G)):Iw wi g tb D σ H:=by
 refine hi _ λJ H2 s2 io=>?_;have R2:=R.keep s2;have q2:=HPs.gro q (Gro.same s2);refine⟨λi n σ' H'=>n=xs.length-i/\i<=xs.length/\∃ρ' A' G',HR Z A' H' σ' ρ' G'/\Gro Z A G.length H2 A' G'.length H'/\HPs Z E A' G'.length H' D (nM mg mb ((xs.drop i).map .v) ρ' G'),⟨_,rfl,T6 _,ρ,A,G,R2,Gro.refl,q2⟩,?_⟩
 rintro i n σ' H' ⟨rfl,hle,ρ',A',G',R',g',q'⟩
 have io':=io H' (Gro.rest R2.toHH R'.toHH g');by_cases hlt:i<xs.length
 .have hx:xs[i]?=some xs[i]:=P0 hlt;obtain⟨go,yl⟩:=io'.1 i _ hx;refine .inr ⟨go,λσ2 H2'=>i+1<=xs.length/\∃ρ' A' G',HR Z A' H2' σ2 ρ' G'/\Gro Z A G.length H2 A' G'.length H2'/\HPs Z E A' G'.length H2' D (nM mg mb ((xs.drop (i+1)).map .v) ρ' G'),λσ2 H2' h=>⟨xs.length-(i+1),by omega,rfl,h.1,h.2⟩,λv H'' hy=>?_⟩;obtain⟨sy,ry⟩:=yl v H'' hy;have Ry:=R'.keep sy;have gy:Gro Z A G.length H2 A' G'.length H'':=g'.trans (Gro.same sy);have rx:Rep Z.W (HM Z A' G'.length) H'' xs[i] v:=ry _ λa m hn=>gy.sM a m hn;rw[a1w hlt,O8]at q';unfold nM at q';split at q'
  .exact q'.elim
  .rename_i ρ1 hρ;refine hg Z hZ A' H'' σ' ρ' G' _ v Ry (show JB Z.W _ _ _ H'' (.v xs[i]) v from rx) _ ⟨ρ1,hρ,λσ1 R1=>hb Z hZ A' H'' σ1 ρ1 G' R1 _ ?_⟩;have q':=HPs.gro q' (Gro.same sy);revert q';cases mb ρ1 G' with
   |wall=>exact id
   |exc c fs G2=>exact id
   |nx ρ2 G2=>exact λq' A3 H3 σ3 R3 g3=>⟨hlt,ρ2,A3,G2,R3,gy.trans g3,HPs.gro (o:=nM mg mb ((xs.drop (i+1)).map .v) ρ2 G2) q' g3⟩
   |ct ρ2 G2=>exact λq' A3 H3 σ3 R3 g3=>⟨hlt,ρ2,A3,G2,R3,gy.trans g3,HPs.gro (o:=nM mg mb ((xs.drop (i+1)).map .v) ρ2 G2) q' g3⟩
   |bk ρ2 G2=>exact id
   |rt x G2=>exact id
 .have e:i=xs.length:=by omega
  subst e;rw[a2B]at q';exact .inl ⟨io'.2,q' A' H' σ' R' Gro.refl⟩
end
def Ab(bs:Oh)(mi:MI)(g:HMG)(b:HMS):HMS:=λρ G=>match Wj bs ρ with
 |some r=>match mi r with
  |.ok xs=>nM g b (xs.map .v) ρ G
  |_=>.wall
 |none=>.wall
section
variable {X:Cx}{W:RC}{E:XK}{fr:Bool}{S:Od}{tg kX:Oq}{body:OG}{mi:MI}{mg:HMG}{mb:HMS}{pos:Pos}
def DH(bs:Oh)(hp:PassesOwn (Ph X) X.A X.env X.xe)(hc:X.calm=true)(hi:IM X ⟨W,E,fr⟩ S false tg kX mi)(hg:HG X W tg mg)(hb:HSs X W E body mb)(hS:S.all (·==0)=true:=by rfl)(hs:∀x,foldedSetIterable kX X.env x=pure x:=by intro _;rfl):
  HS X W E (.For tg kX body [] pos) (Ab bs mi mg mb):=λhK=>by
 obtain⟨wi,a1,a2⟩:=hi hK;obtain⟨g,b1,b2⟩:=hg hK;obtain⟨tb,c1,c2⟩:=hb hK;refine⟨_,oX hp hc a1 b1 c1 hs,λZ hZ A H σ ρ G R D q=>?_⟩;unfold Ab at q;split at q
 .rename_i r hr;split at q
  .rename_i xs hx;subst hZ;refine Aa rfl (λR' k=>?_) b2 c2 R q;refine a2 _ _ H σ r (L9 R hr hS) R' ?_;rw[hx];intro J H2 s io;refine k J H2 s λH' f=>?_;have n2:∀{k:Nat},S[k]?=some 2->False:=λ{k} h=>by have:=GJ hS h;omega
   obtain⟨i1,i2⟩:=io H' λa o h m=>f a o h (m.imp (λm z=>m.1 z) id);refine⟨λi x hx=>⟨(i1 i x hx).1,λv H'' hy=>⟨((i1 i x hx).2 v H'' hy).1,λM' sM=>((i1 i x hx).2 v H'' hy).2 M' λa m hn=>sM a ?_ hn⟩⟩,i2⟩;have m1:HM Z A G.length a\/(bsH Z A H G).H0 a=none:=m.1.1;rcases m1 with m1|m1
   .exact m1
   .unfold bsH at m1;dsimp only at m1;split at m1
    .rename_i hl;exact absurd hl m.1.2
    .exact R.toHH.new a m1
  .exact q.elim
 .exact q.elim
end
def G4(G:AH)(x y:HV)(f:O_):HX HV:=match YD G 8 x,YD G 8 y with
 |some x,some y=>match f x y with
  |.ok z=>if imm z=true then .ok (.v z) G else .wall
  |_=>.wall
 |_,_=>.wall
def hOp(p:O_)(m1 m2:HME):HME:=λρ G=>(m1 ρ G).bind λx G1=>(m2 ρ G1).bind λy G2=>G4 G2 x y p
def hB(p:Ou)(ms:HMA):HME:=λρ G=>(ms ρ G).bind λxs G1=>match x8 (YD G1 8) xs with
 |some ys=>match p ys with
  |.ok z=>if imm z=true then .ok (.v z) G1 else .wall
  |_=>.wall
 |none=>.wall
def G5(L:Lf2 Z.W r f)(h:HH Z A H G)(rx:JB Z.W (HM Z A G.length) A G.length H x v)(ry:JB Z.W (HM Z A G.length) A G.length H y u)(q:HPx Z E A G.length H (KV' Z Q) (G4 G x y f)):r v u H Q:=by
 unfold G4 at q;split at q
 .rename_i x' y' hx hy;refine L (λ_=>True) ⟨Z.W,E0,false⟩ (uF H λ_=>True) H x' y' v u Q (λ_ _=>trivial) (Rep.weak (QR h _ _ _ _ rx hx)) (Rep.weak (QR h _ _ _ _ ry hy)) ?_;split at q
  .rename_i z hz;rw[hz];intro w H3 s rz;split at q
   .rename_i hi;exact q A H3 (h.keep s) (Gro.same s) w (XU hi rz)
   .exact q.elim
  .exact q.elim
 .exact q.elim
def G6(L:Lf2 W r f)(a2:∀(Z:HC),Z.W=W->∀A H σ ρ G,HR Z A H σ ρ G->∀Q,HPx Z E A G.length H (KV' Z Q) (m1 ρ G)->ta σ H Q)(b2:∀(Z:HC),Z.W=W->∀A H σ ρ G,HR Z A H σ ρ G->∀Q,HPx Z E A G.length H (KV' Z Q) (m2 ρ G)->tb σ H Q):
  ∀(Z:HC),Z.W=W->∀A H σ ρ G,HR Z A H σ ρ G->∀Q,HPx Z E A G.length H (KV' Z Q) (hOp f m1 m2 ρ G)->tOp r ta tb σ H Q:=λZ hZ A H σ ρ G R Q q=>
 a2 Z hZ A H σ ρ G R _ (HPx.bind q λx A1 H1 G1 h1 g1 q1 v rx=>b2 Z hZ A1 H1 σ ρ G1 (R.gro h1 g1) _ (HPx.bind q1 λy A2 H2 G2 h2 g2 q2 u ry=>by subst hZ;exact G5 L h2 (rx.gro g2) ry q2))
def G7(o:OpR X (compareOp op) r)(L:Lf2 W r f)(h1:HE X W E a m1)(h2:HE X W E b m2)(hm:behindInMarks op b=false):HE X W E (.Compare a [op] [b] pos) (hOp f m1 m2):=λhK=>by obtain⟨ta,a1,a2⟩:=h1 hK;obtain⟨tb,b1,b2⟩:=h2 hK;exact⟨_,o6 o a1 b1 hm,G6 L a2 b2⟩
def G8(a2:∀(Z:HC),Z.W=W->∀A H σ ρ G,HR Z A H σ ρ G->∀Q,HPx Z E A G.length H (KV' Z Q) (m ρ G)->te σ H Q):∀(Z:HC),Z.W=W->∀A H σ ρ G,HR Z A H σ ρ G->∀Q,HPx Z E A G.length H (KT' Q) (DE m ρ G)->CA te σ H Q:=λZ hZ A H σ ρ G R Q q=>
 a2 Z hZ A H σ ρ G R _ (HPx.bind q λx A1 H1 G1 h1 g1 q1 v rx=>by
  split at q1
  .rename_i c;exact⟨c,(show v=.bl c from rx),q1 A1 H1 h1 Gro.refl⟩
  .exact q1.elim)
def G9(o:OpR X (compareOp op) r)(L:Lf2 W r f)(h1:HE X W E a m1)(h2:HE X W E b m2)(hm:behindInMarks op b=false):HT X W E (.Compare a [op] [b] pos) (DE (hOp f m1 m2)):=λhK=>by obtain⟨ta,a1,a2⟩:=h1 hK;obtain⟨tb,b1,b2⟩:=h2 hK;exact⟨_,bO o a1 b1 hm,G8 (G6 L a2 b2)⟩
section
variable {X:Cx}{W:RC}{E:XK}{fr:Bool}{S S' Sb Sc:Od}{st:OO}{s1:MS}
end
def BH(n:Nat)(ms:HMS)(xs:List HV)(G:AH):HX HV:=match ms (xs.map some++List.replicate (n-xs.length) none) G with
 |.nx _ G'=>.ok (.v .n) G'
 |.rt x G'=>.ok x G'
 |.exc c fs G'=>.exc c fs G'
 |_=>.wall
def nN{xs:List HV}{n k:Nat}{x:HV}(h:(xs.map some++List.replicate (n-xs.length) none)[k]?=some (some x)):xs[k]?=some x:=by
 rw[a11]at h;split at h
 .rw[S4]at h;obtain⟨y,hy,e⟩:=N8.mp h;cases e;exact hy
 .rw[a0J]at h;split at h<;>cases h
def Ac(h:HH Z A H G)(r:k7 Z.W (HM Z A G.length) A G.length H xs vs):HR Z A H (start N vs) (xs.map some++List.replicate (N.length-xs.length) none) G:=by
 refine⟨h,?_,λi x e=>?_⟩
 .unfold start;rw[O9,O9,u8,u8,a0V,a0V,r.len]
 .obtain⟨v,hv,rv⟩:=r.get (nN e);have hk:i<vs.length:=(P6.mp hv).1;refine⟨v,?_,rv⟩;unfold start;rw[a0h (by rw[u8];exact hk),S4,hv];rfl
section
variable {P:Ot}{w:Ox}{K:OF}{mg:N_}{base:Heap}
def lL{x qual:Str}{st:OO}{f:Addr}{fd:OC}{N ps:Ob}{k n l:Nat}{W:RC}{ms:HMS}(F:Fun K x qual st f fd)(S:zE N ps (zh st))(hW:K=W.K)(hl:ps.length=l)(hN:N.length=n)
  (h:∀(cdv:Value)(A:Oy)(outer:List Env)(s:Oe)(H:Hp)(E:XK),kY k (A.deeper (envOfC qual (zh st) s.heap.objs.size f cdv))->HSs (thr (aU (CXe P w) P w K mg base N qual (zh st) f cdv A outer s H E) E) W E (vV st) ms):
  qO P w K mg base (CXe P w) (k+1) f fd ps (hsp W l (BH n ms)):=by
 subst hN hl;refine F.okX S DF λcdv A outer s H vs Q E hr ⟨Z,A',G,xs,hZ,hl,hh,r,q⟩=>?_;obtain⟨ts,t1,t2⟩:=h cdv A outer s H E hr hW;refine⟨ts,t1,t2 Z hZ A' H _ _ G (Ac hh r) _ ?_⟩;unfold BH at q;revert q;cases ms (xs.map some++List.replicate (N.length-xs.length) none) G with
 |exc c fs G'=>exact id
 |wall=>exact id
 |nx ρ' G'=>exact λq A2 H2 σ2 R2 g2=>q A2 H2 R2.toHH g2 .non rfl
 |rt y G'=>exact λq A2 H2 v h2 g2 rv=>q A2 H2 h2 g2 v rv
 |bk ρ' G'=>exact λq=>q.elim
 |ct ρ' G'=>exact λq=>q.elim
end
def DI(hS:SqL W.K H p (ns.map V.int))(h:∃G,g [.v (.sc ns)] []=.ok (.v (.b true)) G)(k:∀H',Q (.bl true) H'):hsp W 1 g [.ref p] H Q E:=by
 obtain⟨G,h⟩:=h;refine⟨⟨W,H,λ_=>True⟩,λ_=>0,[],[.v (.sc ns)],rfl,rfl,⟨zI.refl _,(λk c e=>by cases e),λj k hj=>absurd hj (a1d _),λk hk=>absurd hk (a1d _)⟩,⟨.ref p,[],rfl,⟨p,rfl,?_⟩,rfl⟩,?_⟩
 .exact hS.elim (λz=>.inl ⟨⟨.inl trivial,λk hk=>absurd hk (a1d _)⟩,z⟩) .inr
 .rw[h];intro A2 H2 h2 g2 v rv;cases(show v=_ from rv);exact k H2
section
variable {Z:HC}{E:XK}{A A':Ol}{n n':Nat}{H H':Hp}{G G':AH}{σ σ':St}{ρ ρ':K4}{a:Addr}{es:Oo}{u u':HO}{W:RC}{M:Of}{D:Ends}
end
section
variable {X:Cx}{W:RC}{E:XK}{tg kX:Oq}{body:OG}{mg:HMG}{mb:HMS}{pos:Pos}{i:Nat}
end
section
variable {X:Cx}{W:RC}{E:XK}{fr':Bool}{S:Od}{kX tg elt:Oq}{ifs:Om}{me:ME}{mc:MT}{mg:MG}{mi:MI}{pos uC py:Pos}{i j:Nat}{scope:Scope}{y:Str}
end
section
variable {X:Cx}{W:RC}{E:XK}{a o:Oq}{pos vE Zi:Pos}{m m1:HME}
end
section
variable {Z:HC}{A:Ol}{H:Hp}{G:AH}{σ:St}{ρ:K4}
end
section
variable {X:Cx}{W:RC}{E:XK}{fr:Bool}{S:Od}{e:Oq}{m:ME}
end
def pD1(x:PV):PV->Out PV
 |.i n=>match pk x with|some k=>.ok (.d [(k,.i n)])|none=>.wall
 |_=>.wall
def mD1(mk mv:ME):ME:=λρ=>(mk ρ).bind λx=>(mv ρ).bind λy=>pD1 x y
def L_(h1:EM X C S w1 a m1)(h2:EM X C S w2 b m2):FM X C S (.Dict [some a] [b] pos) (mD1 m1 m2):=λhK=>by
 obtain⟨ta,a1,a2⟩:=h1 hK;obtain⟨tb,b1,b2⟩:=h2 hK;refine⟨_,CN (u9 a1 b1 CM) rfl rfl (by intro h;cases h) (show 1<=15 by decide),λB P H σ ρ R Q q=>λp hp=>?_⟩;have s0:zI H (upd H p (.dK [])):=zI.upd hp;unfold mD1 at q;show ta σ _ _;refine a2 B P _ σ ρ (R.keep s0) _ ?_;cases e1:m1 ρ with
 |exc c fs=>rw[e1]at q;exact q
 |wall=>rw[e1]at q;exact q
 |ok x=>
  rw[e1]at q;intro v H1 s1 r1;refine b2 B P _ σ ρ (R.keep (s0.trans s1)) _ ?_;cases e2:m2 ρ with
  |exc c fs=>have q:yp C B H _ Q ((m2 ρ).bind _):=q;rw[e2]at q;exact q
  |wall=>have q:yp C B H _ Q ((m2 ρ).bind _):=q;rw[e2]at q;exact q
  |ok y=>
   have q:yp C B H _ Q ((m2 ρ).bind _):=q;rw[e2]at q;intro u H2 s2 r2;have q:yp C B H _ Q (pD1 x y):=q;cases y with
   |i n=>
    cases ek:pk x with
    |none=>have q:yp C B H _ Q (match pk x with|some k=>.ok (.d [(k,.i n)])|none=>.wall):=q;rw[ek]at q;exact q.elim
    |some k=>
    have q:yp C B H _ Q (match pk x with|some k=>.ok (.d [(k,.i n)])|none=>.wall):=q;rw[ek]at q;have ev:=cg (r1.weak) ek;have eu:u=.int n:=r2.weak;subst ev eu;have hp2:H2 p=some (.dK []):=(s1.trans s2) _ _ zi;refine⟨hp2,[(k,.int n)],rfl,by show 1<=15;decide,q _ _ (λc o hc=>?_) ⟨p,rfl,hp,[(k,.int n)],zi,⟨_,_,rfl,rfl,rfl⟩⟩⟩;have:c≠p:=λz=>by rw[z,hp]at hc;cases hc
    rw[zg this];exact(s0.trans (s1.trans s2)) _ _ hc
   |_=>exact(show False from q).elim
section
variable {Z:HC}{A:Ol}{H:Hp}{G:AH}
end
def G_(hu:X.A.units+64<cLine)(h1:HE X W E a m1)(h2:HE X W E b m2):HE X W E (.Compare a [.Eq] [b] pos) (hOp (jq false) m1 m2):=λhK=>G7 (Bu hK.symm hu) lh h1 h2 (Xb _ (by decide) (by decide)) hK
def Ha(hu:X.A.units+64<cLine)(h1:HE X W E a m1)(h2:HE X W E b m2):HT X W E (.Compare a [.NotEq] [b] pos) (DE (hOp (jq true) m1 m2)):=λhK=>G9 (Bv hK.symm hu) lh h1 h2 (Xb _ (by decide) (by decide)) hK
section
variable {X:Cx}{C:LC}{S S' S1 S2 Sb Sc:Od}{e:Oq}{es:Om}{ws:Oh}{ms:MA}{pos p pos':Pos}{x y:Str}{k i j:Nat}{f:Addr}{fd:OC}{ps:Ob}{fr:Bool}{g:Ou}{m1 m2:MS}
end
section
variable {X:Cx}{C:LC}{S:Od}{tg e:Oq}{p pos:Pos}{m:ME}{cc:Bool}
end
section
variable {X:Cx}{W:RC}{E:XK}{o:Oq}{pos vE p:Pos}{m1:HME}
end
section
variable {X:Cx}{C:LC}{S Sb Sc:Od}{kX tg elt:Oq}{ifs:Om}{me:ME}{mc:MT}{mg:MG}{pos uC py:Pos}{i j:Nat}{scope:Scope}{y:Str}
end
def signsOf:PV->Out (List PV)
 |.s z=>.ok (z.cps.toList.map λc=>.s ⟨#[c]⟩)
 |_=>.wall
def bc(m:ME):MI:=λρ=>(m ρ).bind signsOf
def Hb:Dq W M N H2 (Its z) (z.cps.toList.map λc=>PV.s ⟨#[c]⟩):=λH' f=>by refine⟨λi x hx=>?_,by rw[u8];exact a1X a07.symm⟩;rw[S4]at hx;obtain⟨c,hc,rfl⟩:=N8.mp hx;rw[Array.getElem?_toList]at hc;refine⟨(a1r.mp hc).1,λv H'' hy=>?_⟩;obtain⟨rfl,c',hc',rfl⟩:=hy;rw[hc]at hc';cases hc';exact⟨zI.refl _,λ_ _=>rfl⟩
section
variable {X:Cx}
end
def nO:List PV->Option (List Str)
 |[]=>some []
 |.s z::xs=>(nO xs).map (z::·)
 |_::_=>none
def so:∀{vs:Oi}{ys:Ob},yQ W M H xs vs->nO xs=some ys->vs=ys.map V.str:=by
 induction xs with
 |nil=>intro vs ys r e;cases e;unfold yQ at r;exact r
 |cons x xs ih=>
  intro vs ys r e;unfold yQ at r;obtain⟨v,q,rfl,rv,rq⟩:=r;cases x with
  |s z=>obtain⟨zs,e2,rfl⟩:=N8.mp (show(nO xs).map (z::·)=some ys from e);unfold Rep at rv;rw[ih rq e2,rv];rfl
  |_=>cases(show(none:Option (List Str))=some ys from e)
def cF:∀{ys:Ob},nO (ys.map .s)=some ys
 |[]=>rfl
 |y::ys=>by show(nO (ys.map .s)).map _=_;rw[cF];rfl
def eU(sep:Str):PV->Out PV
 |.l xs=>match nO xs with
  |some ys=>if(ys.map (·.length)).sum+ys.length*sep.length<=16777216 then .ok (.s (Txt.join sep ys))else .wall
  |none=>.wall
 |_=>.wall
def Ma(g:Str->PV->Out PV)(m1 m2:ME):ME:=λρ=>(m1 ρ).bind λx=>match x with
 |.s z=>(m2 ρ).bind (g z)
 |_=>.wall
def DJ(ho:EM X C S w1 o m1)(ha:EM X C S w2 e m2)(dv:attributeBase o "join" X.env (eval o X.env)=eval o X.env:=by rfl)
  (Bb:((backTo Zi (starEach [e] X.env)).all (λx=>!x.1)&&(backToKw Zi (keywordEach [] X.env)).all (λx=>x.1.isSome)
   && decide (([e]:List Expr).length+([]:List Keyword).length+(if([]:List Keyword).isEmpty then 0 else 1)<30))=true:=by rfl)
  (dr:(vE.endLine==Zi.line)=true:=by rfl) (hs:starEach [e] X.env=[(false,eval e X.env)]:=by rfl):EM X C S false (.Call (.Attribute o "join" vE) [e] [] Zi) (Ma eU m1 m2):=λhK=>by
 obtain⟨to,a1,a2⟩:=ho hK;obtain⟨te,b1,b2⟩:=ha hK;refine⟨_,uW PySem.F.plainAttrs_str PySem.F.slot_str_join PySem.F.type_str_join CZ a1 (QK b1 Xr (by rw[hs];rfl)) dv Bb dr (by rw[hs];rfl) rfl,λB P H σ ρ R Q q=>a2 B P H σ ρ R _ (ye q λx v H1 s1 r1 q1=>?_)⟩;cases x with
 |s z=>
  have ev:v=V.str z:=r1.weak;subst ev;refine⟨rfl,b2 B P H1 σ ρ (R.keep s1) _ (ye (o:=m2 ρ) (f:=eU z) q1 λx u H2 s2 r2 q2=>?_)⟩;cases x with
  |l xs=>
   obtain⟨p,vs,rfl,_,hl,rr⟩:=r2.weak;cases et:nO xs with
   |none=>
    have e:eU z (.l xs)=.wall:=by show(match nO xs with|some ys=>_|none=>_)=_;rw[et]
    rw[e]at q2;exact q2.elim
   |some ys=>
    have evs:=so rr et;subst evs;by_cases h:(ys.map (·.length)).sum+ys.length*z.length<=16777216
    .have e:eU z (.l xs)=.ok (.s (Txt.join z ys)):=by show(match nO xs with|some ys=>_|none=>_)=_;rw[et];exact if_pos h
     rw[e]at q2;exact⟨z,p,ys,rfl,rfl,SqL.of hl,h,q2 _ _ (zI.refl _) (RV.of rfl)⟩
    .have e:eU z (.l xs)=.wall:=by show(match nO xs with|some ys=>_|none=>_)=_;rw[et];exact if_neg h
     rw[e]at q2;exact q2.elim
  |_=>exact q2.elim
 |_=>exact q1.elim
def Hc:List V->Hp->VK->Prop:=λvs H Q=>∃n:Int,vs=[.int n]/\n.natAbs.log2<1920/\Q (.str (toString n)) H
def sr:vU X (.type "str") Hc:=by intro pins s σ H xs us Q I r h;obtain⟨n,rfl,hn,q⟩:=h;obtain⟨u,rfl,t,rfl⟩:=vals1 r;exact P.str_of_int hn ⟨.str _,H,I.tok _,⟨_,rfl⟩,q⟩
def DK:List PV->Out PV
 |[.i n]=>if n.natAbs.log2<1920 then .ok (.s (toString n))else .wall
 |_=>.wall
def DL:LfC W Hc DK:=λM C B H xs vs Q n h q=>by
 unfold DK at q;split at q
 .obtain⟨v,r,rfl,hx,hr⟩:=h;cases(show _=_ from hr);cases(show _=_ from hx);split at q
  .rename_i hn;exact⟨_,rfl,hn,q _ H (zI.refl _) rfl⟩
  .exact q.elim
 .exact q.elim
def sv(hg:Gl X "str")(hm:X.mg "str"=none)(ha:AM X C S ws [e] ms)(he:starEach [e] X.env=[(false,eval e X.env)]:=by rfl):EM X C S false (.Call (.Name "str" p) [e] [] pos) (zj DK ms):=
 xG (λ_=>sr) DL hg hm PyProof.Rows.Boot.str ha (he:=he)
def BI(h:EM X C S w e m):IM X C S cc (.Name y py) e (bc m):=λhK=>by
 obtain⟨te,a1,a2⟩:=h hK;refine⟨_,FU a1,λB P H σ ρ R Q q=>a2 B P H σ ρ R _ ?_⟩;unfold bc at q;revert q;cases m ρ with
 |exc c fs=>exact id
 |wall=>exact id
 |ok x=>
  intro q v H2 s r;cases x with
  |s z=>have ev:v=V.str z:=r.weak;exact⟨z,ev,q _ H2 s Hb⟩
  |_=>exact(show False from q).elim
section
variable {X:Cx}{W:RC}{E:XK}{fr:Bool}{S:Od}{e:Oq}{m:ME}
end
section
variable {X:Cx}{C:LC}{S S' Sb Sc:Od}{o a:Oq}{w1 w2:Bool}{m1 m2:ME}{to ta:TE}{y z:Str}{n:Int}{vE Zi py pz pi pos rp cp kp:Pos}{jy jz ji j:Nat}
end
def QT(k:Nat)(g:HMG)(b:HMS):Nat->Nat->K4->AH->HFw
 |r,i,ρ,G=>match G[k]? with
  |some (.l xs)=>match xs[i]? with
   |none=>.nx ρ G
   |some x=>match r with
    |0=>.wall
    |r+1=>match g x ρ with
     |none=>.wall
     |some ρ1=>match b ρ1 G with
      |.nx ρ2 G2=>QT k g b r (i+1) ρ2 G2
      |.ct ρ2 G2=>QT k g b r (i+1) ρ2 G2
      |.bk ρ2 G2=>.nx ρ2 G2
      |.rt v G2=>.rt v G2
      |.exc c fs G2=>.exc c fs G2
      |.wall=>.wall
  |_=>.wall
def Ad(m:HME)(g:HMG)(b:HMS):HMS:=λρ G=>(m ρ G).fw λx G1=>match x with
 |.g k=>match G1[k]? with
  |some (.l xs)=>QT k g b xs.length 0 ρ G1
  |_=>.wall
 |_=>.wall
def DM(hp:PassesOwn (Ph X) X.A X.env X.xe)(hc:X.calm=true)(hi:HE X W E kX m)(hg:HG X W tg mg)(hb:HSs X W E body mb)(hs:∀x,foldedSetIterable kX X.env x=pure x:=by intro _;rfl):
  HS X W E (.For tg kX body [] pos) (Ad m mg mb):=λhK=>by
 obtain⟨te,a1,a2⟩:=hi hK;obtain⟨g,b1,b2⟩:=hg hK;obtain⟨tb,c1,c2⟩:=hb hK;refine⟨_,oX hp hc (rC a1) b1 c1 hs,λZ hZ A H σ ρ G R D q=>a2 Z hZ A H σ ρ G R _ (HPs.bind q λx A1 H1 G1 h1 g1 q1 v rx=>?_)⟩;split at q1
 .rename_i k;obtain⟨hk,rfl⟩:=(show _/\_ from rx);split at q1
  .rename_i xs hx;have R1:=R.gro h1 g1;obtain⟨vs,hl,rs⟩:=h1.cell k _ hx;refine .inl ⟨A1 k,rfl,⟨vs,SqL.of hl⟩,?_⟩;refine⟨λi n σ' H'=>∃ρ' A' G',HR Z A' H' σ' ρ' G'/\Gro Z A1 G1.length H1 A' G'.length H'/\HPs Z E A' G'.length H' D (QT k mg mb n i ρ' G'),⟨xs.length,ρ,A1,G1,R1,Gro.refl,q1⟩,?_⟩
   rintro i n σ' H' ⟨ρ',A',G',R',g',q'⟩
   have ak:A' k=A1 k:=g'.agr k hk;unfold QT at q';split at q'
   .rename_i ys hy;obtain⟨us,hu,ru⟩:=R'.toHH.cell k _ hy;rw[ak]at hu;split at q'
    .rename_i hn;refine .inl ⟨⟨us,SqL.of hu,?_⟩,q' A' H' σ' R' Gro.refl⟩;rw[ru.len];exact a2r.mp hn
    .rename_i y hyi;obtain⟨u,hui,rui⟩:=ru.get hyi;split at q'
     .exact q'.elim
     .rename_i r;refine .inr ⟨⟨us,u,SqL.of hu,hui⟩,λσ2 H2'=>∃ρ' A' G',HR Z A' H2' σ2 ρ' G'/\Gro Z A1 G1.length H1 A' G'.length H2'/\HPs Z E A' G'.length H2' D (QT k mg mb r (i+1) ρ' G'),λσ2 H2' h=>⟨r,a0a _,h⟩,λv' H'' hv=>?_⟩;obtain⟨rfl,hv⟩:=hv;have:=hv us (SqL.of hu);rw[hui]at this;cases this;split at q'
      .exact q'.elim
      .rename_i ρ1 hρ;refine b2 Z hZ A' H'' σ' ρ' G' y u R' rui _ ⟨ρ1,hρ,λσ1 R1=>c2 Z hZ A' H'' σ1 ρ1 G' R1 _ ?_⟩;revert q';cases mb ρ1 G' with
       |wall=>exact id
       |exc c fs G2=>exact id
       |nx ρ2 G2=>exact λq' A3 H3 σ3 R3 g3=>⟨ρ2,A3,G2,R3,g'.trans g3,HPs.gro (o:=QT k mg mb r (i+1) ρ2 G2) q' g3⟩
       |ct ρ2 G2=>exact λq' A3 H3 σ3 R3 g3=>⟨ρ2,A3,G2,R3,g'.trans g3,HPs.gro (o:=QT k mg mb r (i+1) ρ2 G2) q' g3⟩
       |bk ρ2 G2=>exact id
       |rt x G2=>exact id
   .exact q'.elim
  .exact q1.elim
 .exact q1.elim
section
variable {X:Cx}{W:RC}{E:XK}{e:Oq}{es:Om}{ms:HMA}{ws:Oh}{g:Ou}{k:Nat}{f:Addr}{fd:OC}{ps:Ob}{x:Str}{p pos:Pos}
end
section
variable {X:Cx}{C:LC}{S:Od}{mi:MI}{mg:MG}{mc:MT}{me:ME}
end
section
variable {X:Cx}{W:RC}{E:XK}
variable {fr':Bool}{S:Od}{kX tg elt:Oq}{ifs:Om}{me:ME}{mc:MT}{mg:MG}{mi:MI}{pos uC py:Pos}{i j:Nat}{scope:Scope}{y:Str}
end
def DN(kvs:Oz)(y:PV):Out PV:=match pk y with
 |some k=>.ok ((yq kvs k).getD .n)
 |none=>.wall
def IJ(m1 m2:ME):ME:=λρ=>(m1 ρ).bind λx=>match x with
 |.d kvs=>(m2 ρ).bind (DN kvs)
 |_=>.wall
def Hd(hu:X.A.units+1<cLine)(h1:EM X C S w1 o m1)(h2:EM X C S w2 e m2)(m:M1 X o "get" vE e Zi):EM X C S false (.Call (.Attribute o "get" vE) [e] [] Zi) (IJ m1 m2):=λhK=>by
 obtain⟨ta,a1,a2⟩:=h1 hK;obtain⟨tb,b1,b2⟩:=h2 hK;refine⟨_,u_ hu a1 b1 m,λB P H σ ρ R Q q=>a2 B P H σ ρ R _ (ye q λx v H1 s1 r1 q1=>?_)⟩;cases x with
 |d kvs=>
  obtain⟨p,es,rfl,_,hd,rk⟩:=r1.weak;refine⟨p,rfl,.inl ⟨es,hd⟩,b2 B P H1 σ ρ (R.keep s1) _ (ye (o:=m2 ρ) (f:=DN kvs) q1 λy u H2 s2 r2 q2=>?_)⟩;cases ek:pk y with
  |none=>
   have e:DN kvs y=.wall:=by unfold DN;rw[ek]
   rw[e]at q2;exact q2.elim
  |some k=>
   have e:DN kvs y=.ok ((yq kvs k).getD .n):=by unfold DN;rw[ek]
   rw[e]at q2;have eu:=cg r2.weak ek;subst eu;have hd2:Rd H2 p (.dK es):=hd.elim (λz=>.inl (s2 _ _ z)) λ⟨o,z⟩=>.inr ⟨o,s2 _ _ z⟩;refine⟨UZ es k,.inl ⟨es,k,hd2,rfl,rfl⟩,?_⟩;cases ed:yq kvs k with
   |none=>rw[ed]at q2;rw[rk.IC ed];exact q2 _ H2 (zI.refl _) (RV.of rfl)
   |some x=>rw[ed]at q2;obtain⟨v,ev,rv⟩:=rk.get ed;rw[ev];exact q2 _ H2 (zI.refl _) (RV.of (rv.same s2))
 |_=>exact q1.elim
section
variable {X:Cx}{W:RC}{E:XK}{o a:Oq}{m1 m2:HME}{pos vE Zi:Pos}
end
section
variable {X:Cx}{W:RC}{E:XK}{fr:Bool}{S S1 Sb Sc:Od}{tg a0 b0:Oq}{body:OG}{mg:MG}{mb:MS}{pos ipos:Pos}{i j:Nat}
end
def pk2:List PV->Option (List Key)
 |[x,y]=>(pk x).bind λa=>(pk y).bind λb=>some [a,b]
 |_=>none
def XX(s:zI H H')(h:Rd H p u):Rd H' p u:=(zI.fr (M:=λ_=>True) s).rd h trivial
def cG{k:OR}:∀{kvs:OU},UZ (dtV kvs) k=(yq kvs k).map V.int
 |[]=>rfl
 |q::r=>by
  unfold dtV UZ yq;rw[O8,a0o,a0o];by_cases c:q.1=k
  .simp only[c,decide_true];rfl
  .simp only[c,decide_false];exact cG (kvs:=r)
def DO:putK (dtV kvs) k (.int n)=dtV (dput kvs k n):=by
 have e:∀{kvs:OU},(dtV kvs).any (λkv=>decide (kv.1=k))=kvs.any (λkv=>decide (kv.1=k))/\(dtV kvs).map (λkv=>if kv.1=k then(kv.1,V.int n)else kv)=dtV (kvs.map λkv=>if kv.1=k then(kv.1,n)else kv):=λ{kvs}=>by
  induction kvs with
  |nil=>exact⟨rfl,rfl⟩
  |cons q r ih=>
   unfold dtV at ih ⊢;refine⟨by rw[O8,a0p,a0p,ih.1],?_⟩;rw[O8,O8,O8,O8,ih.2];by_cases c:q.1=k
   .rw[if_pos c,if_pos c]
   .rw[if_neg c,if_neg c]
 unfold putK dput;rw[e.1];split
 .exact e.2
 .unfold dtV;rw[T1];rfl
section
variable {X:Cx}{C:LC}{S S' Sb Sc:Od}{e a b o:Oq}{es:Om}{w w1 w2:Bool}{ws:Oh}{m m1 m2:ME}{ms:MA}{pos p pos':Pos}{i x1:Nat}
def RVs.IK(h:RVs C B S P H ws xs vs)(hk:pk2 xs=some ks):vs=ks.map kV/\vs.length<=sizeLine:=by
 have h:=h.weak
 match xs,hk with
 |[x,y],hk=>obtain⟨k1,h1,hk⟩:=R9.mp hk;obtain⟨k2,h2,hk⟩:=R9.mp hk;cases hk;obtain⟨v,r,rfl,r1,u,r',rfl,r2,e⟩:=h;cases(show r'=[]from e);rw[cg r1 h1,cg r2 h2];exact⟨rfl,by show 2<=sizeLine;decide⟩
def BJ:ME:=λ_=>.ok (.dt [])
def Ae:FM X C S (.Dict [] [] pos) BJ:=λhK=>⟨_,u7,λB P H σ ρ R Q q=>λp hp=>q _ _ (zI.upd hp) ⟨p,rfl,hp,zi⟩⟩
def M3(x:PV)(xs:Ov):Out PV:=match x,pk2 xs with
 |.dt kvs,some ks=>Yt ((yq kvs ks).map PV.i)
 |_,_=>.wall
def lM(m:ME)(ms:MA):ME:=λρ=>(m ρ).bind λx=>(ms ρ).bind λxs=>M3 x xs
def bf(hu:X.A.units+1<cLine)(h1:EM X C S w1 a m1)(h2:AM X C S ws es ms)(hs:bQ (.Tuple es x1 p):=by intro _ _;rfl):EM X C S false (.Subscript a (.Tuple es x1 p) pos) (lM m1 ms):=λhK=>by
 obtain⟨ta,a1,a2⟩:=h1 hK;obtain⟨tb,b1,b2⟩:=h2 hK;refine⟨_,Ft (pV hu) a1 (aT b1) hs,λB P H σ ρ R Q q=>a2 B P H σ ρ R _ (ye q λx v H1 s1 r1 q1=>b2 B P H1 σ ρ (R.keep s1) _ (qP q1 λxs vs H2 s2 r2 q2=>?_))⟩;unfold M3 at q2;split at q2
 .rename_i kvs ks hk;obtain⟨y,hy,q3⟩:=y_ q2;obtain⟨n,hn,rfl⟩:=N8.mp hy;obtain⟨rfl,hl⟩:=r2.IK hk;obtain⟨p,rfl,_,hr⟩:=r1.weak;refine⟨hl,λz hz=>⟨p,.int n,rfl,.inr ⟨_,_,z,XX (zI.upd hz) (XX s2 hr),rfl,zi,by rw[cG,hn];rfl⟩,q3 _ _ (zI.upd hz) (RV.of rfl)⟩⟩
 .exact q2.elim
def inT(neg:Bool)(ks:OR):PV->Out PV
 |.dt kvs=>.ok (.b (xor neg (yq kvs ks).isSome))
 |_=>.wall
def gh(neg:Bool)(ms:MA)(m:ME):ME:=λρ=>(ms ρ).bind λxs=>match pk2 xs with
 |some ks=>(m ρ).bind (inT neg ks)
 |none=>.wall
def BK(h2:LA C S ws ta ms)(h1:LE C S w1 tb m1):LE C S false (tOp (IE C.W.K neg) (MK ta) tb) (gh neg ms m1):=λB P H σ ρ R Q q=>h2 B P H σ ρ R _ (qP q λxs vs H1 s1 r1 q1=>by
 split at q1
 .rename_i ks hk;obtain⟨rfl,hl⟩:=r1.IK hk;refine⟨hl,λz hz=>h1 B P _ σ ρ ((R.keep s1).keep (zI.upd hz)) _ (ye (Yr q1 (zI.upd hz)) λy u H2 s2 r2 q2=>?_)⟩;unfold inT at q2;split at q2
  .obtain⟨p,rfl,_,hr⟩:=r2.weak;exact .inr ⟨p,_,rfl,.inr ⟨_,_,z,hr,rfl,s2 _ _ zi,rfl⟩,by rw[cG,a1g];exact q2 _ _ (zI.refl _) (RV.of rfl)⟩
  .exact q2.elim
 .exact q1.elim)
def lN(hu:X.A.units+1<cLine)(h1:AM X C S ws es ms)(h2:EM X C S w2 b m2)(hm:behindInMarks .In b=false:=by with_unfolding_all rfl):TM X C S (.Compare (.Tuple es x1 p) [.In] [b] pos) (yi (gh false ms m2)):=λhK=>by obtain⟨ta,a1,a2⟩:=h1 hK;obtain⟨tb,b1,b2⟩:=h2 hK;exact⟨_,bO (pY hu) (aT a1) b1 hm,cf (by rw[hK];exact BK a2 b2)⟩
def XY(hu:X.A.units+1<cLine)(h1:AM X C S ws es ms)(h2:EM X C S w2 b m2)(hm:behindInMarks .NotIn b=false:=by with_unfolding_all rfl):TM X C S (.Compare (.Tuple es x1 p) [.NotIn] [b] pos) (yi (gh true ms m2)):=λhK=>by obtain⟨ta,a1,a2⟩:=h1 hK;obtain⟨tb,b1,b2⟩:=h2 hK;exact⟨_,bO (eA hu) (aT a1) b1 hm,cf (by rw[hK];exact BK a2 b2)⟩
def Mb(i:Nat)(ρ:Sto)(o:Out (List PV)):Option (Option PV)->PV->Out Fw
 |some (some (.dt kvs)),.i n=>o.bind λxs=>match pk2 xs with
  |some k=>if kvs.length<sizeLine then .ok (.nx (ρ.set i (some (.dt (dput kvs k n)))))else .wall
  |none=>.wall
 |_,_=>.wall
def eV(i:Nat)(ms:MA)(mv:ME):MS:=λρ=>(mv ρ).bind λv=>Mb i ρ (ms ρ) ρ[i]? v
def ib(hu:X.A.units+1<cLine)(ho:PE X o (mQ i))(hk:AM X C S ws es ms)(hv:EM X C S false e m2)(hi:S[i]?=some 2:=by rfl)(hs:swapsWith e (some (.Subscript o (.Tuple es x1 p) pos')) pos.line X.env=pure false:=by rfl):
  SM X C S S Sb Sc (.Assign [.Subscript o (.Tuple es x1 p) pos'] e pos) (eV i ms m2):=λhK=>by
 obtain⟨ta,a1,a2⟩:=hk hK;obtain⟨tv,b1,b2⟩:=hv hK;refine⟨_,gG hu ho (aT a1) b1 hs,λB P H σ ρ R D q=>b2 B P H σ ρ R _ ?_⟩;unfold eV at q;revert q;cases m2 ρ with
 |ok y=>
  intro q v H1 sm1 rv;have R1:=R.keep sm1;have q:Zk C B S Sb Sc D (Mb i ρ (ms ρ) ρ[i]? y):=q;unfold Mb at q;split at q
  .rename_i kvs n hx q0;obtain⟨hσ,hp,hl⟩:=R1.at2 hi hx;have hp:H1 (P i)=some (.dT (dtV kvs)):=hp;cases(show v=.int n from rv.weak);refine⟨_,hσ,a2 B P H1 σ ρ R1 _ ?_⟩;revert q;cases ms ρ with
   |ok z=>
    intro q u H2 sm2 ru;have R2:=R1.keep sm2;have q:Zk C B S Sb Sc D (match pk2 z with
     |some k=>if kvs.length<sizeLine then .ok (.nx (ρ.set i (some (.dt (dput kvs k n)))))else .wall
     |none=>.wall):=q
    split at q
    .rename_i k hk;split at q
     .rename_i hz;obtain⟨rfl,hl2⟩:=ru.IK hk;refine⟨hl2,λt ht=>?_⟩;have R3:=R2.keep (zI.upd (o:=.tup (k.map kV)) ht);have hp2:=zI.upd (o:=.tup (k.map kV)) ht _ _ (sm2 _ _ hp);refine⟨_,_,rfl,uY.t hp2 zi (by unfold dtV;rw[u8];exact hz),q P _ σ (R3.wr hi hl hσ (by exact id) ?_)⟩;show upd _ _ _ _=_;rw[zi,DO]
     .exact q.elim
    .exact q.elim
   |exc c fs=>exact id
   |wall=>exact id
  .exact q.elim
 |exc c fs=>exact id
 |wall=>exact id
end
def Mc(W:RC)(n:Nat)(tab:List (Nat×(List HV->AH->HX HV)))(K:Addr)(sp:Sp):Prop:=∃q∈tab,K=W.cls q.1/\sp=hsp W (n+1) q.2
section
variable {X:Cx}{W:RC}{E:XK}{o e:Oq}{es:Om}{m:HME}{ms:HMA}{pos vE:Pos}{mn:Str}{n:Nat}
end
def Md{α:Type}{P:List α->Prop}{us:List α}(hl:us.length=6)(h:∀a b c d e f,P [a,b,c,d,e,f]):P us:=by
 match us,hl with|[a,b,c,d,e,f],_=>exact h a b c d e f
def sx(M:Mk X.K C f)(F:qO X.prog X.w X.K X.mg X.base (CXe X.prog X.w) k f fd ps sp)(hr:kY (k+1) X.A)(hb:Binds X.K fd ps [])
  (I:Inv X pins σ H s) (r:Vals vs us)
  (h:∀x dx,H x=none->H dx=none->dx≠x->sp (.ref x::vs) (upd (upd H dx (.own x)) x (.ins C dx [])) (λv H2=>v=.non/\Q (.ref x) H2) Z):
  wpAny (Ph X) X.A (call (.ref C) us) (EP X pins σ Q) (XP X pins σ Z) s:=by
 have hq:=h (s.heap.objs.size+1) s.heap.objs.size (I.hok.fresh (a0w _)) (I.hok.fresh (O2 _)) (P1 (a0a _));have I2:=Inv.made (C:=C) I;have r2:Vals (V.ref (s.heap.objs.size+1)::vs) (Value.ref (s.heap.objs.size+1)::us):=.cons rfl r;have hl:(Value.ref (s.heap.objs.size+1)::us++[]).length=ps.length:=by have e:=r2.length;rw[F.len _ _ _ _ hq]at e;rw[R8];exact e.symm
 have bd:=hb _ (Value.ref (s.heap.objs.size+1)::us) I2.kIn hl;rw[R8]at bd;refine a0M (iW (f:=f) I.kIn M.makes M.init (S9.mp M.fn) (a0P (F.run _ X.stack _ _ ⟨Value.ref (s.heap.objs.size+1)::us,[]⟩ (Value.ref (s.heap.objs.size+1)::us) _ _ Z (hr.make C us [])
  (I2.m5.make C us []) bd r2 hq) λr s' hq'=>?_))
 cases r with
 |error e=>exact I2.thrown hq'
 |ok fl=>
  cases fl with
  |ret u=>obtain⟨v,H',I3,rv,ev,q3⟩:=I2.after hq';subst ev;exact⟨rv,⟨V.ref (s.heap.objs.size+1),H',I3,rfl,q3⟩⟩
  |next=>exact False.elim hq'
  |brk=>exact False.elim hq'
  |cont=>exact False.elim hq'
def Af(M:Mk X.K C f)(F:qO X.prog X.w X.K X.mg X.base (CXe X.prog X.w) k f fd ps sp)(hr:kY (k+1) X.A)(hg:Gl X x)(hm:X.mg x=some (.ref C))(hb:Binds X.K fd ps [])
  (ha:PA X.nox (e::es) t) (hdb:(x==("__debug__":Str))=false:=by decide) (he:starEach (e::es) X.env=(false,eval e X.env)::starEach es X.env:=by rfl) (hpl:(backTo pos (starEach es X.env)).any (·.1)=false:=by rfl):
  PEx X (.Call (.Name x p) (e::es) [] pos) (λσ H Q Z=>t σ H λvs H1=>∀x dx,H1 x=none->H1 dx=none->dx≠x->sp (.ref x::vs) (upd (upd H1 dx (.own x)) x (.ins C dx [])) (λv H2=>v=.non/\Q (.ref x) H2) Z):=by
 intro pins s σ H Q Z I h;refine a0x (Kx I hg hm ?_ hdb);refine a0Q (h₀:=X.base) I.ok.mod.kin M.kp (thn (PA.nox ha pos I h) λus s1 ⟨vs,H1,I1,r,q⟩=>⟨I1.kIn,?_⟩) he hpl;exact sx M F hr hb I1 r q
section
variable {X:Cx}{C:LC}{S S' S1 S2 Sb Sc:Od}{e o:Oq}{es:Om}{ws:Oh}{m:ME}{ms:MA}{pos p pos' vE:Pos}{x y mn:Str}{k i j:Nat}{f:Addr}{fd:OC}{ps:Ob}{fr w:Bool}{g:Ou}{m1 m2:MS}
end
end L2
namespace L2
open PySem PySem.W PyProof.Rows
def Xj{α:Type}(P:Pc)(f:Pa):KasT α->(α->Prop)->Prop
 |.ret a,Q=>Q a
 |.ask i j k,Q=>P i/\P j/\Xj P f (k (f i j)) Q
def Yv{α β:Type}{P:Pc}{f:Pa}{g:α->KasT β}{Q:β->Prop}:∀{t:KasT α},Xj P f t (λa=>Xj P f (g a) Q)->Xj P f (t.bind g) Q
 |.ret _,h=>h
 |.ask _ _ _,h=>⟨h.1,h.2.1,Yv h.2.2⟩
def qF{α:Type}{P:Pc}{f:Pa}{Q Q':α->Prop}(hq:∀a,Q a->Q' a):∀{t:KasT α},Xj P f t Q->Xj P f t Q'
 |.ret _,h=>hq _ h
 |.ask _ _ _,h=>⟨h.1,h.2.1,qF hq h.2.2⟩
def sA{α:Type}{P:Pc}{f:Pa}{cmp:Nat->Nat->(Bool->Shared->Prop)->Shared->Prop}{J:Shared->Prop}(hc:∀i j C s,P i->P j->J s->(∀s',J s'->C (f i j) s')->cmp i j C s){Q:α->Prop}{R:α->Shared->Prop}(hq:∀a s,Q a->J s->R a s):∀{t:KasT α}{s:Oe},J s->Xj P f t Q->t.kasWp cmp R s
 |.ret a,s,hs,h=>hq a s h hs
 |.ask i j k,s,hs,h=>hc i j _ s h.1 h.2.1 hs λs' hs'=>sA hc hq hs' h.2.2
abbrev at0(p:OQ)(k:Nat):Nat:=p.getD k 0
def Vi:at0 p k=(p[k]?).getD 0:=by
 unfold at0;by_cases h:k<p.size
 .simp[Array.getD,h]
 .simp[Array.getD,h]
def cH(hj:j<=p.size)(k:Nat):at0 (kas_rev p i j) k=if i<=k/\k<j then at0 p (i+j-1-k)else at0 p k:=by rw[Vi,Vi,Vi];unfold kas_rev;rw[getElem?_mirror_all hj];split<;>rfl
def bg(hk:k<p.size)(hl:l<=k)(i:Nat):at0 (bubble p k (k-l)) i=if i=l then at0 p k else if l<i/\i<=k then at0 p (i-1)else at0 p i:=by
 rw[Vi,Vi,Vi,Vi,getElem?_bubble hk (k-l) (by omega),show k-(k-l)=l by omega];split
 .rfl
 .split<;>rfl
section
variable {O:KeyOrd}{key:Nat->O.α}{n:Nat}
abbrev kk(key:Nat->O.α)(p:OQ)(i:Nat):O.α:=key (at0 p i)
abbrev ans(key:Nat->O.α)(i j:Nat):Bool:=O.blt (key i) (key j)
structure Pm(n:Nat)(p:OQ):Prop where
 perm:p.toList.Perm (List.range n)
 size:p.size=n
def Pm.rev(h:Pm n p):Pm n (kas_rev p i j):=⟨(a2j.mp (mirror_perm p i j _)).trans h.perm,(kas_rev_size i j).trans h.size⟩
def Pm.bub(h:Pm n p):Pm n (bubble p i j):=⟨(a2j.mp (bubble_perm p i j)).trans h.perm,(bubble_size p i j).trans h.size⟩
def Pm.lt(h:Pm n p)(h0:0<n)(k:Nat):at0 p k<n:=by
 rw[Vi];by_cases hk:k<p.size
 .rw[getElem?_pos p k hk];have:p[k]∈p.toList:=by simp
  exact a0C.mp (h.perm.mem_iff.mp this)
 .rw[getElem?_neg p k hk];exact h0
def Up(key:Nat->O.α)(p:OQ)(m:Nat):Prop:=∀i j,i<=j->j<m->O.kle (kk key p i) (kk key p j)
def Dn(key:Nat->O.α)(p:OQ)(m:Nat):Prop:=∀i j,i<=j->j<m->O.kle (kk key p j) (kk key p i)
def sC{p:OQ}(hp:Pm n p)(h0:0<n):∀{f m:Nat},1<=m->m+f<=n->Up key p m->Xj (·<n) (ans key) (kas_asc p f m) λr=>m<=r/\r<=m+f/\Up key p r/\(r<m+f->O.klt (kk key p r) (kk key p (r-1)))
 |0,m,_,_,hu=>⟨O2 _,O2 _,hu,λh=>absurd h (by omega)⟩
 |f+1,m,h1,hm,hu=>by
  refine⟨hp.lt h0 _,hp.lt h0 _,?_⟩;show Xj _ _ (if O.blt (kk key p m) (kk key p (m-1))=true then _ else _) _;cases hc:O.blt (kk key p m) (kk key p (m-1))with
  |true=>exact⟨O2 _,by omega,hu,λ_=>hc⟩
  |false=>
   have hu':Up key p (m+1):=λi j hij hj=>by
    by_cases c:j=m
    .subst c;by_cases c2:i=j
     .subst c2;exact O.irrefl _
     .exact a2C (hu i (j-1) (by omega) (by omega)) hc
    .exact hu i j hij (by omega)
   exact qF (λr ⟨a,b,c,d⟩=>⟨by omega,by omega,c,λh=>d (by omega)⟩) (sC hp h0 (f:=f) (m:=m+1) (by omega) (by omega) hu')
structure EW(key:Nat->O.α)(n:Nat)(p:OQ)(m q:Nat):Prop where
 pm:Pm n p
 dn:Dn key p m
 le:m<=n
 qm:q+1<=m
 eq:∀k,m-(q+1)<=k->k<m->kk key p k=kk key p (m-1)
def EW.alike(h:EW key n p m q)(k:Nat):kk key (kas_rev p (m-(q+1)) m) k=kk key p k:=by
 have hm:=h.le;have hs:=h.pm.size;have hq:=h.qm;unfold kk;rw[cH (by omega)];split
 .rename_i c;have e1:=h.eq (m-(q+1)+m-1-k) (by omega) (by omega);have e2:=h.eq k c.1 c.2;exact e1.trans e2.symm
 .rfl
def ic(h0:0<n):∀{f m q:Nat}{p:OQ},m+f<=n->EW key n p m q->Xj (·<n) (ans key) (kas_desc f p m q) λr=>m<=r.2.1/\r.2.1<=m+f/\EW key n r.1 r.2.1 r.2.2
 |0,m,q,p,_,h=>⟨O2 _,O2 _,h⟩
 |f+1,m,q,p,hm,h=>by
  have hq:=h.qm;refine⟨h.pm.lt h0 _,h.pm.lt h0 _,?_⟩;show Xj _ _ (if O.blt (kk key p m) (kk key p (m-1))=true then _ else _) _;have dn1:∀{p':OQ},(∀k,kk key p' k=kk key p k)->O.kle (kk key p m) (kk key p (m-1))->Dn key p' (m+1):=λ{p'} he hk i j hij hj=>by
   rw[he,he];by_cases c:j=m
   .subst c;by_cases c2:i=j
    .subst c2;exact O.irrefl _
    .exact a2C hk (h.dn i (j-1) (by omega) (by omega))
   .exact h.dn i j hij (by omega)
  cases hc:O.blt (kk key p m) (kk key p (m-1))with
  |true=>
   have hk:O.kle (kk key p m) (kk key p (m-1)):=a2D hc;have go:∀{p':OQ},Pm n p'->(∀k,kk key p' k=kk key p k)->Xj (·<n) (ans key) (kas_desc f p' (m+1) 0) λr=>m<=r.2.1/\r.2.1<=m+(f+1)/\EW key n r.1 r.2.1 r.2.2:=λ{p'} hp he=>
    qF (λr ⟨a,b,c⟩=>⟨by omega,by omega,c⟩) (ic h0 (f:=f) (m:=m+1) (q:=0) (p:=p') (by omega) ⟨hp,dn1 he hk,by omega,by omega,λk k1 k2=>by rw[show k=m+1-1 by omega]⟩)
   show Xj _ _ (if q>0 then kas_desc f (kas_rev p (m-(q+1)) m) (m+1) 0 else kas_desc f p (m+1) 0) _;by_cases c:q>0
   .rw[if_pos c];exact go h.pm.rev h.alike
   .rw[if_neg c];exact go h.pm λ_=>rfl
  |false=>
   refine⟨h.pm.lt h0 _,h.pm.lt h0 _,?_⟩;show Xj _ _ (if O.blt (kk key p (m-1)) (kk key p m)=true then _ else _) _;cases hd:O.blt (kk key p (m-1)) (kk key p m)with
   |true=>exact⟨O2 _,by show m<=m+(f+1);omega,h⟩
   |false=>
    have e:kk key p m=kk key p (m-1):=O.total _ _ hc hd;refine qF (λr ⟨a,b,c⟩=>⟨by omega,by omega,c⟩) (ic h0 (f:=f) (m:=m+1) (q:=q+1) (p:=p) (by omega) ⟨h.pm,dn1 (λ_=>rfl) hd,by omega,by omega,λk k1 k2=>?_⟩);by_cases c:k=m
    .rw[c];rfl
    .rw[show m+1-1=m by omega,e];exact h.eq k (by omega) (by omega)
abbrev Me(key:Nat->O.α)(n:Nat):Nat×Array Nat->Prop:=λr=>Pm n r.2/\1<=r.1/\r.1<=n/\Up key r.2 r.1
def lO(h0:0<n)(hp:Pm n p)(h1:1<=m)(hm:m<=n)(hd:Dn key p m):Xj (·<n) (ans key) (kas_tail3 m n p) (Me key n):=by
 have hs:=hp.size;have hu:Up key (kas_rev p 0 m) m:=λi j hij hj=>by unfold kk;rw[cH (by omega),cH (by omega),if_pos ⟨by omega,by omega⟩,if_pos ⟨by omega,by omega⟩];exact hd (0+m-1-j) (0+m-1-i) (by omega) (by omega)
 refine Yv (qF (λr ⟨a,b,c,_⟩=>?_) (sC hp.rev h0 (f:=n-m) (m:=m) h1 (by omega) hu));exact⟨hp.rev,by show 1<=r;omega,by show r<=n;omega,c⟩
def XZ(h0:0<n)(hp:Pm n p)(h1:1<=m)(hm:m+1<=n)(he:∀k,k<m->kk key p k=kk key p (m-1))(hl:O.klt (kk key p m) (kk key p (m-1))):Xj (·<n) (ans key) (kas_descPart m n p) (Me key n):=by
 have hs:=hp.size;have hf:EW key n p (m+1) 0:=⟨hp,λi j hij hj=>by
  by_cases c:j=m
  .subst c;by_cases c2:i=j
   .subst c2;exact O.irrefl _
   .rw[he i (by omega)];exact a2D hl
  .rw[he i (by omega),he j (by omega)];exact O.irrefl _,by omega,by omega,λk k1 k2=>by rw[show k=m+1-1 by omega]⟩
 refine Yv (qF (λr ⟨a,b,c⟩=>?_) (ic h0 (f:=n-(m+1)) (m:=m+1) (q:=0) (p:=p) (by omega) hf));have cm:=c.qm;by_cases hq:r.2.2>0
 .rw[if_pos hq];exact lO h0 c.pm.rev (by omega) c.le λi j hij hj=>by rw[c.alike,c.alike];exact c.dn i j hij hj
 .rw[if_neg hq];exact lO h0 c.pm (by omega) c.le c.dn
def Ag(h0:0<n)(hp:Pm n p):Xj (·<n) (ans key) (kas_count n p) (Me key n):=by
 have hs:=hp.size;refine Yv (qF (λm ⟨a,b,c,d⟩=>?_) (sC (key:=key) hp h0 (f:=n-1) (m:=1) (O2 _) (by omega) λi j hij hj=>by rw[show i=j by omega];exact O.irrefl _));by_cases e1:(m==n)=true
 .rw[if_pos e1];exact⟨hp,a,by show m<=n;omega,c⟩
 .rw[if_neg e1];have hmn:m<n:=by have:m≠n:=λq=>e1 (by rw[q];exact a05 _);omega
  have hl:=d (by omega);by_cases e2:m>1
  .rw[if_pos e2];refine⟨hp.lt h0 _,hp.lt h0 _,?_⟩;show Xj _ _ (if O.blt (kk key p 0) (kk key p (m-1))=true then _ else _) _;cases hc:O.blt (kk key p 0) (kk key p (m-1))with
   |true=>exact⟨hp,a,by show m<=n;omega,c⟩
   |false=>
    have e:kk key p 0=kk key p (m-1):=O.total _ _ hc (c 0 (m-1) (by omega) (by omega));have al:∀k,k<m->kk key p k=kk key p (m-1):=λk hk=>O.total _ _ (by rw[<- e];exact c 0 k (by omega) hk) (c k (m-1) (by omega) (by omega));have rv:∀k,kk key (kas_rev p 0 m) k=kk key p k:=λk=>by
     unfold kk;rw[cH (by omega)];split
     .rename_i z;exact(al (0+m-1-k) (by omega)).trans (al k z.2).symm
     .rfl
    exact XZ h0 hp.rev a hmn (λk hk=>by rw[rv,rv];exact al k hk) (by rw[rv,rv];exact hl)
  .rw[if_neg e2];exact XZ h0 hp a hmn (λk hk=>by rw[show k=m-1 by omega]) hl
def vL{p:OQ}(hp:Pm n p)(h0:0<n){k:Nat}(hu:Up key p k):∀{f l r:Nat},l<=r->r<=k->r-l<=f->(∀i,i<l->O.kle (kk key p i) (kk key p k))->(∀i,r<=i->i<k->O.klt (kk key p k) (kk key p i))->
  Xj (·<n) (ans key) (kas_place p k f l r) λl=>l<=k/\(∀i,i<l->O.kle (kk key p i) (kk key p k))/\∀i,l<=i->i<k->O.klt (kk key p k) (kk key p i)
 |0,l,r,lr,rk,hf,h1,h2=>⟨by omega,h1,λi hi=>h2 i (by omega)⟩
 |f+1,l,r,lr,rk,hf,h1,h2=>by
  show Xj _ _ (if l ≥ r then KasT.ret l else _) _;by_cases c:l ≥ r
  .rw[if_pos c];exact⟨by omega,h1,λi hi=>h2 i (by omega)⟩
  .rw[if_neg c];refine⟨hp.lt h0 _,hp.lt h0 _,?_⟩;show Xj _ _ (if O.blt (kk key p k) (kk key p ((l+r) / 2))=true then _ else _) _;cases hc:O.blt (kk key p k) (kk key p ((l+r) / 2))with
   |true=>exact vL hp h0 hu (f:=f) (l:=l) (r:=(l+r) / 2) (by omega) (by omega) (by omega) h1 λi i1 i2=>KeyOrd.klt_of_klt_of_kle hc (hu _ _ i1 i2)
   |false=>exact vL hp h0 hu (f:=f) (l:=(l+r) / 2+1) (r:=r) (by omega) rk (by omega) (λi hi=>a2C (hu i ((l+r) / 2) (by omega) (by omega)) hc) h2
def BL(h0:0<n):∀{f k:Nat}{p:OQ},Pm n p->k+f<=n->Up key p k->Xj (·<n) (ans key) (kas_bin f p k) λp'=>Pm n p'/\Up key p' (k+f)
 |0,k,p,hp,_,hu=>⟨hp,hu⟩
 |f+1,k,p,hp,hk,hu=>by
  have hs:=hp.size;refine Yv (qF (λl ⟨a,b,c⟩=>?_) (vL hp h0 hu (f:=k) (l:=0) (r:=k) (T6 _) (O2 _) (by omega) (λi hi=>absurd hi (a1d _)) λi i1 i2=>absurd i2 (by omega)));refine qF (λp' ⟨x,y⟩=>⟨x,by rw[show k+(f+1)=k+1+f by omega];exact y⟩) (BL h0 (f:=f) (k:=k+1) hp.bub (by omega) λi j hij hj=>?_);unfold kk;rw[bg (by omega) a,bg (by omega) a];by_cases i1:i=l
  .rw[if_pos i1];by_cases j1:j=l
   .rw[if_pos j1];exact O.irrefl _
   .rw[if_neg j1,if_pos ⟨by omega,by omega⟩];exact a2D (c (j-1) (by omega) (by omega))
  .rw[if_neg i1];by_cases j1:j=l
   .rw[if_pos j1,if_neg (by omega)];exact b i (by omega)
   .rw[if_neg j1];by_cases i2:l<i/\i<=k
    .rw[if_pos i2,if_pos ⟨by omega,by omega⟩];exact hu (i-1) (j-1) (by omega) (by omega)
    .rw[if_neg i2];by_cases j2:l<j/\j<=k
     .rw[if_pos j2];exact hu i (j-1) (by omega) (by omega)
     .rw[if_neg j2];exact hu i j hij (by omega)
def sD(h0:0<n):Xj (·<n) (ans key) (kas_sort n) λp=>Pm n p/\Up key p n:=by
 refine Yv (qF (λr ⟨a,b,c,d⟩=>?_) (Ag (key:=key) h0 (p:=List.toArray (List.range n)) ⟨List.Perm.refl _,by simp⟩));by_cases h:r.1<n
 .rw[if_pos h,show max r.1 1=r.1 by omega];refine qF (λp ⟨x,y⟩=>⟨x,by rw[show n=r.1+(n-r.1) by omega];exact y⟩) (BL h0 (f:=n-r.1) (k:=r.1) a (by omega) d)
 .rw[if_neg h];exact⟨a,by rw[show n=r.1 by omega];exact d⟩
end
end L2
namespace L2
open PySem PySem.Spec PyProof.Rows PySem.W
abbrev bh:=Int×Int×Str
def DP(x y:bh):Bool:=if x.1=y.1 then(if x.2.1=y.2.1 then decide (x.2.2.cps.toList<y.2.2.cps.toList)else decide (x.2.1<y.2.1))else decide (x.1<y.1)
def DQ{a b:Str}(h:a.cps.toList=b.cps.toList):a=b:=by obtain⟨x⟩:=a;obtain⟨y⟩:=b;exact a0e Str.mk (a2E.mp h)
def He:KeyOrd where
 α:=bh
 blt:=DP
 irrefl a:=by unfold DP;rw[if_pos rfl,if_pos rfl];exact strKind.irrefl _
 trans a b c h1 h2:=by
  unfold DP at *;by_cases e1:a.1=b.1
  .rw[if_pos e1]at h1;by_cases e2:b.1=c.1
   .rw[if_pos e2]at h2;rw[if_pos (e1.trans e2)];by_cases f1:a.2.1=b.2.1
    .rw[if_pos f1]at h1;by_cases f2:b.2.1=c.2.1
     .rw[if_pos f2]at h2;rw[if_pos (f1.trans f2)];exact strKind.trans _ _ _ h1 h2
     .rw[if_neg f2]at h2;rw[if_neg (by rw[f1];exact f2),f1];exact h2
    .rw[if_neg f1]at h1;by_cases f2:b.2.1=c.2.1
     .rw[if_pos f2]at h2;rw[if_neg (by rw[<- f2];exact f1),<- f2];exact h1
     .rw[if_neg f2]at h2;have h1:=a0g h1;have h2:=a0g h2;rw[if_neg (by omega)];exact O4 (by omega)
   .rw[if_neg e2]at h2;rw[if_neg (by rw[e1];exact e2),e1];exact h2
  .rw[if_neg e1]at h1;have h1:=a0g h1;by_cases e2:b.1=c.1
   .rw[if_neg (by omega)];exact O4 (by omega)
   .rw[if_neg e2]at h2;have h2:=a0g h2;rw[if_neg (by omega)];exact O4 (by omega)
 negTrans a b c h:=by
  unfold DP at *;by_cases e1:a.1=b.1
  .rw[if_pos e1];by_cases e2:b.1=c.1
   .rw[if_pos (e1.trans e2)]at h;rw[if_pos e2];by_cases f1:a.2.1=b.2.1
    .rw[if_pos f1];by_cases f2:b.2.1=c.2.1
     .rw[if_pos (f1.trans f2)]at h;rw[if_pos f2];exact strKind.negTrans _ _ _ h
     .rw[if_neg (by rw[f1];exact f2)]at h;rw[if_neg f2];exact .inr (by rw[<- f1];exact h)
    .rw[if_neg f1];by_cases f2:b.2.1=c.2.1
     .rw[if_neg (by rw[<- f2];exact f1)]at h;exact .inl (by rw[f2];exact h)
     .rw[if_neg f2];by_cases g:a.2.1<b.2.1
      .exact .inl (O4 g)
      .by_cases f3:a.2.1=c.2.1
       .exact .inr (O4 (by omega))
       .rw[if_neg f3]at h;have h:=a0g h;exact .inr (O4 (by omega))
   .rw[if_neg (by rw[e1];exact e2)]at h;rw[if_neg e2];exact .inr (by rw[<- e1];exact h)
  .rw[if_neg e1];by_cases g:a.1<b.1
   .exact .inl (O4 g)
   .refine .inr ?_;by_cases e2:b.1=c.1
    .rw[if_neg (by rw[<- e2];exact e1)]at h;have h:=a0g h;omega
    .rw[if_neg e2];by_cases f3:a.1=c.1
     .exact O4 (by omega)
     .rw[if_neg f3]at h;have h:=a0g h;exact O4 (by omega)
 total a b h1 h2:=by
  unfold DP at *;by_cases e1:a.1=b.1
  .rw[if_pos e1]at h1;rw[if_pos e1.symm]at h2;by_cases f1:a.2.1=b.2.1
   .rw[if_pos f1]at h1;rw[if_pos f1.symm]at h2;have:=DQ (strKind.total _ _ h1 h2);exact Prod.ext e1 (Prod.ext f1 this)
   .rw[if_neg f1]at h1;rw[if_neg (Ne.symm f1)]at h2;have h1:=a1B h1;have h2:=a1B h2;omega
  .rw[if_neg e1]at h1;rw[if_neg (Ne.symm e1)]at h2;have h1:=a1B h1;have h2:=a1B h2;omega
def IL(h:Heap)(v:Value)(k:bh):Prop:=∃a o n t1 t2 t3,v=.ref a/\h.get? a=some o/\o.cls=.type "tuple"/\o.data=.seq #[.int k.1 t1,.int k.2.1 t2,.str k.2.2 t3] n
section
variable {prog:Ot}{w:Ox}{A:Oy}{E:Oc}{s:Oe}
def lt3(h1:IL s.heap x k1)(h2:IL s.heap y k2)(h:Q (DP k1 k2) s):wpAny (model prog w) A (keyLt' (tuples' true) x y) Q E s:=by
 obtain⟨a,o,n,t1,t2,t3,rfl,ho,_,hd⟩:=h1;obtain⟨b,p,m,u1,u2,u3,rfl,hp,_,hq⟩:=h2;refine kat_lt ho hd hp hq ?_;unfold DP at h;refine kat_cons (a2t ?_);by_cases e1:k1.1=k2.1
 .rw[if_pos e1]at h;rw[show(k1.1==k2.1)=true from S9.mpr e1];refine kat_yes (kat_cons (a2t ?_));by_cases e2:k1.2.1=k2.2.1
  .rw[if_pos e2]at h;rw[show(k1.2.1==k2.2.1)=true from S9.mpr e2];refine kat_yes (kat_cons (wpAny_eqBool_str ?_));by_cases e3:k1.2.2=k2.2.2
   .rw[O4 e3];refine kat_yes (kat_nil ?_);rw[e3,show decide (k2.2.2.cps.toList<k2.2.2.cps.toList)=false from strKind.irrefl _]at h;exact h
   .rw[O6 e3];exact kat_no (kat_one _ _ (lt_str h))
  .rw[if_neg e2]at h;rw[show(k1.2.1==k2.2.1)=false from a0d.mpr e2];exact kat_no (kat_one _ _ (lt_int h))
 .rw[if_neg e1]at h;rw[show(k1.1==k2.1)=false from a0d.mpr e1];exact kat_no (oneLt_int h)
def eX(h:Heap):List Value->List bh->Prop
 |[],[]=>True
 |v::vs,k::ks=>IL h v k/\eX h vs ks
 |_,_=>False
def eX.get(d:bh):∀{vs:Og}{ks:List bh}{i:Nat},eX h vs ks->i<ks.length->IL h (vs.getD i .none) (ks.getD i d):=by
 intro vs
 induction vs with
 |nil=>
  intro ks i t hi;cases ks with
  |nil=>exact absurd hi (a1d _)
  |cons k ks=>exact t.elim
 |cons v vs ih=>
  intro ks i t hi;cases ks with
  |nil=>exact t.elim
  |cons k ks=>
   cases i with
   |zero=>exact t.1
   |succ i=>exact ih (ks:=ks) (i:=i) t.2 (Nat.lt_of_succ_lt_succ hi)
def eX.kat{h:Heap}:∀{vs:Og}{ks:List bh},eX h vs ks->∃fs:List Value,KatTups h vs fs/\fs.length=ks.length/\∀v∈fs,∃n t,v=.int n t
 |[],[],_=>⟨[],trivial,rfl,λv h=>by cases h⟩
 |_::_,_::_,⟨⟨a,o,n,t1,t2,t3,e,ho,hc,hd⟩,t⟩=>by obtain⟨fs,f1,f2,f3⟩:=eX.kat t;exact⟨_::fs,⟨⟨a,o,_,n,e,ho,hc,hd,rfl⟩,f1⟩,by rw[N9,N9,f2],λv hv=>(P8.mp hv).elim (λe=>⟨_,_,e⟩) (f3 v)⟩
 |[],_::_,t=>t.elim
 |_::_,[],t=>t.elim
def Mf(t:eX s.heap vs ks)(h0:0<ks.length)(h:Q (tuples' true) s):wpAny (model prog w) A (keyKind' vs.toArray) Q E s:=by obtain⟨fs,f1,f2,f3⟩:=t.kat;refine kat_kind (T:=.type "int") f1 (by omega) (λv hv=>?_) (by decide) (by rw[show((Value.type "int") != Value.type "tuple")=true by decide];exact h);obtain⟨n,t,rfl⟩:=f3 v hv;exact .now
end
section
variable {X:Cx}{pins:Oa}{σ:St}{H:Hp}{s:Oe}{h':Heap}
def Inv.Mg(I:Inv X pins σ H s)(k:∀b o,b≠it->s.heap.get? b=some o->h'.get? b=some o)(hn:H it=none)(hL:it≠X.env.locals)
  (h1:it∈X.ex\/X.s₀.heap.objs.size<=it) (h2:∀x c,X.env.cells.lookup x=some c->c≠it) (h3:∀p∈X.pn++pins,p.1≠it) (new:qE X.prog X.w (upd H it o) h' it o):Inv X pins σ (upd H it o) { s with heap:=h',toks:=t' }:=by
 have nit:∀b u,H b=some u->b≠it:=λb u e z=>by rw[z,hn]at e;cases e
 have nc:∀b,b∉[it]->b≠it:=λb hc z=>hc (by simp[z]);refine I.step (g':=s.gens) (d':=s.drawn) (ch:=[it]) (λb hb=>?_) (λb o _ _ hc e _=>k b o (nc b hc) e) (λb o _ _ hc e _=>⟨o.slots,k b o (nc b hc) e⟩) (λb _ hc _ n=>by rw[zg (nc b hc)];exact n)
  (λb o hc e=>⟨o,k b o (nc b hc) e⟩) (λb xs e=>by rw[zg (nit b _ e)];exact e) (λb _ _ e=>by rw[zg (nit b _ e)];exact e) (λb ps e=>⟨#[],by rw[zg (nit b _ e),e];simp⟩) (λm hm=>?_) (λb u e=>?_) I.bare
 .have e:b=it:=by simpa using hb
  subst e;exact⟨h1,hL,h2,h3⟩
 .obtain⟨o,es,ep,ho,r⟩:=hm;exact⟨o,es,ep,k _ o (Ne.symm hL) ho,r⟩
 .by_cases hb:b=it
  .subst hb;rw[zi]at e;cases e;exact new
  .rw[zg hb]at e;refine(I.hok b u e).oC (λc v hc q=>k c v ?_ q) (λc q=>by rw[zg (nit c _ q)];exact q) λc xs q=>by rw[zg (nit c _ q)];exact q
   rcases hc with z|z
   .rw[z];exact nit b u e
   .exact nit c _ z
structure Ah(X:Cx)(pins:Oa)(a:Addr):Prop where
 loc:a≠X.env.locals
 fs:a∉X.fs
 ex:a∈X.ex\/X.s₀.heap.objs.size<=a
 cel:∀x c,X.env.cells.lookup x=some c->c≠a
 pin:∀p∈X.pn++pins,p.1≠a
def Inv.M6{H':Hp}(I:Inv X pins σ H s)(hb:s.heap.objs.size<=b):Ah X pins b:=by have:=I.EL (H':=λ_=>none) hb rfl;exact⟨this.2.1,this.2.2.1,this.2.2.2.1,this.2.2.2.2.1,this.2.2.2.2.2⟩
def Inv.IP(I:Inv X pins σ H s)(w:Ah X pins a)(hn:H a=none)(ho:s.heap.get? a=some o)(hc:∀v,o.data≠.cell v):Inv X (pins++[(a,o)]) σ H s:=
 I.bK λp hp=>(T9.mp hp).elim (λz=>I.pin p (R7 _ z)) λz=>by rw[S0.mp z];exact⟨ho,hn,w.loc,w.fs,hc⟩
def Inv.at1(I:Inv X (pins++[(a,o)]) σ H s):s.heap.get? a=some o/\H a=none:=by have:=I.pin (a,o) (R7 _ (R7 _ O1));exact⟨this.1,this.2.1⟩
end
def sE(sp:Sp):List V->List V->Hp->(List V->Hp->Prop)->Prop
 |[],acc,H,Q=>Q acc H
 |v::vs,acc,H,Q=>sp [v] H (λz H'=>sE sp vs (acc++[z]) H' Q) (λ_ _ _=>False)
def U0(K:OF)(H:Hp):List V->List bh->Prop
 |[],[]=>True
 |z::zs,k::ks=>(∃p,z=.ref p/\SqT K H p [.int k.1,.int k.2.1,.str k.2.2])/\U0 K H zs ks
 |_,_=>False
def U0.len{K:OF}{H:Hp}:∀{zs:Oi}{ks:List bh},U0 K H zs ks->zs.length=ks.length
 |[],[],_=>rfl
 |_::_,_::_,t=>by rw[N9,N9,U0.len t.2]
 |[],_::_,t=>t.elim
 |_::_,[],t=>t.elim
def U0.oH{X:Cx}{pins:Oa}{σ:St}{H:Hp}{s:Oe}(I:Inv X pins σ H s):∀{zs:Oi}{ks:List bh}{us:Og},U0 X.K H zs ks->Vals zs us->eX s.heap us ks
 |[],[],_,_,.nil=>trivial
 |_::_,k::_,_,⟨⟨p,e,hq⟩,t⟩,.cons r rs=>by
  subst e;cases r;refine⟨?_,U0.oH I t rs⟩;obtain⟨its,r',⟨o,ho,hc,n,hd⟩,_⟩:=I.tuple hq;cases r' with
  |cons r1 r'=>cases r' with
   |cons r2 r'=>cases r' with
    |cons r3 r'=>cases r';obtain⟨t1,rfl⟩:=r1;obtain⟨t2,rfl⟩:=r2;obtain⟨t3,rfl⟩:=r3;exact⟨p,o,n,t1,t2,t3,rfl,ho,hc,hd⟩
 |[],_::_,_,t,_=>t.elim
 |_::_,[],_,t,_=>t.elim
def Srt(kz:List bh)(q:Od):Prop:=q.Perm (List.range kz.length)/\q.Pairwise λi j=>He.kle (kz.getD i (0,0,"")) (kz.getD j (0,0,""))
def BM(sp:Sp)(K:OF)(ys:Oi)(H:Hp)(Q:VK):Prop:=ys.length<64/\sE sp ys [] H λzs H'=>∃kz:List bh,kz.length=ys.length/\U0 K H' zs kz/\∀(q:Od) a,Srt kz q->H' a=none->Q (.ref a) (upd H' a (.lst (q.map λi=>ys.getD i .non)))
def BO(hp:Pm kz.length p)(hu:Up (O:=He) (λi=>kz.getD i (0,0,"")) p kz.length):Srt kz p.toList:=by
 refine⟨hp.perm,?_⟩;rw[a2s];intro i j hi hj hij;have hs:=hp.size;rw[a07]at hi hj;have:=hu i j (a1V hij) (by omega);have e:∀k (hk:k<p.size),at0 p k=p.toList[k]'(by rw[a07];exact hk):=λk hk=>by rw[Vi,getElem?_pos p k hk];simp
 unfold kk at this;rw[e i hi,e j hj]at this;exact this
def Ai(F:qO X.prog X.w X.K X.mg X.base (CXe X.prog X.w) k f fd ps sp)(hr:kY k A)(hA:o_ X.prog X.w X.K X.mg X.base A X.stack s H)(hb:Binds X.K fd ps [])
  (I:Inv X pins σ H s) (r:RelV v u) (h:sp [v] H Q (λ_ _ _=>False)):wpAny (Ph X) A (call (.ref f) [u]) (EP X pins σ Q) E s:=by
 have r2:Vals [v] [u]:=.cons r .nil;have hl:([u]++[]).length=ps.length:=by rw[R8,<- r2.length];exact F.len _ _ _ _ h
 have bd:=hb s [u] I.kIn hl;rw[R8]at bd;refine a0M (a0P (F.run A X.stack s H ⟨[u],[]⟩ [u] [v] Q _ hr hA bd r2 h) λr s' hq=>?_);cases r with
 |error e=>exact(eJ hq).elim
 |ok fl=>
  cases fl with
  |ret u=>exact I.after hq
  |next=>exact False.elim hq
  |brk=>exact False.elim hq
  |cont=>exact False.elim hq
section
variable {X:Cx}{k:Nat}{f:Addr}{fd:OC}{ps:Ob}{sp:Sp}
def lR{pins:Oa}{σ:St}{A:Oy}{E:Oc}{kS:Addr}{Q0:List V->Hp->Prop}{body:Value->PUnit->Sem (ForInStep PUnit)}(F:qO X.prog X.w X.K X.mg X.base (CXe X.prog X.w) k f fd ps sp)(hr:kY k A)(hA:A.frames=X.A.frames)(hb:Binds X.K fd ps [])
  (w:Ah X pins kS)
  (aO:∀x s (C:Shared->Prop),wpAny (Ph X) A (call (.ref f) [x]) (λz s'=>wpAny (Ph X) A (Builtin.List.listUpdate (.ref kS) (·.push z)) (λ_ s''=>C s'') (λ_ _=>False) s') (λ_ _=>False) s->wpAny (Ph X) A (body x ⟨⟩) (λr s'=>r=.yield ⟨⟩/\C s') E s):
  ∀{ys:Oi}{its:Og}{acc:Oi}{us:Og}{e:Nat}{H:Hp}{s:Oe},acc.length+ys.length<64->Vals ys its->Vals acc us->Inv X (pins++[(kS,seqObj "list" us.toArray e)]) σ H s->sE sp ys acc H Q0->
   wpAny (Ph X) A (forIn its PUnit.unit body) (λ_ s'=>∃zs us' e' H',zs.length=acc.length+ys.length/\Vals zs us'/\Inv X (pins++[(kS,seqObj "list" us'.toArray e')]) σ H' s'/\Q0 zs H') E s
 |[],_,acc,us,e,H,s,_,.nil,ra,I,h=>by rw[List.forIn_nil];exact O0 ⟨acc,us,e,H,rfl,ra,I,h⟩
 |v::ys,_,acc,us,e,H,s,hl,.cons (b:=u) (l₂:=its) r rs,ra,I,h=>by
  rw[N9]at hl;have hul:=ra.length;rw[List.forIn_cons];refine f8 (a0c (aO u s (λs'=>∃(zs:(V×Nat)×Value) (H':Hp),Inv X (pins++[(kS,seqObj "list" (us++[zs.2]).toArray zs.1.2)]) σ H' s'/\RelV zs.1.1 zs.2/\sE sp ys (acc++[zs.1.1]) H' Q0) ?_) (λq s' hq=>?_) λ_ _ x=>x)
  .have A0:o_ X.prog X.w X.K X.mg X.base A X.stack s H:=⟨hA.trans I.m5.frames,I.m5.mod,I.m5.bs,I.m5.bsz,I.m5.dz,I.m5.frf,I.m5.hok,I.m5.bare⟩;refine a0c (Ai F hr A0 hb I r h) (λz s1 ⟨y,H1,I1,r1,q1⟩=>?_) λ_ _ x=>x;have a1:=I1.at1;have J1:Inv X pins σ H1 s1:=I1.Zl;obtain⟨e2,he2⟩:∃e2,(s1.heap.update kS (Obj.mapSeq (·.push z))).get? kS=some (seqObj "list" (us++[z]).toArray e2):=⟨_,by
    have:=get?_update_seq a1.1 (·.push z);rw[show us.toArray.push z=(us++[z]).toArray by simp]at this;exact this⟩
   refine a2k a1.1 rfl ?_ (by rw[P9,a0l];omega) (P7 (a1X (Array.size_push ..)) (by rw[P9,a0l];omega));have J2:Inv X pins σ H1 { s1 with heap:=s1.heap.update kS (Obj.mapSeq (·.push z)),toks:=s1.toks }:=J1.turned (λb o hb ho=>(S7 s1.heap _ (Ne.symm hb)).trans ho) a1.2 w.loc w.ex w.cel w.pin;exact⟨((y,e2),z),H1,J2.IP w a1.2 he2 (λv h=>by cases h),r1,q1⟩
  .obtain⟨rfl,zs,H',I',r',q'⟩:=hq;show wpAny (Ph X) A (forIn its PUnit.unit body) _ E s';refine a0c (lR F hr hA hb w aO (ys:=ys) (acc:=acc++[zs.1.1]) (us:=us++[zs.2]) (by rw[O9,a0F];omega) rs (ra.append (.cons r' .nil)) I' q') (λ_ s2 ⟨zs',us',e',H2,hl',h2,h3,h4⟩=>⟨zs',us',e',H2,?_,h2,h3,h4⟩) λ_ _ x=>x;rw[hl',O9,a0F,N9];omega
def Vals.getD(r:Vals ys its)(i:Nat):RelV (ys.getD i .non) (its.getD i .none):=by
 induction r generalizing i with
 |nil=>exact rfl
 |cons r rs ih=>
  cases i with
  |zero=>exact r
  |succ i=>exact ih i
def cI{ys:Oi}{its:Og}(r:Vals ys its):∀q:List Nat,Vals (q.map λi=>ys.getD i .non) (q.map λi=>its.getD i .none)
 |[]=>.nil
 |i::q=>.cons (r.getD i) (cI r q)
end
section
variable {X:Cx}{k:Nat}{f:Addr}{fd:OC}{ps:Ob}{sp:Sp}
def eY{pins:Oa}{σ:St}{A:Oy}{E:Oc}{kS D:Addr}{e e1:Nat}{H:Hp}{s:Oe}{us outU:Og}{outV:Oi}{st:SortSt}{Q:VK}{P:PySem.Fin->Shared->Prop}
  (w1:Ah X pins D) (w2:Ah X (pins++[(D,seqObj "list" #[] e1)]) kS) (hu:us.length<64) (ho:outU.length<64) (ro:Vals outV outU) (hout:(arrOf st).map (·.2)=List.toArray outU) (hf:failedOf st=none)
  (I:Inv X (pins++[(D,seqObj "list" #[] e1)]++[(kS,seqObj "list" us.toArray e)]) σ H s) (hq:Q (.ref D) (upd H D (.lst outV))) (hP:∀s',EP X pins σ Q (.ref D) s'->P (.done (.ret .none)) s'):wpAny (Ph X) A (ksk_tail D false e1 (.ref kS) st) P E s:=by
 have aK:=I.at1;have J1:Inv X (pins++[(D,seqObj "list" #[] e1)]) σ H s:=I.Zl;have hne:kS≠D:=λz=>w2.pin (D,seqObj "list" #[] e1) (R7 _ (R7 _ O1)) z.symm;have J2:Inv X (pins++[(D,seqObj "list" #[] e1)]) σ H { s with heap:=s.heap.update kS (Obj.mapSeq λ_=>(#[]:Array Value)),toks:=s.toks }:=J1.turned (λb o hb ho=>(S7 s.heap _ (Ne.symm hb)).trans ho) aK.2 w2.loc w2.ex w2.cel w2.pin;have aD:=J2.at1;unfold ksk_tail
 try dsimp only
 rw[hout];refine f8 (a2k aK.1 rfl ?_ (by rw[P9,a0l];omega) (T6 _));refine f8 (a2c ?_);refine f8 (seqEpoch_at aD.1 rfl ?_);refine f8 (a2k aD.1 rfl ?_ (T6 _) (by simp only[Bool.false_eq_true,if_false,List.size_toArray];rw[a0l];omega));rw[hf];simp only[bne_self_eq_false,Bool.false_eq_true,if_false];refine O0 (hP _ ?_);have e2:=get?_update_seq aD.1 λ_=>List.toArray outU;have hl:=ro.length;have J4:Inv X pins σ (upd H D (.lst outV)) { s with heap:=(s.heap.update kS (Obj.mapSeq λ_=>(#[]:Array Value))).update D (Obj.mapSeq λ_=>List.toArray outU),toks:=s.toks }:=Inv.Mg (s:={ s with heap:=s.heap.update kS (Obj.mapSeq λ_=>(#[]:Array Value)),toks:=s.toks }) J2.Zl (λb o hb ho=>(S7 _ _ (Ne.symm hb)).trans ho) aD.2 w1.loc w1.ex w1.cel w1.pin (o:=.lst outV) ⟨by rw[a0l];omega,outU,_,ro,e2⟩;exact⟨.ref D,_,J4,rfl,hq⟩
def Aj
  (w1:Ah X pins D) (w2:Ah X (pins++[(D,seqObj "list" #[] e1)]) kS) (hy:ys.length<64) (ry:Vals ys its) (rz:Vals zs us) (hk:U0 X.K H zs kz) (hkl:kz.length=ys.length)
  (I:Inv X (pins++[(D,seqObj "list" #[] e1)]++[(kS,seqObj "list" us.toArray e)]) σ H s) (hq:∀q:List Nat,Srt kz q->Q (.ref D) (upd H D (.lst (q.map λi=>ys.getD i .non)))) (hP:∀s',EP X pins σ Q (.ref D) s'->P (.done (.ret .none)) s'):wpAny (Ph X) A (ksk_end D false its.toArray e1 (.ref kS) us.toArray) P E s:=by
 have hl:=ry.length;have hzl:=hk.len;have hul:=rz.length;have hit:us.length=its.length:=by omega
 unfold ksk_end
 try dsimp only
 simp only[Bool.false_eq_true,if_false];by_cases h2:its.toArray.size<2
 .rw[if_pos h2,if_pos h2];rw[P9]at h2;refine f8 (O0 ?_);rw[StateT.run_pure];refine f8 (O0 ?_)
  try dsimp only
  have hs:Srt kz (List.range its.length):=by refine⟨by rw[hkl,hl],?_⟩;rw[a2s];intro i j hi hj hij;rw[a0b]at hi hj;omega
  refine eY w1 w2 (by omega) (outU:=(List.range its.length).map λi=>its.getD i .none) (by rw[u8,a0b];omega) (cI ry _) ?_ rfl I (hq _ hs) hP;apply a2E.mp;show((us.toArray.zip its.toArray).map (·.2)).toList=_;rw[Array.toList_map,ksk_zip,List.map_snd_zip (by rw[List.toList_toArray,hit];exact O2 _)];refine List.ext_getElem (by rw[u8,a0b]) λi h1 h2=>?_;rw[a0z,a1z];simp[h1]
 .rw[if_neg h2,if_neg h2];rw[P9]at h2;have T3:=hk.oH I rz;refine f8 (Mf T3 (by omega) ?_);have tree:(kas_sort its.length).kasWp (kas_ask X.prog X.w A (tuples' true) us) (λp s'=>s'=s/\Srt kz p.toList) s:=by
   refine sA (P:=(·<kz.length)) (f:=ans (O:=He) λi=>kz.getD i (0,0,"")) (J:=λs'=>s'=s) (Q:=λp=>Srt kz p.toList) (λi j C s' hi hj hs hC=>?_) (λp s' h1 h2=>⟨h2,h1⟩) rfl ?_
   .subst hs;exact lt3 (T3.get (0,0,"") hi) (T3.get (0,0,"") hj) (hC _ rfl)
   .have:=sD (O:=He) (key:=λi=>kz.getD i (0,0,"")) (n:=kz.length) (by omega);rw[show its.length=kz.length by omega];exact qF (λp ⟨a,b⟩=>BO a b) this
  refine f8 (a0c (kat_run (ks:=us) (vs:=its) (Q:=λst' s'=>s'=s/\∃p:Array Nat,p.size=its.length/\arrOf st'=p.map (kas_item (us.toArray.zip its.toArray))/\failedOf st'=none/\Srt kz p.toList) hit (by omega) (by omega) (λp st' s' a1 a2 a3 a4=>⟨a4.1,p,a1,a2,a3,a4.2⟩) tree) ?_ λ_ _ x=>x)
  rintro⟨⟨⟩,st'⟩ s' ⟨rfl,p,hp,har,hf,srt⟩
  try dsimp only
  exact eY w1 w2 (by omega) (outU:=p.toList.map λi=>its.getD i .none) (by rw[u8,a07];omega) (cI ry _) (kat_snds hit har) hf I (hq _ srt) hP
end
def nP(F:qO X.prog X.w X.K X.mg X.base (CXe X.prog X.w) k f fd ps sp)(hr:kY (k+2) X.A)(hb:Binds X.K fd ps [])
  (I:Inv X pins σ H s) (hl:SqL X.K H l ys) (h:BM sp X.K ys H Q):wpAny (Ph X) X.A (call (.builtin "sorted") [.ref l] [(Str.ofString "key",.ref f)]) (EP X pins σ Q) E s:=by
 obtain⟨hy,h⟩:=h;obtain⟨its,ry,pl,hz⟩:=I.list hl;have hlen:=ry.length;refine call_function_entry_kw kind_sorted plain_sorted entry_sorted (ksk_s1 _ _) ?_;unfold Builtin.«sorted»;refine f8 (m:=checkCount "sorted" 1 1 _) (O0 ?_);refine f8 (collect_list pl.isList ?_ (by rw[a0l];omega));refine f8 (wpAny_newList ?_ (by rw[a0l];omega));have hsz:((s.heap.push (seqObj "list" #[] 0)).update s.heap.objs.size (Obj.mapSeq (·++its.toArray))).objs.size=s.heap.objs.size+1:=by rw[Heap.size_update,size_push']
 have hoL:(((s.heap.push (seqObj "list" #[] 0)).update s.heap.objs.size (Obj.mapSeq (·++its.toArray))).push (seqObj "list" its.toArray 0)).get? (s.heap.objs.size+1)=some (seqObj "list" its.toArray 0):=by rw[<- hsz];exact P2 _ rfl
 have keep:∀b o,s.heap.get? b=some o->(((s.heap.push (seqObj "list" #[] 0)).update s.heap.objs.size (Obj.mapSeq (·++its.toArray))).push (seqObj "list" its.toArray 0)).get? b=some o:=λb o q=>by have hlt:b<s.heap.objs.size:=O5 q;rw[Heap.get?_push_ne _ _ _ (by rw[hsz];exact P1 (a1I hlt)),a16 _ _ _ _ (P1 hlt),Heap.get?_push_ne _ _ _ (P1 hlt)];exact q
 have hs1:(((s.heap.push (seqObj "list" #[] 0)).update s.heap.objs.size (Obj.mapSeq (·++its.toArray))).push (seqObj "list" its.toArray 0)).objs.size=s.heap.objs.size+2:=by rw[size_push',hsz]
 show wpAny _ _ _ _ _ { s with heap:=((s.heap.push (seqObj "list" #[] 0)).update s.heap.objs.size (Obj.mapSeq (·++its.toArray))).push (seqObj "list" its.toArray 0) };rw[hsz];have I1:Inv X pins σ H { s with heap:=((s.heap.push (seqObj "list" #[] 0)).update s.heap.objs.size (Obj.mapSeq (·++its.toArray))).push (seqObj "list" its.toArray 0),toks:=s.toks }:=I.kept keep;have w1:Ah X pins (s.heap.objs.size+1):=I.M6 (H':=H) (a0w _);have n1:H (s.heap.objs.size+1)=none:=I.hok.fresh (a0w _);generalize((s.heap.push (seqObj "list" #[] 0)).update s.heap.objs.size (Obj.mapSeq (·++its.toArray))).push (seqObj "list" its.toArray 0)=h1 at hoL hs1 I1 keep;generalize hD:s.heap.objs.size+1=D at hoL w1 n1;refine f8 (a0i (wpAny_call_entry_kw slot_list_sort ⟨_,hoL,rfl⟩ entry_list_sort ?body (ksk_l1 _ _)))
 case body=>
  show wpAny (Ph X) X.A.in1.in1 (Builtin.«list.sort» ⟨[.ref D],[(Str.ofString "key",.ref f)]⟩) _ _ _;rw[ksk_t1];obtain⟨e1,ho1⟩:∃e1,(h1.update D (Obj.mapSeq λ_=>(#[]:Array Value))).get? D=some (seqObj "list" #[] e1):=⟨_,get?_update_seq hoL λ_=>#[]⟩;have I2:Inv X pins σ H { s with heap:=h1.update D (Obj.mapSeq λ_=>(#[]:Array Value)),toks:=s.toks }:=Inv.turned (s:={ s with heap:=h1,toks:=s.toks }) I1 (λb o hb ho=>(S7 h1 _ (Ne.symm hb)).trans ho) n1 w1.loc w1.ex w1.cel w1.pin;have hs2:(h1.update D (Obj.mapSeq λ_=>(#[]:Array Value))).objs.size=s.heap.objs.size+2:=by rw[Heap.size_update,hs1]
  unfold ksk_tree;refine f8 (listItems_at hoL rfl ?_);refine f8 (a2k hoL rfl ?_ (by rw[P9,a0l];omega) (T6 _));generalize h1.update D (Obj.mapSeq λ_=>(#[]:Array Value))=h2 at ho1 I2 hs2;refine f8 (seqEpoch_at ho1 rfl ?_);refine f8 (wpAny_newTuple ?_ (by show its.length<=_;rw[a0l];omega));refine f8 (wpAny_newList ?_ (T6 _));refine a0i ?_;have hk3:(h2.push { cls:=.type "tuple",data:=.seq its.toArray.toList.toArray }).objs.size=s.heap.objs.size+3:=by rw[size_push',hs2]
  have keep3:∀b o,h2.get? b=some o->((h2.push { cls:=.type "tuple",data:=.seq its.toArray.toList.toArray }).push { cls:=.type "list",data:=.seq ([]:List Value).toArray }).get? b=some o:=λb o q=>v4 _ (v4 _ q);have I3:Inv X pins σ H { s with heap:=(h2.push { cls:=.type "tuple",data:=.seq its.toArray.toList.toArray }).push { cls:=.type "list",data:=.seq ([]:List Value).toArray },toks:=s.toks }:=Inv.kept (s:={ s with heap:=h2,toks:=s.toks }) I2 keep3;have hoK:((h2.push { cls:=.type "tuple",data:=.seq its.toArray.toList.toArray }).push { cls:=.type "list",data:=.seq ([]:List Value).toArray }).get? (h2.push { cls:=.type "tuple",data:=.seq its.toArray.toList.toArray }).objs.size=some (seqObj "list" ([]:List Value).toArray 0):=P2 _ rfl;have hoD:=keep3 D _ ho1;show wpAny (Ph X) X.A.in1.in1 (ksk_rest D (.ref f) false its.toArray e1 (.ref (h2.push { cls:=.type "tuple",data:=.seq its.toArray.toList.toArray }).objs.size)) _ _ { s with heap:=(h2.push { cls:=.type "tuple",data:=.seq its.toArray.toList.toArray }).push { cls:=.type "list",data:=.seq ([]:List Value).toArray },toks:=s.toks };have w2:Ah X (pins++[(D,seqObj "list" #[] e1)]) (h2.push { cls:=.type "tuple",data:=.seq its.toArray.toList.toArray }).objs.size:=by have J:Inv X (pins++[(D,seqObj "list" #[] e1)]) σ H { s with heap:=h2,toks:=s.toks }:=Inv.IP (s:={ s with heap:=h2,toks:=s.toks }) I2 w1 n1 ho1 (λv h=>by cases h);exact J.M6 (H':=H) (by show h2.objs.size<=_;rw[hk3,hs2];omega)
  have n2:H (h2.push { cls:=.type "tuple",data:=.seq its.toArray.toList.toArray }).objs.size=none:=I.hok.fresh (by rw[hk3];omega);generalize(h2.push { cls:=.type "tuple",data:=.seq its.toArray.toList.toArray }).push { cls:=.type "list",data:=.seq ([]:List Value).toArray }=h3 at I3 hoK hoD;generalize(h2.push { cls:=.type "tuple",data:=.seq its.toArray.toList.toArray }).objs.size=kS at hoK w2 n2;have I4:Inv X (pins++[(D,seqObj "list" #[] e1)]++[(kS,seqObj "list" ([]:List Value).toArray 0)]) σ H { s with heap:=h3,toks:=s.toks }:=
   Inv.IP (s:={ s with heap:=h3,toks:=s.toks }) (Inv.IP (s:={ s with heap:=h3,toks:=s.toks }) I3 w1 n1 hoD (λv h=>by cases h)) w2 n2 hoK (λv h=>by cases h)
  unfold ksk_rest;refine f8 (a1E ?_)
  first
   |rw[List.forIn_toArray]
   | (rw[<- a3h];simp only[List.toList_toArray])
   |rw[<- a3h]
  refine f8 (a0c (lR (pins:=pins++[(D,seqObj "list" #[] e1)]) (σ:=σ) (A:=X.A.in1.in1) (E:=E) F hr.in1.in1 rfl hb w2 (λx s' C hx=>?_) (ys:=ys) (its:=its) (acc:=[]) (us:=[]) (e:=0) (H:=H) (by rw[a0X];omega) ry .nil I4 h) (λ_ s' hd=>?_) λ_ _ x=>x)
  .refine f8 (a0Y (a0c hx (λz s'' hz=>?_) λ_ _ hF=>hF.elim))
   try dsimp only
   exact f8 (a0c hz (λ_ s3 h3=>O0 ⟨rfl,h3⟩) λ_ _ hF=>hF.elim)
  .obtain⟨zs,us,e2,H',hzl,rz,I5,kz,hkl,hk3,hq⟩:=hd;have aK:=I5.at1;have aD:=I5.Zl.at1
   try dsimp only
   refine f8 (listItems_at aK.1 rfl ?_);exact Aj w1 w2 hy ry rz hk3 hkl I5 (λq srt=>hq q D srt aD.2) λs3 he=>⟨_,rfl,O0 ⟨_,rfl,he⟩⟩
def cJ(g:Ou):List PV->Option (List bh)
 |[]=>some []
 |x::xs=>match g [x]with
  |.ok (.t [.i a,.i b,.s c])=>(cJ g xs).map ((a,b,c)::·)
  |_=>none
def eZ{g:Ou}:∀{xs:Ov}{kz:List bh},cJ g xs=some kz->kz.length=xs.length
 |[],_,h=>by cases h;rfl
 |x::xs,kz,h=>by
  unfold cJ at h;split at h
  .obtain⟨ks,e,rfl⟩:=N8.mp h;rw[N9,N9,eZ e]
  .cases h
def sF{α:Type}{P:Pc}{f:Pa}{Q:α->Prop}:∀{t:KasT α},Xj P f t Q->∃a,Q a
 |.ret a,h=>⟨a,h⟩
 |.ask _ _ _,h=>sF h.2.2
def BP(kz:List bh):∃q,Srt kz q:=by
 by_cases h:0<kz.length
 .obtain⟨p,a,b⟩:=sF (sD (O:=He) (key:=λi=>kz.getD i (0,0,"")) h);exact⟨p.toList,BO a b⟩
 .refine⟨[],?_,List.Pairwise.nil⟩;rw[show kz.length=0 by omega];exact List.Perm.refl _
def DR(kz:List bh):List Nat:=Classical.choose (BP kz)
def Xk(kz:List bh):Srt kz (DR kz):=T7 (BP kz)
def DS(nd:kz.Nodup)(h:Srt kz q)(h':Srt kz q'):q=q':=by
 refine a2F (λa b ha hb h1 h2=>?_) h.2 h'.2 (h.1.trans h'.1.symm);have a1:=a0C.mp (h.1.mem_iff.mp ha);have b1:=a0C.mp (h'.1.mem_iff.mp hb);have e:=KeyOrd.kle_antisymm h1 h2;have ga:kz.getD a (0,0,"")=kz[a]:=by simp[a1]
 have gb:kz.getD b (0,0,"")=kz[b]:=by simp[b1]
 rw[ga,gb]at e;exact(List.getElem_inj nd).mp e
open Classical in
def Ak(g:Ou)(xs:Ov):Out PV:=if xs.length<64 then match cJ g xs with
 |some kz=>if kz.Nodup then .ok (.l ((DR kz).map λi=>xs.getD i .n))else .wall
 |none=>.wall else .wall
def e9(g:Ou)(ms:MA):ME:=λρ=>(ms ρ).bind λxs=>match xs with
 |[.l xs]=>Ak g xs
 |_=>.wall
def SqT.same{K:OF}{H H':Hp}{p:Addr}{xs:Oi}(h:SqT K H p xs)(s:zI H H'):SqT K H' p xs:=by
 rcases h with h|h
 .rcases h with h|⟨o,h⟩
  .exact .inl (.inl (s _ _ h))
  .exact .inl (.inr ⟨o,s _ _ h⟩)
 .exact .inr h
def sG{W:RC}{M:Of}{wk:Bool}{g:Ou}{Q:List V->Hp->Prop}:∀{xs:Ov}{vs acc:Oi}{H:Hp}{kz:List bh},yQ W M H xs vs->cJ g xs=some kz->(∀H' zs,zI H H'->U0 W.K H' zs kz->Q (acc++zs) H')->sE (lsp W false [wk] g) vs acc H Q
 |[],_,acc,H,kz,hr,hk,q=>by cases(show _=_ from hr);cases hk;have:=q H [] (zI.refl _) trivial;rw[R8]at this;exact this
 |x::xs,_,acc,H,kz,hr,hk,q=>by
  obtain⟨v,r,rfl,h1,h2⟩:=hr;unfold cJ at hk;split at hk
  .rename_i a b c hg;obtain⟨ks,e,rfl⟩:=N8.mp hk;refine⟨M,[x],⟨x,v,[],[],rfl,rfl,?_,rfl,rfl⟩,?_⟩
   .cases wk with
    |true=>rw[if_pos rfl];exact h1.weak
    |false=>rw[if_neg P5];exact qL.iff.mpr h1
   .rw[hg];intro z H2 s hz;unfold RtV at hz;rw[if_neg P5]at hz;obtain⟨p,ws,rfl,hq,hws⟩:=hz;obtain⟨v1,r1,rfl,e1,hws⟩:=hws;obtain⟨v2,r2,rfl,e2,hws⟩:=hws;obtain⟨v3,r3,rfl,e3,hws⟩:=hws;cases(show _=_ from hws);cases(show _=_ from e1);cases(show _=_ from e2);cases(show _=_ from e3);refine sG (acc:=acc++[.ref p]) (h2.same s) e λH' zs s' hz=>?_;have:=q H' (.ref p::zs) (s.trans s') ⟨⟨p,rfl,hq.same s'⟩,hz⟩;rw[a0m];exact this
  .cases hk
def yQ.BQ{W:RC}{M:Of}{H:Hp}{xs:Ov}{vs:Oi}(h:yQ W M H xs vs):∀q:List Nat,yQ W M H (q.map λi=>xs.getD i .n) (q.map λi=>vs.getD i .non)
 |[]=>rfl
 |i::q=>by
  refine⟨_,_,rfl,?_,h.BQ q⟩;show Rep W M H (xs.getD i .n) (vs.getD i .non);simp only[List.getD_eq_getElem?_getD];cases hx:xs[i]? with
  |some x=>obtain⟨v,e,r⟩:=h.get hx;rw[e];exact r
  |none=>
   cases hv:vs[i]? with
   |none=>exact rfl
   |some v=>obtain⟨x,e,_⟩:=h.ES hv;rw[hx]at e;cases e
def Al(F:qO X.prog X.w X.K X.mg X.base (CXe X.prog X.w) k f fd ps sp)(hr:kY (k+2) X.A)(hb:Binds X.K fd ps [])(hg:Gl X "sorted")(hm:X.mg "sorted"=none)(hgf:Gl X fn)(hmf:X.mg fn=some (.ref f))(ha:PA X [e] t)(hdb:(fn==("__debug__":Str))=false:=by decide)
  (he1:backTo pos (starEach [e] X.env)=(false,eval e X.env)::backTo pos (starEach [] X.env):=by rfl) (hpl:(backTo pos (starEach [e] X.env)).any (·.1)=false:=by rfl):
  PE X (.Call (.Name "sorted" p) [e] [⟨some "key",.Name fn p2,kpos⟩] pos) (λσ H Q=>t σ H λvs H1=>∃l ys,vs=[.ref l]/\SqL X.K H1 l ys/\BM sp X.K ys H1 Q):=by
 intro pins s σ H Q I h;refine a0x (aR I hg hm a3n ?_ (by decide) (by decide));refine callWith_kw (thn (ha pos pins s σ H _ I h) λus s1 ⟨vs,H1,I1,r1,l,ys,hv,hl,hq⟩=>?_) he1 hpl;subst hv;obtain⟨u,rfl,ru⟩:=vals1 r1;cases ru;refine thn (CD (nm:=some "key") (kpos:=kpos) (z_ (v:=.ref f) hgf hmf rfl hdb) Fs pos pins s1 σ H1 (λzs H2=>zs=[.ref f]/\H2=H1) I1 ⟨rfl,rfl⟩) λws s2 ⟨zs,H2,I2,rz,e1,e2⟩=>?_;subst e1;subst e2;obtain⟨u2,rfl,ru2⟩:=vals1 rz;cases ru2;exact nP F hr hb I2 hl hq
def Am(F:qO X.prog X.w X.K X.mg X.base (CXe X.prog X.w) k f fd ps (lsp C.W false [wk] g))(hr:kY (k+2) X.A)(hb:Binds X.K fd ps [])(hg:Gl X "sorted")(hm:X.mg "sorted"=none)(hgf:Gl X fn)(hmf:X.mg fn=some (.ref f))(ha:AM X C S ws [e] ms)(hdb:(fn==("__debug__":Str))=false:=by decide)
  (he1:backTo pos (starEach [e] X.env)=(false,eval e X.env)::backTo pos (starEach [] X.env):=by rfl) (hpl:(backTo pos (starEach [e] X.env)).any (·.1)=false:=by rfl):
  FM X C S (.Call (.Name "sorted" p) [e] [⟨some "key",.Name fn p2,kpos⟩] pos) (e9 g ms):=λhK=>by
 obtain⟨ta,a1,a2⟩:=ha hK;refine⟨_,Al F hr hb hg hm hgf hmf a1 hdb he1 hpl,λB P H σ ρ R Q q=>a2 B P H σ ρ R _ (YH q λxs vs H1 s1 r1 q1=>?_)⟩;have r1:=r1.weak;split at q1
 .rename_i ys _;obtain⟨v,r,rfl,⟨l,us,rfl,_,hl,rr⟩,hr'⟩:=r1;cases(show _=_ from hr');unfold Ak at q1;split at q1
  .rename_i h64;split at q1
   .rename_i kz hk;split at q1
    .rename_i nd;have hlen:us.length=ys.length:=(yQ.len rr).symm▸rfl;rw[hK];refine⟨l,us,rfl,SqL.of hl,by omega,sG rr hk λH' zs s hz=>⟨kz,by rw[eZ hk,hlen],by rw[a1v];exact hz,λq' a srt ha=>?_⟩⟩;rw[DS nd srt (Xk kz)];have q2:=vW q1 s;exact q2 _ _ (zI.upd ha) (QN ((rr.same s).BQ _) ha)
    .exact q1.elim
   .exact q1.elim
  .exact q1.elim
 .exact q1.elim
def X0(f:Str)(x:HV):List (Str×HV)->List (Str×HV)
 |[]=>[(f,x)]
 |kx::r=>if kx.1=f then(kx.1,x)::r else kx::X0 f x r
def qZ.VU{R:HV->V->Prop}{f:Str}{x:HV}{v:V}(hx:R x v):∀{fs:List (Str×HV)}{es:OE},qZ R fs es->qZ R (X0 f x fs) (VU f v es)
 |[],_,h=>by cases(show _=_ from h);exact⟨v,[],rfl,hx,rfl⟩
 |kx::r,_,⟨u,q,e,h1,h2⟩=>by
  subst e;unfold X0 L2.VU;by_cases c:kx.1=f
  .rw[if_pos c,if_pos (by simpa using c)];exact⟨v,q,rfl,hx,h2⟩
  .rw[if_neg c,if_neg (by simpa using c)];exact⟨u,_,rfl,h1,qZ.VU hx h2⟩
def U2(cs:Od)(f:Str)(mo mv:HME):HMS:=λρ G=>(mv ρ G).fw λy G1=>(mo ρ G1).fw λx G2=>match x with
 |.g k=>match G2[k]? with
  |some (.o c fs)=>if c∈cs/\fs.length<1000 then .nx ρ (G2.set k (.o c (X0 f y fs)))else .wall
  |_=>.wall
 |_=>.wall
def sH(ho:HE X W E o m1)(hv:HE X W E e m2)(hc:∀c∈cs,Cls X.K (W.cls c)/\vF X.K (W.cls c) fn)(hs:swapsWith e (some (.Attribute o fn pos')) pos.line X.env=pure false:=by rfl):
  HS X W E (.Assign [.Attribute o fn pos'] e pos) (U2 cs fn m1 m2):=λhK=>by
 obtain⟨to,o1,o2⟩:=ho hK;obtain⟨te,a1,a2⟩:=hv hK;refine⟨_,Bh o1 a1 hs,λZ hZ A H σ ρ G R D q=>a2 Z hZ A H σ ρ G R _ (HPs.bind q λy A1 H1 G1 h1 g1 q1 u ry=>?_)⟩;have R1:=R.gro h1 g1;refine o2 Z hZ A1 H1 σ ρ G1 R1 _ (HPs.bind q1 λx A2 H2 G2 h2 g2 q2 v rx=>?_);subst hZ;split at q2
 .rename_i k;obtain⟨hk,rfl⟩:=rx;split at q2
  .rename_i c fs hG;split at q2
   .rename_i hcs;obtain⟨dx,vs,hp,r⟩:=h2.cell k _ hG;have hl:=qZ.len r;have g3:=h2.frw (o:=.ins (Z.W.cls c) dx (VU fn u vs)) hk hp id;refine⟨_,_,dx,vs,rfl,hp,(hc c hcs.1).1,(hc c hcs.1).2,by rw[hl];exact hcs.2,MZ (c:=.o c (X0 fn y fs)) (R1.gro h2 g2) hk hp id ⟨dx,_,zi,?_⟩ q2⟩;exact qZ.VU ((ry.gro g2).gro g3) (r.imp λ_ _ z=>z.gro g3)
   .exact q2.elim
  .exact q2.elim
 .exact q2.elim
def EX(c:Nat)(g:List HV->AH->HX HV)(ms:HMA):HME:=λρ G=>(ms ρ G).bind λxs G1=>match g (.g G1.length::xs) (G1++[.o c []])with
 |.ok (.v .n) G2=>.ok (.g G1.length) G2
 |.exc c fs G2=>.exc c fs G2
 |_=>.wall
def An(M:Mk X.K (W.cls c) f)(F:qO X.prog X.w X.K X.mg X.base (CXe X.prog X.w) k f fd ps (hsp W n g))(hr:kY (k+1) X.A)(hg:Gl X x)(hm:X.mg x=some (.ref (W.cls c)))(hb:Binds X.K fd ps [])(hx:Passes (CXe X.prog X.w) X E)(ha:HA X W E (e::es) ms)(hn:∀ρ G xs G',ms ρ G=.ok xs G'->xs.length+1=n)
  (hdb:(x==("__debug__":Str))=false:=by decide) (he:starEach (e::es) X.env=(false,eval e X.env)::starEach es X.env:=by rfl) (hpl:(backTo pos (starEach es X.env)).any (·.1)=false:=by rfl):HE X W E (.Call (.Name x p) (e::es) [] pos) (EX c g ms):=λhK=>by
 obtain⟨ta,a1,a2⟩:=ha hK;refine⟨_,pd M F hr hg hm hb .nil hx a1 hdb he hpl,λZ hZ A H σ ρ G R Q q=>a2 Z hZ A H σ ρ G R _ ?_⟩;subst hZ;unfold EX at q;revert q;cases hq:ms ρ G with
 |wall=>exact id
 |exc c fs G'=>exact id
 |ok xs G1=>
  intro q A1 H1 h1 g1 vs rs x dx hx hd hne;rw[R8];have s1:zI H1 (upd (upd H1 dx (.own x)) x (.ins (Z.W.cls c) dx [])):=λb o hb=>by rw[zg (zZ hb hx),zg (zZ hb hd)];exact hb
  have h2:=h1.alloc (p:=x) (c:=.o c []) s1 hx ⟨dx,[],zi,rfl⟩;have g2:Gro Z A1 G1.length H1 (exA A1 G1.length x) (G1.length+1) _:=Gro.ext s1 hx;have ex:exA A1 G1.length x G1.length=x:=by unfold exA;rw[if_pos rfl]
  have hl1:(G1++[Cell.o c []]).length=G1.length+1:=by rw[O9];rfl
  refine⟨Z,exA A1 G1.length x,G1++[.o c []],.g G1.length::xs,rfl,hn _ _ _ _ hq,h2,?_,?_⟩
  .rw[hl1];exact⟨.ref x,vs,rfl,⟨a0a _,by rw[ex]⟩,rs.gro g2⟩
  .have q:HPx Z E A G.length H (KV' Z Q) (match g (.g G1.length::xs) (G1++[.o c []])with
    |.ok (.v .n) G2=>.ok (.g G1.length) G2
    |.exc c fs G2=>.exc c fs G2
    |_=>.wall):=q
   have gg:=g1.trans g2;revert q;cases g (.g G1.length::xs) (G1++[.o c []])with
   |wall=>exact id
   |exc c fs G2=>exact λq=>uH.gro q (by rw[hl1];exact gg)
   |ok y G2=>
    intro q;cases y with
    |v z=>
     cases z with
     |n=>intro A2 H2 h3 g3 v rv;rw[hl1]at g3;refine⟨rv,q A2 H2 h3 (gg.trans g3) (.ref x) ⟨P4 (a0a _) g3.le,?_⟩⟩;rw[g3.agr _ (a0a _),ex]
     |_=>exact q.elim
    |_=>exact q.elim
def Mh(kvs:OU)(ks:OR):PV->Out PV
 |.i n=>.ok (.i ((yq kvs ks).getD n))
 |_=>.wall
def nQ(m:ME)(ms:MA)(md:ME):ME:=λρ=>(m ρ).bind λx=>match x with
 |.dt kvs=>(ms ρ).bind λxs=>match pk2 xs with
  |some ks=>(md ρ).bind (Mh kvs ks)
  |none=>.wall
 |_=>.wall
def sI(hu:X.A.units+1<cLine)(h1:EM X C S w1 o m1)(h2:AM X C S ws es ms)(h3:EM X C S w2 f m2)(m:M2 X o "get" vE (.Tuple es x1 p) f Zi):EM X C S false (.Call (.Attribute o "get" vE) [.Tuple es x1 p,f] [] Zi) (nQ m1 ms m2):=λhK=>by
 obtain⟨ta,a1,a2⟩:=h1 hK;obtain⟨tb,b1,b2⟩:=h2 hK;obtain⟨tc,c1,c2⟩:=h3 hK;refine⟨_,xa hu a1 (aT b1) c1 m,λB P H σ ρ R Q q=>a2 B P H σ ρ R _ (ye q λx v H1 s1 r1 q1=>?_)⟩;cases x with
 |dt kvs=>
  obtain⟨a,rfl,_,hd⟩:=r1.weak;refine⟨a,rfl,.inr ⟨_,hd⟩,b2 B P H1 σ ρ (R.keep s1) _ (qP q1 λxs vs H2 s2 r2 q2=>?_)⟩;split at q2
  .rename_i ks hk;obtain⟨rfl,hl⟩:=r2.IK hk;refine⟨hl,λz hz=>c2 B P _ σ ρ (((R.keep s1).keep s2).keep (zI.upd hz)) _ (ye (Yr q2 (zI.upd hz)) λy u H3 s3 r3 q3=>?_)⟩;unfold Mh at q3;split at q3
   .rename_i n;cases(show u=.int n from r3.weak);refine⟨_,.inr ⟨_,_,z,XX s3 (XX (zI.upd hz) (XX s2 hd)),rfl,s3 _ _ zi,rfl⟩,?_⟩;rw[cG];cases e:yq kvs ks with
    |none=>rw[e]at q3;exact q3 _ H3 (zI.refl _) (RV.of rfl)
    |some k=>rw[e]at q3;exact q3 _ H3 (zI.refl _) (RV.of rfl)
   .exact q3.elim
  .exact q2.elim
 |_=>exact q1.elim
section
open PySem.SeqAt
open PySem.AutoSeq1 (wpAny_loadPart')
open PySem.MeetsSeq PySem.MeetsSeq2 PySem.MeetsSeq3
end
section
variable {X:Cx}
end
section
variable {X:Cx}{C:LC}{S:Od}{o f:Oq}{es:Om}{ws:Oh}{w1 w2:Bool}{m1 m2:ME}{ms:MA}{Zi vE p:Pos}{x1:Nat}
end
end L2
namespace L2
open PySem PySem.Spec PyProof.Rows PySem.W
section
variable {X:Cx}{W:RC}{E:XK}{o a e:Oq}{m m1 m2:HME}{pos tpos:Pos}
end
section
variable {Z:HC}{E:XK}{A A':Ol}{H H':Hp}{G G':AH}{σ σ':St}{ρ ρ':K4}{es:Oo}{k n:Nat}{D:Ends}{kvs:List (Key×HV)}{o:Obj}
end
section
variable {X:Cx}{W:RC}{E:XK}{tg kX:Oq}{body:OG}{mg:HMG}{mb:HMS}{pos:Pos}{i:Nat}
end
section
variable {X:Cx}{pins:Oa}{σ:St}{H:Hp}{s:Oe}{a b:Addr}{kvs more:Oo}{A:Oy}{E:Oc}
end
section
variable {X:Cx}{C:LC}{S Sb Sc:Od}{o e:Oq}{m:ME}{w:Bool}{pos p:Pos}
end
section
variable {X:Cx}{o:Oq}{to:TE}{p pos vE Zi:Pos}
end
section
variable {X:Cx}{C:LC}{S:Od}{w:Bool}{o:Oq}{m:ME}{p pos vE Zi:Pos}
end
section
variable {X:Cx}{W:RC}{E:XK}{tg a0 b0:Oq}{body:OG}{mg:HMG}{mb:HMS}{pos ipos:Pos}{i:Nat}{n:Int}
end
section
variable {prog:Ot}{w:Ox}{A:Oy}{E:Oc}{s:Oe}
end
section
variable {X:Cx}{pins:Oa}{σ:St}{H:Hp}{s:Oe}{W:RC}
end
section
variable {X:Cx}{C:LC}{S:Od}{e a b:Oq}{m m1 m2:ME}{pos:Pos}
end
section
variable {X:Cx}{o:Oq}{to:TE}{p pos vE Zi:Pos}
end
section
variable {X:Cx}{C:LC}{S:Od}{w:Bool}{o:Oq}{m:ME}{p pos vE Zi:Pos}
end
section
variable {prog:Ot}{w:Ox}{A:Oy}{R:Result->Shared->Prop}{I S:Addr}{fp wr:OP}{n:Nat}{P:Nat->Value->Prop}{St:Nat->Heap->Prop}{d:Value}
end
section
variable {X:Cx}{C:LC}{S:Od}{e:Oq}{ws:Oh}{ms:MA}{p pos kpos pk:Pos}{jk:Nat}{n:Int}{t:TA}
end
section
variable {X:Cx}{C:LC}{S:Od}{mi:MI}{mg:MG}{mc:MT}{me:ME}
end
section
variable {X:Cx}{W:RC}{E:XK}
variable {fr':Bool}{S:Od}{kX tg elt:Oq}{ifs:Om}{me:ME}{mc:MT}{mg:MG}{mi:MI}{pos uC py:Pos}{i j:Nat}{scope:Scope}{y:Str}
end
section
variable {X:Cx}
end
section
variable {X:Cx}{W:RC}{E:XK}{o e f:Oq}{m1 m2:HME}{ma:HMA}{vE p pos:Pos}
end
section
variable {X:Cx}{C:LC}{S:Od}{w:Bool}{e:Oq}{lo hi:Pd}{m:ME}{ml mh:MO}{p2 pos:Pos}
end
section
variable {X:Cx}{pins:Oa}{σ:St}{H:Hp}{s:Oe}{h':Heap}{ch:OP}{T:Addr}{o:HO}{t':Nat}
def Inv.Mi(I:Inv X pins σ H s)(hf:∀b∈ch,mR X pins H b)(k:∀b u,b∉ch->s.heap.get? b=some u->h'.get? b=some u)(hp:s.heap.objs.size<=T)(new:qE X.prog X.w (upd H T o) h' T o):Inv X pins σ (upd H T o) { s with heap:=h',toks:=t' }:=by
 have hn:H T=none:=I.hok.fresh hp;have neT:∀b u,s.heap.get? b=some u->b≠T:=λb u e=>P1 (P4 (O5 e) hp);refine I.step (g':=s.gens) (d':=s.drawn) (ch:=ch) (λb hb=>⟨(hf b hb).2.2.2.1,(hf b hb).2.1,(hf b hb).2.2.2.2.1,(hf b hb).2.2.2.2.2⟩) (λb o _ _ hc e _=>k b o hc e) (λb o _ _ hc e _=>⟨o.slots,k b o hc e⟩) (λb o _ e n=>by rw[zg (neT b o e)];exact n)
  (λb o hc e=>⟨o,k b o hc e⟩) (λb xs e=>by rw[zg (zZ e hn)];exact e) (λb o u e=>by rw[zg (zZ e hn)];exact e) (λb ps e=>⟨#[],by rw[zg (zZ e hn),e];simp⟩) (λm hm=>?_) (λb u e=>?_) I.bare
 .obtain⟨o,es,ep,ho,r⟩:=hm;exact⟨o,es,ep,k _ o (λz=>(hf _ z).2.1 rfl) ho,r⟩
 .by_cases hb:b=T
  .subst hb;rw[zi]at e;cases e;exact new
  .rw[zg hb]at e;refine(I.hok b u e).oC (λc v hc q=>k c v (λz=>?_) q) (λc q=>by rw[zg (zZ q hn)];exact q) λc xs q=>by rw[zg (zZ q hn)];exact q
   rcases hc with hc|hc
   .subst hc;rw[(hf _ z).1]at e;cases e
   .rw[(hf _ z).1]at hc;cases hc
def Inv.Mj(I:Inv X pins σ H s)(hf:∀b∈ch,mR X pins H b)(k:∀b u,b∉ch->s.heap.get? b=some u->h'.get? b=some u):Inv X pins σ H { s with heap:=h',toks:=t' }:=by
 refine I.step (g':=s.gens) (d':=s.drawn) (ch:=ch) (λb hb=>⟨(hf b hb).2.2.2.1,(hf b hb).2.1,(hf b hb).2.2.2.2.1,(hf b hb).2.2.2.2.2⟩) (λb o _ _ hc e _=>k b o hc e) (λb o _ _ hc e _=>⟨o.slots,k b o hc e⟩) (λb o _ e n=>n)
  (λb o hc e=>⟨o,k b o hc e⟩) (λb xs e=>e) (λb o u e=>e) (λb ps e=>⟨#[],by rw[e];simp⟩) (λm hm=>?_) (λb u e=>?_) I.bare
 .obtain⟨o,es,ep,ho,r⟩:=hm;exact⟨o,es,ep,k _ o (λz=>(hf _ z).2.1 rfl) ho,r⟩
 .refine(I.hok b u e).oC (λc v hc q=>k c v (λz=>?_) q) (λc q=>q) λc xs q=>q;rcases hc with hc|hc
  .subst hc;rw[(hf _ z).1]at e;cases e
  .rw[(hf _ z).1]at hc;cases hc
end
def Itw(n:Nat)(ok:Hp->Prop)(row:Nat->List V):It:=
 ⟨λi H=>i<n/\ok H,λi H x H'=>∃T,x=.ref T/\H T=none/\H'=upd H T (.tup (row i)),λi H=>i=n/\ok H⟩
def IQ(xs ys:Oi)(i:Nat):List V:=[xs[i]?.getD .non,ys[i]?.getD .non]
def DT(hl:row.length<=sizeLine)(r:Vals row vals.toList)(ht:h.IsTuple T vals):qE P w (upd H T (.tup row)) h T (.tup row):=⟨hl,vals.toList,r,ht⟩
section
variable {P:Ot}{w:Ox}{K:OF}{elts:Om}{kk:Nat}{tp:Pos}
end
section
variable {X:Cx}{C:LC}{S:Od}{elts:Om}{kk:Nat}{tp p pos:Pos}{e a b:Oq}{m:ME}{ms:MA}{cc:Bool}
def IS(xs ys:Ov):List PV:=List.zipWith (λx y=>.t [x,y]) xs ys
def e_(h:H T=none):zI H (upd H T o):=λa u e=>by rw[zg (zZ e h)];exact e
def NW(hn:xs.length=n)(hMN:∀a,M a->N a)(h:∀H',Fr N H2 H'->ok H')(r:∀i x,xs[i]?=some x->∃ys,x=.t ys/\yQ W M H2 ys (row i)):Dq W M N H2 (Itw n ok row) xs:=λH' f=>by refine⟨λi x hx=>?_,hn,h H' f⟩;obtain⟨ys,rfl,rr⟩:=r i x hx;refine⟨⟨by have:=(P6.mp hx).1;omega,h H' f⟩,λv H'' hy=>?_⟩;obtain⟨T,rfl,hT,rfl⟩:=hy;refine⟨e_ hT,λM' sM=>⟨T,row i,rfl,.inl (.inl (zi ..)),?_⟩⟩;exact yQ.gen (λa o h m=>e_ hT _ _ (f a o h (m.imp (hMN a) id))) (λa m n=>sM a m n) rr
end
def Hf(k:Bool):List Bool->Option Nat
 |[]=>none
 |b::bs=>if b=k then some 0 else(Hf k bs).map (·+1)
def DU(xs:Ov):PV->Out PV
 |.b k=>Yt ((p7 xs).bind λns=>if ns.length<=1000 then(Hf k ns).map λj:Nat=>PV.i (j:Int)else none)
 |_=>.wall
def Hg(m1 m2:ME):ME:=λρ=>(m1 ρ).bind λx=>match x with
 |.l xs=>(m2 ρ).bind (DU xs)
 |_=>.wall
def sJ{k:Bool}:∀{bs:Oh}{j:Nat},Hf k bs=some j->bs[j]?=some k/\∀m,m<j->bs[m]?=some (!k)
 |[],_,h=>by cases h
 |b::bs,j,h=>by
  unfold Hf at h;by_cases c:b=k
  .rw[if_pos c]at h;cases h;exact⟨by rw[c];rfl,λm hm=>absurd hm (a1d _)⟩
  .rw[if_neg c]at h;obtain⟨i,hi,rfl⟩:=N8.mp h;obtain⟨h1,h2⟩:=sJ hi;refine⟨h1,λm hm=>?_⟩;cases m with
   |zero=>show some b=some (!k);revert c;cases b<;>cases k<;>simp
   |succ m=>exact h2 m (by omega)
def Ml(K:OF):V->List V->Hp->VK->Prop:=λx vs H Q=>∃(p:Addr)(bs:Oh)(k:Bool)(j:Nat),x=.ref p/\vs=[.bl k]/\SqL K H p (bs.map V.bl)/\bs.length<=1000/\Hf k bs=some j/\Q (.int j) H
def sL:MtM X "list.index" (Ml X.K):=by
 intro pins s σ H x vs v us Q I rx rv h;obtain⟨p,bs,k,j,rfl,rfl,hS,hl,hj,q⟩:=h;cases rx;obtain⟨u,rfl,ru⟩:=rv.one;cases(show u=Value.bool k from ru);obtain⟨its,r,pl,_⟩:=I.list hS;have e:=Xd r;subst e;obtain⟨⟨cls,dd,data,sl⟩,ho,hc,n,hd⟩:=id pl.isList;simp only at hc hd;subst hc hd;obtain⟨h1,h2⟩:=sJ hj;obtain⟨jl,hj'⟩:=P6.mp h1;have sz:(bs.map Value.bool).toArray.size=bs.length:=by simp
 refine a2q a2K ⟨_,ho,rfl⟩ PySem.F.entry_list_index (PySem.F.args_list_index_2 _ _) (PySem.SeqAt.list_indexAt p (bs.map Value.bool).toArray n dd sl (.bool k) (isBoolOf k) j (by rw[sz];exact jl) (by omega) (by
  simp[hj',isBoolOf]) (λm hm hlt=>by
  obtain⟨ml,hm'⟩:=P6.mp (h2 m hlt);simp[hm',isBoolOf])) ⟨ho,λy hy=>?_,?_⟩
 .obtain⟨b,_,rfl⟩:=a0s.mp (show y∈bs.map Value.bool by simpa using hy);exact a2i b k
 .exact⟨.int _,H,I.tok _,⟨_,rfl⟩,q⟩
def sO(ho:EM X C S w1 o m1)(ha:EM X C S w2 e m2)(dv:attributeBase o "index" X.env (eval o X.env)=eval o X.env:=by rfl)
  (Bb:((backTo Zi (starEach [e] X.env)).all (λx=>!x.1)&&(backToKw Zi (keywordEach [] X.env)).all (λx=>x.1.isSome)
   && decide (([e]:List Expr).length+([]:List Keyword).length+(if([]:List Keyword).isEmpty then 0 else 1)<30))=true:=by rfl)
  (dr:(vE.endLine==Zi.line)=true:=by rfl) (hs:starEach [e] X.env=[(false,eval e X.env)]:=by rfl):EM X C S false (.Call (.Attribute o "index" vE) [e] [] Zi) (Hg m1 m2):=λhK=>by
 obtain⟨to,a1,a2⟩:=ho hK;obtain⟨te,b1,b2⟩:=ha hK;refine⟨_,uW a1F a2K PySem.F.type_list_index sL a1 (QK b1 Xr (by rw[hs];rfl)) dv Bb dr (by rw[hs];rfl) rfl,λB P H σ ρ R Q q=>a2 B P H σ ρ R _ (ye q λx v H1 s1 r1 q1=>?_)⟩;cases x with
 |l xs=>
  obtain⟨p,vs,rfl,_,hl,rr⟩:=r1.weak;refine⟨.inl ⟨rfl,vs,SqL.of hl⟩,b2 B P H1 σ ρ (R.keep s1) _ ?_⟩;have q1:yp C B H1 (RV C B S P false) Q ((m2 ρ).bind (DU xs)):=q1;revert q1;cases m2 ρ with
  |exc c fs=>exact id
  |wall=>exact id
  |ok y=>
   intro q1 u H2 s2 r2;have q1:yp C B H1 (RV C B S P false) Q (DU xs y):=q1;cases y with
   |b k=>
    obtain⟨z,e,q1⟩:=y_ q1;obtain⟨ns,hn,e⟩:=R9.mp e;by_cases c:ns.length<=1000
    .rw[if_pos c]at e;obtain⟨j,hj,rfl⟩:=N8.mp e;have hl2:=s2 _ _ hl;rw[ck rr hn]at hl2;exact⟨p,ns,k,j,rfl,by rw[(show u=V.bl k from r2.weak)],SqL.of hl2,c,hj,q1 _ H2 s2 (RV.of rfl)⟩
    .rw[if_neg c]at e;cases e
   |_=>exact q1.elim
 |_=>exact q1.elim
section
variable {X:Cx}{C:LC}{S:Od}{elts:Om}{kk:Nat}{tp p pos:Pos}{a b:Oq}{m1 m2:ME}
end
section
variable {X:Cx}{W:RC}{E:XK}{e:Oq}{es:Om}{pos p:Pos}{ms:HMA}{x:Str}{k:Nat}{f:Addr}{fd:OC}{ps:Ob}{g:Ou}{ws:Oh}
end
section
variable {X:Cx}{W:RC}{E:XK}{a b:Oq}{rest:Om}{pos:Pos}{m1 m2:HME}
end
section
variable {X:Cx}{W:RC}{E:XK}{fr' fr:Bool}{S:Od}{kX tg elt:Oq}{ifs:Om}{m me:ME}{mc:MT}{mg:MG}{mi:MI}{pos uC py:Pos}{i j:Nat}{scope:Scope}{y:Str}
end
section
variable {X:Cx}{C:LC}{S S' S1 S2 S3 Sb Sc:Od}{j:Nat}{pos:Pos}{m1 m2 m3:MS}
end
def HEX(X:Cx)(W:RC)(e:Oq)(m:HME):Prop:=X.K=W.K->∃te:TEx,PEx X e te/\∀(Z:HC),Z.W=W->∀A H σ ρ G,HR Z A H σ ρ G->∀Q Zx,HPx Z Zx A G.length H (KV' Z Q) (m ρ G)->te σ H Q Zx
def HXS(X:Cx)(W:RC)(st:OG)(m:HMS):Prop:=X.K=W.K->∃t:TSx,LD X st t/\∀(Z:HC),Z.W=W->∀A H σ ρ G,HR Z A H σ ρ G->∀D Zx,HPs Z Zx A G.length H D (m ρ G)->t D Zx σ H
section
variable {X:Cx}{W:RC}{E:XK}{e:Oq}{es:Om}{pos p pos':Pos}{ms:HMA}{m:HME}{x y:Str}{k n i j:Nat}{f:Addr}{fd:OC}{ps:Ob}{g:List HV->AH->HX HV}{m1 m2 m3:HMS}
def DV(h:HEX X W e m)(hs:swapsWith e none pos.line X.env=pure false:=by rfl):HXS X W [.Expr e pos] (XW m):=λhK=>by obtain⟨te,a1,a2⟩:=h hK;refine⟨_,xm (xl a1 hs),λZ hZ A H σ ρ G R D Zx q=>a2 Z hZ A H σ ρ G R _ Zx ?_⟩;exact HPs.bind (show HPs Z Zx A G.length H D ((m ρ G).fw λ_ G'=>.nx ρ G')from q) λx A1 H1 G1 h1 g1 q1 v rx=>q1 A1 H1 σ (R.gro h1 g1) Gro.refl
def Ao(cs cs2:Od)(m1:HMS)(j:Nat)(m2 m3:HMS):HMS:=λρ G=>match m1 ρ G with
 |.nx ρ' G'=>.nx ρ' G'
 |.rt x G'=>.rt x G'
 |.exc c fs G'=>if c∈cs then(match m2 (ρ.set j (some (.v (.x c fs)))) G' with
  |.rt x G2=>.rt x G2
  |_=>.wall)else if c∈cs2 then(match m3 (ρ.set j (some (.v (.x c fs)))) G' with
  |.rt x G2=>.rt x G2
  |_=>.wall)else .wall
 |_=>.wall
def Hh(cs:Od)(m1:HMS)(j:Nat)(m2:HMS):HMS:=Ao cs [] m1 j m2 λ_ _=>.wall
def Hi{body suite:OG}{b₀:OO}{cx n:Str}{np hp:Pos}{F:Addr}{cs:Od}(own:Own X)(hb:HXS X W body m1)(hg:Gl X cx)(hm:X.mg cx=some (.ref F))
  (hN:X.N.Nodup) (hi:X.N[j]?=some n) (hx:Loc X.env.scope n) (hs:∀e,HSs (X.held (.ref e)) W E (b₀::suite) m2) (hcs:∀c∈cs,Catch X.K (W.cls c) F true) (hl:X.env.kindOf n=some .local:=by rfl)
  (hdb:(cx==("__debug__":Str))=false:=by decide) (hf:X.fn n=true\/X.env.scope.names.lookup n=some .local:=by first|exact .inl rfl|exact .inr rfl|assumption):
  HS X W E (.Try body [.ExceptHandler (some (.Name cx np)) (some n) (b₀::suite) hp] [] [] pos) (Hh cs m1 j m2):=λhK=>by
 obtain⟨tb,a1,a2⟩:=hb hK;have hs':=λe=>hs e hK;refine⟨_,FR own a1 hg hm hN hi hx hl (ts:=λe=>Classical.choose (hs' e)) (λe=>(T7 (hs' e)).1) hdb hf,λZ hZ A H σ ρ G R D q=>a2 Z hZ A H σ ρ G R D _ ?_⟩;unfold Hh Ao at q;revert q;cases m1 ρ G with
 |wall=>exact id
 |nx ρ' G'=>exact id
 |rt x G'=>exact id
 |bk ρ' G'=>exact λq=>q.elim
 |ct ρ' G'=>exact λq=>q.elim
 |exc c fs G'=>
  intro q A' H' e dx es h g h1 h2 h3;have q:HPs Z E A G.length H D (if c∈cs then(match m2 (ρ.set j (some (.v (.x c fs)))) G' with
   |.rt x G2=>.rt x G2
   |_=>.wall)else if c∈[]then HFw.wall else .wall):=q
  have R':=(R.gro h g).set (i:=j) (x:=.v (.x c fs)) (v:=.ref e) (show Rep Z.W _ H' (.x c fs) _ from⟨e,dx,es,rfl,h1,h2,h3⟩);subst hZ;split at q
  .rename_i hc;refine⟨e,_,dx,rfl,rfl,h1,hcs c hc,(T7 (hs' e)).2 Z rfl A' H' _ _ G' R' _ ?_⟩;split at q
   .rename_i x G2 hx;rw[hx];exact λA2 H2 v hh gg rr=>q A2 H2 v hh (g.trans gg) rr
   .exact q.elim
  .split at q<;>exact q.elim
end
section
variable {X:Cx}{W:RC}{E:XK}{a b:Oq}{pos:Pos}{m1 m2:HME}
end
section
variable {X:Cx}{W:RC}{E:XK}{e:Oq}{es:Om}{pos p:Pos}{ms:MA}{x:Str}{k:Nat}{f:Addr}{fd:OC}{ps:Ob}{g:Ou}{ws:Oh}{S:Od}{fr:Bool}
end
section
variable {X:Cx}{W:RC}{E:XK}{fr' fr:Bool}{S:Od}{kX tg elt:Oq}{ifs:Om}{m me:ME}{mc:MT}{mg:MG}{mi:MI}{pos uC py:Pos}{i j:Nat}{scope:Scope}{y:Str}
end
def EY(c:Nat)(g:List HV->AH->HX HV)(ms:HMA):HME:=λρ G=>match ms ρ G with
 |.ok xs G1=>(match g (.g G1.length::xs) (G1++[.o c []])with
  |.ok (.v .n) G2=>.ok (.g G1.length) G2
  |.exc c fs G2=>.exc c fs G2
  |_=>.wall)
 |_=>.wall
def DW(M:Mk X.K (W.cls c) f)(F:qO X.prog X.w X.K X.mg X.base (CXe X.prog X.w) k f fd ps (hsp W n g))(hr:kY (k+1) X.A)(hg:Gl X x)(hm:X.mg x=some (.ref (W.cls c)))(hb:Binds X.K fd ps [])(ha:HA X.nox W E0 (e::es) ms)(hn:∀ρ G xs G',ms ρ G=.ok xs G'->xs.length+1=n)
  (hdb:(x==("__debug__":Str))=false:=by decide) (he:starEach (e::es) X.env=(false,eval e X.env)::starEach es X.env:=by rfl) (hpl:(backTo pos (starEach es X.env)).any (·.1)=false:=by rfl):HEX X W (.Call (.Name x p) (e::es) [] pos) (EY c g ms):=λhK=>by
 obtain⟨ta,a1,a2⟩:=ha hK;refine⟨_,Af M F hr hg hm hb a1 hdb he hpl,λZ hZ A H σ ρ G R Q Zx q=>a2 Z hZ A H σ ρ G R _ ?_⟩;subst hZ;unfold EY at q;revert q;cases hq:ms ρ G with
 |wall=>exact id
 |exc c fs G'=>exact λq=>q.elim
 |ok xs G1=>
  intro q A1 H1 h1 g1 vs rs x dx hx hd hne;have s1:zI H1 (upd (upd H1 dx (.own x)) x (.ins (Z.W.cls c) dx [])):=λb o hb=>by rw[zg (zZ hb hx),zg (zZ hb hd)];exact hb
  have h2:=h1.alloc (p:=x) (c:=.o c []) s1 hx ⟨dx,[],zi,rfl⟩;have g2:Gro Z A1 G1.length H1 (exA A1 G1.length x) (G1.length+1) _:=Gro.ext s1 hx;have ex:exA A1 G1.length x G1.length=x:=by unfold exA;rw[if_pos rfl]
  have hl1:(G1++[Cell.o c []]).length=G1.length+1:=by rw[O9];rfl
  refine⟨Z,exA A1 G1.length x,G1++[.o c []],.g G1.length::xs,rfl,hn _ _ _ _ hq,h2,?_,?_⟩
  .rw[hl1];exact⟨.ref x,vs,rfl,⟨a0a _,by rw[ex]⟩,rs.gro g2⟩
  .have q:HPx Z Zx A G.length H (KV' Z Q) (match g (.g G1.length::xs) (G1++[.o c []])with
    |.ok (.v .n) G2=>.ok (.g G1.length) G2
    |.exc c fs G2=>.exc c fs G2
    |_=>.wall):=q
   have gg:=g1.trans g2;revert q;cases g (.g G1.length::xs) (G1++[.o c []])with
   |wall=>exact id
   |exc c fs G2=>exact λq=>uH.gro q (by rw[hl1];exact gg)
   |ok y G2=>
    intro q;cases y with
    |v z=>
     cases z with
     |n=>intro A2 H2 h3 g3 v rv;rw[hl1]at g3;refine⟨rv,q A2 H2 h3 (gg.trans g3) (.ref x) ⟨P4 (a0a _) g3.le,?_⟩⟩;rw[g3.agr _ (a0a _),ex]
     |_=>exact q.elim
    |_=>exact q.elim
def leS(a b:Str):Bool:=!ltCps b.cps.toList a.cps.toList
def KO:leS a b=true↔a.cps.toList<=b.cps.toList:=by unfold leS;rw[ltCps_eq];simp
def fb(a b c:Str)(h1:leS a b=true)(h2:leS b c=true):leS a c=true:=KO.mpr (List.le_trans (KO.mp h1) (KO.mp h2))
def sP(a b:Str):(leS a b||leS b a)=true:=by
 rcases List.le_total a.cps.toList b.cps.toList with h|h
 .rw[KO.mpr h];rfl
 .rw[KO.mpr h];exact Bool.or_true _
def Ap(h1:leS a b=true)(h2:leS b a=true):a=b:=by have h:=List.le_antisymm (KO.mp h1) (KO.mp h2);obtain⟨x⟩:=a;obtain⟨y⟩:=b;exact a0e Str.mk (a2E.mp h)
def qS(l:Ob):List Str:=l.mergeSort leS
def lS{a b:Ob}(h:a.Perm b)(ha:a.Pairwise λx y=>leS x y=true)(hb:b.Pairwise λx y=>leS x y=true):a=b:=
 a2F (λ_ _ _ _ h1 h2=>Ap h1 h2) ha hb h
def X2:(qS l).Pairwise λx y=>leS x y=true:=List.pairwise_mergeSort fb sP l
def sQ(h:a.Perm b):qS a=qS b:=lS (((a17 a leS).trans h).trans (a17 b leS).symm) X2 X2
def pw_of_rising:∀{l:Ob}{p:Str},risingS p l=true->(p::l).Pairwise λx y=>leS x y=true
 |[],p,_=>a2L _ _
 |x::r,p,h=>by
  unfold risingS at h;rw[a04]at h;have ih:=pw_of_rising h.2;refine a3i.mpr ⟨λy hy=>?_,ih⟩;rcases P8.mp hy with rfl|hy
  .exact h.1
  .exact fb p x y h.1 ((a3i.mp ih).1 y hy)
def pw_of_sorted(h:sortedS l=true):l.Pairwise λx y=>leS x y=true:=by
 cases l with
 |nil=>exact List.Pairwise.nil
 |cons x r=>exact pw_of_rising h
def sR(hp:l'.Perm l)(h:sortedS l'=true):l'=qS l:=lS (hp.trans (a17 l leS).symm) (pw_of_sorted h) X2
def bj:∀{ss:Ob}{its:Og},Vals (ss.map V.str) its->StrsAre its ss
 |[],_,h=>by cases h;exact .nil
 |z::ss,_,h=>by cases h with|cons r t=>obtain⟨k,rfl⟩:=r;exact .cons z k (bj t)
def lU:∀{ss:Ob}{its:Og},StrsAre its ss->Vals (ss.map V.str) its
 |_,_,.nil=>.nil
 |_,_,.cons z t h=>.cons ⟨t,rfl⟩ (lU h)
def BR(K:OF):List V->Hp->VK->Prop:=λvs H Q=>∃p ss,vs=[.ref p]/\SqL K H p (ss.map V.str)/\ss.length<64/\∀l,H l=none->Q (.ref l) (upd H l (.lst ((qS ss).map V.str)))
def bo:vU X (.builtin "sorted") (BR X.K):=by
 intro pins s σ H xs us Q I r h;obtain⟨p,ss,rfl,hq,h64,q⟩:=h;obtain⟨u,rfl,rx⟩:=vals1 r;cases rx;obtain⟨its,rv,pl,hz⟩:=I.list hq;have hS:=bj rv;have hlen:its.length=ss.length:=by rw[<- rv.length,u8]
 refine sorted_strs pl.isList hS (by rw[hlen];exact h64) λout ss' a1 a2 a3=>?_;obtain⟨e,he⟩:=sortedAll_at s.heap its out;have e2:=sR a2 a3;subst e2;exact⟨.ref _,_,I.laid (t':=s.toks) (λ_ _=>sortedAll_old) (a0w _) (show qE X.prog X.w _ _ _ (.lst ((qS ss).map V.str))from⟨by rw[u8,a2.length_eq];rw[u8]at hz;exact hz,out.toList,e,lU a1,by rw[Array.toArray_toList];exact he⟩),rfl,q _ (I.hok.fresh (a0w _))⟩
def bp:List PV->Out PV
 |[.l xs]=>match nO xs with
  |some ss=>if ss.length<64 then .ok (.l ((qS ss).map .s))else .wall
  |none=>.wall
 |_=>.wall
def lV{W:RC}{M:Of}{H:Hp}:∀{ss:Ob},yQ W M H (ss.map PV.s) (ss.map V.str)
 |[]=>rfl
 |_::_=>⟨_,_,rfl,rfl,lV⟩
def Aq:LfF W (BR W.K) bp:=λM C B H xs vs Q n h q=>by
 unfold bp at q;split at q
 .split at q
  .rename_i ss hs;split at q
   .rename_i h64;obtain⟨v,r,rfl,⟨p,us,rfl,_,hl,rr⟩,hr⟩:=h;cases(show _=_ from hr);rw[so rr hs]at hl;exact⟨p,ss,rfl,SqL.of hl,h64,λl hl=>q _ _ (zI.upd hl) (QN lV hl)⟩
   .exact q.elim
  .exact q.elim
 .exact q.elim
def Ar{id:String}{r:List V->Hp->VK->Prop}{g:Ou}(hc:X.K=C.W.K->vU X (.builtin id) r)(L:LfF C.W r g)(hg:Gl X x)(hm:X.mg x=none)(hv:bootBuiltins x=some (.builtin id))(ha:AM X C S ws (e::es) ms)(hn:x≠"__name__":=by decide)(hdb:(x==("__debug__":Str))=false:=by decide)
  (he:starEach (e::es) X.env=(false,eval e X.env)::starEach es X.env:=by rfl) (hpl:(backTo pos (starEach es X.env)).any (·.1)=false:=by rfl):FM X C S (.Call (.Name x p) (e::es) [] pos) (zj g ms):=λhK=>by
 obtain⟨ta,a1,a2⟩:=ha hK;exact⟨_,Xc (hc hK) hg hm hv a1 hn hdb he hpl,Gh L a2⟩
def As(hg:Gl X "sorted")(hm:X.mg "sorted"=none)(ha:AM X C S ws [e] ms)(he:starEach [e] X.env=[(false,eval e X.env)]:=by rfl):FM X C S (.Call (.Name "sorted" p) [e] [] pos) (zj bp ms):=
 Ar (λhK=>hK▸bo) Aq hg hm a3n ha (he:=he)
def sS(hr:d8 k A):A.units+1<cLine:=a1c (a26 (by decide:1<=64) _) hr.units
def BS:List HV->Option (List Str)
 |[]=>some []
 |.v (.s z)::xs=>(BS xs).map (z::·)
 |_::_=>none
def DX:∀{vs:Oi}{ys:Ob},k7 W M A n H xs vs->BS xs=some ys->vs=ys.map V.str:=by
 induction xs with
 |nil=>intro vs ys r e;cases e;exact r
 |cons x xs ih=>
  intro vs ys r e;obtain⟨v,r,rfl,h1,h2⟩:=r;unfold BS at e;split at e
  .cases ‹_::_=[]›
  .rename_i z xs' hx;cases hx;obtain⟨zs,e2,rfl⟩:=N8.mp e;rw[O8,<- ih h2 e2,(show v=_ from h1)]
  .cases e
def lX:∀{ss:Ob},BS (ss.map λz=>.v (.s z))=some ss
 |[]=>rfl
 |z::ss=>by rw[O8];unfold BS;rw[lX];rfl
def lY{W:RC}{M:Of}{A:Ol}{n:Nat}{H:Hp}:∀{ss:Ob},k7 W M A n H (ss.map λz=>.v (.s z)) (ss.map V.str)
 |[]=>rfl
 |_::_=>⟨_,_,rfl,rfl,lY⟩
def fc(ms:HMA):HME:=λρ G=>(ms ρ G).bind λxs G1=>match xs with
 |[.g k]=>(match G1[k]? with
  |some (.l ys)=>(match BS ys with
   |some ss=>if ss.length<64 then .ok (.g G1.length) (G1++[.l ((qS ss).map λz=>.v (.s z))])else .wall
   |none=>.wall)
  |_=>.wall)
 |_=>.wall
def Au(hg:Gl X "sorted")(hm:X.mg "sorted"=none)(ha:HA X W E [e] ms)(he:starEach [e] X.env=[(false,eval e X.env)]:=by rfl):HE X W E (.Call (.Name "sorted" p) [e] [] pos) (fc ms):=λhK=>by
 obtain⟨ta,a1,a2⟩:=ha hK;refine⟨_,Xc bo hg hm a3n a1 (by decide) (by decide) he rfl,λZ hZ A H σ ρ G R Q q=>a2 Z hZ A H σ ρ G R _ (HPx.bind q λxs A1 H1 G1 h1 g1 q1 vs rs=>?_)⟩;subst hZ;rw[hK];split at q1
 .rename_i k;obtain⟨v,r,rfl,⟨hk,rfl⟩,hr⟩:=rs;cases(show _=_ from hr);split at q1
  .rename_i ys hy;split at q1
   .rename_i ss hs;split at q1
    .rename_i h64;obtain⟨us,p1,r1⟩:=h1.cell k _ hy;rw[DX r1 hs]at p1;refine⟨_,ss,rfl,SqL.of p1,h64,λl hl=>?_⟩;have s:zI H1 (upd H1 l (.lst ((qS ss).map V.str))):=zI.upd hl;exact h_ (c:=.l ((qS ss).map λz=>.v (.s z))) h1 s hl ⟨_,zi,lY⟩ q1
    .exact q1.elim
   .exact q1.elim
  .exact q1.elim
 .exact q1.elim
def fe(tab:List (Nat×(List HV->AH->HX HV)))(mn:Str)(m:HME):HME:=λρ G=>(m ρ G).bind λx G1=>match x with
 |.g k=>(match G1[k]? with
  |some (.o c fs)=>(match tab.lookup c with
   |some g=>if(fs.lookup mn).isSome=true then .wall else g [.g k] G1
   |none=>.wall)
  |_=>.wall)
 |_=>.wall
def Av(h:HE X W E o m)(hal:∀K sp,Mc W 0 tab K sp->ER X.prog X.w X.K X.mg X.base X.A mn K sp)(hx:Passes (CXe X.prog X.w) X E)
  (ht:eval (.Call (.Attribute o mn vE) [] [] pos) X.env=(do
   let ov<-eval o X.env
   standAt vE.atName
   let(f,first)<-holding [ov] (getMethod ov mn pl)
   callWith pos f first (backTo pos (starEach [] X.env)) (backToKw pos (keywordEach [] X.env))):=by rfl):HE X W E (.Call (.Attribute o mn vE) [] [] pos) (fe tab mn m):=λhK=>by
 obtain⟨to,o1,o2⟩:=h hK;refine⟨_,pP (pl:=pl) o1 hal hx ht,λZ hZ A H σ ρ G R Q q=>o2 Z hZ A H σ ρ G R _ (HPx.bind q λx A1 H1 G1 h1 g1 q1 v rx=>?_)⟩;subst hZ;split at q1
 .rename_i k;split at q1
  .rename_i c fs hk;split at q1
   .rename_i g hg;cases hl:fs.lookup mn with
    |some z=>rw[hl]at q1;exact q1.elim
    |none=>rw[hl,if_neg (show ¬(none:Option HV).isSome=true from λz=>by cases z)]at q1;obtain⟨hlt,rfl⟩:=rx;obtain⟨dx,es,hp,hf⟩:=h1.cell k _ hk;exact⟨_,dx,es,_,_,⟨(c,g),lookup_mem hg,rfl,rfl⟩,rfl,hp,hf.Xz hl,⟨Z,A1,G1,[.g k],rfl,rfl,h1,⟨_,_,rfl,⟨hlt,rfl⟩,rfl⟩,q1⟩⟩
   .exact q1.elim
  .exact q1.elim
 .exact q1.elim
def Dri(prog:Ot)(w:Ox)(A:Oy)(it:Addr)(x:Value)(B N:Heap->Prop):Prop:=
 ∀(s:Oe)(Q:Oc)(E:Oc),B s.heap->(∀h',N h'->Heap.SameBut it s.heap h'->Q x { s with heap:=h' })->wpAny (model prog w) A (Builtin.SmallTypes.nextOf (.ref it)) Q E s
def Dre(prog:Ot)(w:Ox)(A:Oy)(it:Addr)(B:Heap->Prop):Prop:=
 ∀(s:Oe)(Q:Oc)(E:Oc),B s.heap->(∀h' e,Heap.ExtBut it s.heap h'->(∃o,h'.get? e=some o/\o.cls=.type "StopIteration")->E (.ref e) { s with heap:=h' })->wpAny (model prog w) A (Builtin.SmallTypes.nextOf (.ref it)) Q E s
def TI2(it t:Addr)(items:ON)(i:Nat)(h:Heap):Prop:=h.IsTupleIter it t i/\h.IsTuple t items
def TI2.but{it t b:Addr}{items:ON}{i:Nat}{h h':Heap}(x:TI2 it t items i h)(e:Heap.ExtBut b h h')(h1:it≠b)(h2:t≠b):TI2 it t items i h':=⟨x.1.extBut e h1,x.2.extBut e h2⟩
section
variable {prog:Ot}{w:Ox}{A:Oy}{it t:Addr}{items:ON}{i:Nat}{x:Value}
def ie(hne:t≠it)(hx:items[i]?=some x):Dri prog w A it x (TI2 it t items i) (TI2 it t items (i+1)):=λs Q E hb hQ=>by have hT:=hb.1.typeIs;obtain⟨⟨o,ho,hc,hd⟩,hs⟩:=hb;obtain⟨ol,hol,_,nl,hdl⟩:=id hs;unfold Builtin.SmallTypes.nextOf;refine f8 (wpAny_callSpecial?_slot (name:=Str.ofString "__next__") hT a0Z (a1Q a0Z hT a2e ?_ (a19 _)));refine f8 (m:=field (.ref it) 0) (a0n ho hd (x:=.ref t) rfl ?_);show wpAny _ _ (if(Value.ref t==Value.none)=true then _ else _) _ _ s;rw[if_neg (by intro z;cases z)];refine f8 (m:=field (.ref it) 1) (a0n ho hd (x:=.int i 0) rfl ?_);refine f8 (m:=seqItems? (.ref t)) (a0I hol hdl ?_);simp only[Int.toNat_natCast,hx];refine f8 (a1D ho hd (by simp) (O0 ⟨x,rfl,O0 (hQ _ ⟨?_,hs.extBut (a18 ..).extBut hne⟩ (a18 ..))⟩));refine⟨_,a0r _ ho (Obj.isFreed_of_fields (a3j hd _)),(Obj.cls_mapFields ..).trans hc,?_⟩;rw[a3j hd];simp[rawInt]
def sT(hh:A.handled=none)(hx:items[i]?=none):Dre prog w A it (TI2 it t items i):=λs Q E hb hE=>by
 have hT:=hb.1.typeIs;obtain⟨⟨o,ho,hc,hd⟩,⟨ol,hol,_,nl,hdl⟩⟩:=hb;unfold Builtin.SmallTypes.nextOf;refine f8 (wpAny_callSpecial?_slot (name:=Str.ofString "__next__") hT a0Z (a1Q a0Z hT a2e ?_ (a19 _)));refine f8 (m:=field (.ref it) 0) (a0n ho hd (x:=.ref t) rfl ?_);show wpAny _ _ (if(Value.ref t==Value.none)=true then _ else _) _ _ s;rw[if_neg (by intro z;cases z)];refine f8 (m:=field (.ref it) 1) (a0n ho hd (x:=.int i 0) rfl ?_);refine f8 (m:=seqItems? (.ref t)) (a0I hol hdl ?_);simp only[Int.toNat_natCast,hx];refine f8 (a1E (f8 (a1D ho hd (by simp) (wpAny_bind (m:=newExc (.type "StopIteration") []) ?_))));simp only[newExc,newTuple];refine f8 (a01 (f8 (m:=firstArgMember _ _) (a2b (a:=Value.none) (by first|rfl|(simp only[firstArgMember];rfl)) (a01 ?_ (by size_fits)))) (by size_fits));simp only[raiseNew];refine f8 (wpAny_handled ?_)
 first|rw[show A.in1.handled=none from hh]|rw[hh]
 exact f8 (O0 (a2R (hE _ _ (((a18 ..).extBut.push _).push _) ⟨_,P2 _ rfl,rfl⟩)))
end
section
variable {prog:Ot}{w:Ox}{A:Oy}{z TI TO i1 i2 l1 l2:Addr}{x y a b:Value}{B1 N1 B2 N2:Heap->Prop}
def ig(i l:Addr)(B:Heap->Prop):Prop:=∀(c:Addr)(h h':Heap),B h->Heap.ExtBut c h h'->i≠c->l≠c->B h'
def Aw(D:ZipApart z TI TO i1 i2 l1 l2)(d1:Dri prog w A i1 x B1 N1)(d2:Dri prog w A i2 y B2 N2)(s1:ig i1 l1 B1)(s1':ig i1 l1 N1)(s2:ig i2 l2 B2)(s2':ig i2 l2 N2){s:Oe}{Q:Oc}{E:Oc}
  (hz:IsZip s.heap z TI TO .none) (hTI:IsPair s.heap TI (.ref i1) (.ref i2)) (hTO:IsPair s.heap TO a b) (h1:B1 s.heap) (h2:B2 s.heap)
  (hQ:∀h',IsZip h' z TI TO (rawInt s.heap.objs.size)->IsPair h' TO x y->N1 h'->N2 h'->IsPair h' s.heap.objs.size x y->(∀c o,c≠z->c≠TO->c≠i1->c≠i2->s.heap.get? c=some o->h'.get? c=some o)->Q (.ref s.heap.objs.size) { s with heap:=h' }):
  wpAny (model prog w) A (Builtin.«zip.__next__» ⟨[.ref z],[]⟩) (λfin s'=>∃v,fin=.done (.ret v)/\Q v s') E s:=by
 refine f8 (m:=field (.ref z) 2) (a0n hz rfl (x:=.bool false) rfl ?_);refine f8 (m:=field (.ref z) 3) (a0n hz rfl (x:=.ref TI) rfl (f8 (a0I hTI rfl ?_)));refine f8 (m:=Builtin.SmallTypes.ownedTupleIsFree (.ref z)) ?_;unfold Builtin.SmallTypes.ownedTupleIsFree;refine f8 (a0n hz rfl (x:=.none) rfl (O0 ?_));simp only[if_true];refine f8 (a1E (f8 (a0n hz rfl (x:=.ref TO) rfl (f8 (a0S hz (by simp) λg1 z1 e1=>f8 ?_)))));replace z1:IsZip g1 z TI TO .ellipsis:=z1;simp only[List.zipIdx_cons,List.zipIdx_nil,List.forIn_cons,List.forIn_nil];have x1:=e1.extBut;refine f8 (f8 (a1O (f8 (m:=Builtin.SmallTypes.nextOf (.ref i1)) (d1 _ _ _ (s1 z _ _ h1 x1 D.i1z D.l1z) λg2 n1 e2=>O0 ?_))));have x2:=e2.extBut;have t2:IsPair g2 TO a b:=x2 _ _ D.TOi1 (x1 _ _ D.TOz hTO);refine f8 (a0I t2 rfl (f8 (a12 t2 λg3 t3 e3=>f8 (a2c (O0 ?_)))));replace t3:IsPair g3 TO x b:=t3;have x3:=e3.extBut;refine f8 (f8 (a1O (f8 (m:=Builtin.SmallTypes.nextOf (.ref i2)) (d2 _ _ _ (s2 TO _ _ (s2 i1 _ _ (s2 z _ _ h2 x1 D.i2z D.l2z) x2 D.i12.symm D.l2i1) x3 D.TOi2.symm D.l2TO) λg4 n2 e4=>O0 ?_))));have x4:=e4.extBut;have t4:IsPair g4 TO x b:=x4 _ _ D.TOi2 t3;refine f8 (a0I t4 rfl (f8 (a12 t4 λg5 t5 e5=>f8 (a2c (O0 (O0 ?_))))));replace t5:IsPair g5 TO x y:=t5;have x5:=e5.extBut;refine f8 (a0I t5 rfl (f8 (wpAny_newTuple ?_)));have sz:g5.objs.size=s.heap.objs.size:=by rw[e5.1,e4.1,e3.1,e2.1,e1.1]
 have z5:IsZip g5 z TI TO .ellipsis:=x5 _ _ D.TOz.symm (x4 _ _ D.i2z.symm (x3 _ _ D.TOz.symm (x2 _ _ D.i1z.symm z1)));have lz:z<g5.objs.size:=O5 z5;refine f8 (m:=Builtin.SmallTypes.ownedTupleHandOut (.ref z) (.ref g5.objs.size)) ?_;unfold Builtin.SmallTypes.ownedTupleHandOut;have z6:IsZip (g5.push { cls:=.type "tuple",data:=.seq #[x,y] }) z TI TO .ellipsis:=v4 _ z5;refine f8 (a0S z6 (by simp) λg7 z7 e7=>a0S (show IsZip g7 z TI TO (rawInt g5.objs.size)from z7) (by simp) λg8 z8 e8=>?_);replace z8:IsZip g8 z TI TO (rawInt g5.objs.size):=z8;have up:∀c o,c≠z->g5.get? c=some o->g8.get? c=some o:=λc o c1 e=>e8.extBut _ _ c1 (e7.extBut _ _ c1 (v4 _ e));have xu:Heap.ExtBut z g5 g8:=up;have T8:IsPair g8 g5.objs.size x y:=e8.extBut _ _ (a0O lz) (e7.extBut _ _ (a0O lz) (P2 _ rfl));rw[sz]at z8 T8;refine O0 ⟨_,rfl,?_⟩;rw[sz];exact hQ g8 z8 (up _ _ D.TOz t5) (s1' z _ _ (s1' TO _ _ (s1' i2 _ _ (s1' TO _ _ n1 x3 D.TOi1.symm D.l1TO) x4 D.i12 D.l1i2) x5 D.TOi1.symm D.l1TO) xu D.i1z D.l1z) (s2' z _ _ (s2' TO _ _ n2 x5 D.TOi2.symm D.l2TO) xu D.i2z D.l2z) T8 λc o c1 c2 c3 c4 e=>up c o c1 (x5 _ _ c2 (x4 _ _ c4 (x3 _ _ c2 (x2 _ _ c3 (x1 _ _ c1 e)))))
def Ax(D:ZipApart z TI TO i1 i2 l1 l2)(d:Dre prog w A i1 B1\/(∃x N1,Dri prog w A i1 x B1 N1)/\Dre prog w A i2 B2)(s1:ig i1 l1 B1)(s2:ig i2 l2 B2)
  (hz:IsZip s.heap z TI TO .none) (hTI:IsPair s.heap TI (.ref i1) (.ref i2)) (hTO:IsPair s.heap TO a b) (h1:B1 s.heap) (h2:B2 s.heap)
  (hE:∀h' e,(∀c o,c≠z->c≠TO->c≠i1->c≠i2->s.heap.get? c=some o->h'.get? c=some o)->(∃o,h'.get? e=some o/\o.cls=.type "StopIteration")->E (.ref e) { s with heap:=h' }):
  wpAny (model prog w) A (Builtin.«zip.__next__» ⟨[.ref z],[]⟩) Q E s:=by
 refine f8 (m:=field (.ref z) 2) (a0n hz rfl (x:=.bool false) rfl ?_);refine f8 (m:=field (.ref z) 3) (a0n hz rfl (x:=.ref TI) rfl (f8 (a0I hTI rfl ?_)));refine f8 (m:=Builtin.SmallTypes.ownedTupleIsFree (.ref z)) ?_;unfold Builtin.SmallTypes.ownedTupleIsFree;refine f8 (a0n hz rfl (x:=.none) rfl (O0 ?_));simp only[if_true];refine f8 (a1E (f8 (a0n hz rfl (x:=.ref TO) rfl (f8 (a0S hz (by simp) λg1 z1 e1=>f8 ?_)))));replace z1:IsZip g1 z TI TO .ellipsis:=z1;simp only[List.zipIdx_cons,List.zipIdx_nil,List.forIn_cons,List.forIn_nil];have x1:=e1.extBut;have out:∀{g:Heap}{e:Addr},IsZip g z TI TO .ellipsis->(∃o,g.get? e=some o/\o.cls=.type "StopIteration")->e≠z:=λhz ⟨o,ho,hc⟩ q=>by subst q;rw[hz]at ho;cases ho;simp at hc
 rcases d with d|⟨⟨x,N1,d1⟩,d⟩
 .refine f8 (f8 (a1O (f8 (m:=Builtin.SmallTypes.nextOf (.ref i1)) (d _ _ _ (s1 z _ _ h1 x1 D.i1z D.l1z) λg2 e x2 he=>?_))));have z2:IsZip g2 z TI TO .ellipsis:=x2 _ _ D.i1z.symm z1;have ne:=out z2 he;obtain⟨oe,hoe,hce⟩:=he;exact a0S z2 (by simp) λg3 _ e3=>hE g3 e (λc o c1 _ c3 _ q=>e3.extBut _ _ c1 (x2 _ _ c3 (x1 _ _ c1 q))) ⟨oe,e3.extBut _ _ ne hoe,hce⟩
 .refine f8 (f8 (a1O (f8 (m:=Builtin.SmallTypes.nextOf (.ref i1)) (d1 _ _ _ (s1 z _ _ h1 x1 D.i1z D.l1z) λg2 n1 e2=>O0 ?_))));have x2:=e2.extBut;have t2:IsPair g2 TO a b:=x2 _ _ D.TOi1 (x1 _ _ D.TOz hTO);refine f8 (a0I t2 rfl (f8 (a12 t2 λg3 t3 e3=>f8 (a2c (O0 ?_)))));have x3:=e3.extBut;refine f8 (f8 (a1O (f8 (m:=Builtin.SmallTypes.nextOf (.ref i2)) (d _ _ _ (s2 TO _ _ (s2 i1 _ _ (s2 z _ _ h2 x1 D.i2z D.l2z) x2 D.i12.symm D.l2i1) x3 D.TOi2.symm D.l2TO) λg4 e x4 he=>?_))));have z4:IsZip g4 z TI TO .ellipsis:=x4 _ _ D.i2z.symm (x3 _ _ D.TOz.symm (x2 _ _ D.i1z.symm z1));have ne:=out z4 he;obtain⟨oe,hoe,hce⟩:=he;exact a0S z4 (by simp) λg5 _ e5=>hE g5 e (λc o c1 c2 c3 c4 q=>e5.extBut _ _ c1 (x4 _ _ c4 (x3 _ _ c2 (x2 _ _ c3 (x1 _ _ c1 q))))) ⟨oe,e5.extBut _ _ ne hoe,hce⟩
def Yw{it t:Addr}{items:ON}{i:Nat}:ig it t (TI2 it t items i):=λ_ _ _ h e h1 h2=>h.but e h1 h2
end
section
variable {prog:Ot}{w:Ox}{A:Oy}{z TI TO i1 i2 l1 l2:Addr}{xs ys:ON}{x y a b:Value}{i:Nat}{s:Oe}{Q:Option Value->Shared->Prop}{E:Oc}
def sU(D:ZipApart z TI TO i1 i2 l1 l2)(hz:IsZip s.heap z TI TO .none)(hTI:IsPair s.heap TI (.ref i1) (.ref i2))(hTO:IsPair s.heap TO a b)(h1:TI2 i1 l1 xs i s.heap)(h2:TI2 i2 l2 ys i s.heap)(hx:xs[i]?=some x)(hy:ys[i]?=some y)
  (hQ:∀h',IsZip h' z TI TO (rawInt s.heap.objs.size)->IsPair h' TO x y->TI2 i1 l1 xs (i+1) h'->TI2 i2 l2 ys (i+1) h'->IsPair h' s.heap.objs.size x y->(∀c o,c≠z->c≠TO->c≠i1->c≠i2->s.heap.get? c=some o->h'.get? c=some o)->Q (some (.ref s.heap.objs.size)) { s with heap:=h' }):
  wpAny (model prog w) A (pyNext (.ref z)) Q E s:=by
 have hT:s.TypeIs (.ref z) "zip":=⟨_,hz,rfl⟩;unfold pyNext;exact f8 (a0Y (wpAny_callSpecial?_slot (name:=Str.ofString "__next__") hT a13 (a1Q a13 hT F.entry_zip_next (Aw D (ie D.l1i1 hx) (ie D.l2i2 hy) Yw Yw Yw Yw hz hTI hTO h1 h2 λh' a1 a2 a3 a4 a5 a6=>O0 (hQ h' a1 a2 a3 a4 a5 a6)) (F.args_zip_next_1 _))))
def sV(hh:A.handled=none)(D:ZipApart z TI TO i1 i2 l1 l2)(hz:IsZip s.heap z TI TO .none)(hTI:IsPair s.heap TI (.ref i1) (.ref i2))(hTO:IsPair s.heap TO a b)(h1:TI2 i1 l1 xs i s.heap)(h2:TI2 i2 l2 ys i s.heap)(hend:xs[i]?=none\/ys[i]?=none)
  (hQ:∀h',(∀c o,c≠z->c≠TO->c≠i1->c≠i2->s.heap.get? c=some o->h'.get? c=some o)->Q none { s with heap:=h' }):wpAny (model prog w) A (pyNext (.ref z)) Q E s:=by
 have hT:s.TypeIs (.ref z) "zip":=⟨_,hz,rfl⟩;have hh':A.in1.handled=none:=hh;unfold pyNext;refine f8 (a0Y (wpAny_callSpecial?_slot (name:=Str.ofString "__next__") hT a13 (a1Q a13 hT F.entry_zip_next (Ax D ?_ Yw Yw hz hTI hTO h1 h2 λh' e hk he=>?_) (F.args_zip_next_1 _))))
 .cases hx:xs[i]? with
  |none=>exact .inl (sT hh' hx)
  |some x=>exact .inr ⟨⟨x,_,ie D.l1i1 hx⟩,sT hh' (hend.resolve_left (by rw[hx];intro q;cases q))⟩
 .obtain⟨o,ho,hc⟩:=he;exact f8 (a1n (T:="StopIteration") (b:=true) ⟨o,ho,hc⟩ isSubtype_stop (O0 (hQ _ hk)))
end
abbrev tiO(l:Addr):Obj:={ cls:=.type "tuple_iterator",data:=.fields #[.ref l,.int 0 0] }
abbrev zt1(h:Heap)(l1 l2:Addr):Heap:=(h.push (tiO l1)).push (tiO l2)
abbrev zt2(h:Heap)(l1 l2:Addr):Heap:=(zt1 h l1 l2).push { cls:=.type "tuple",data:=.seq #[.ref h.objs.size,.ref (h.push (tiO l1)).objs.size] }
abbrev zt3(h:Heap)(l1 l2:Addr):Heap:=(zt2 h l1 l2).push { cls:=.type "tuple",data:=.seq #[.none,.none] }
abbrev zt4(h:Heap)(l1 l2:Addr):Heap:=(zt3 h l1 l2).push { cls:=.type "zip",data:=.fields #[.none,.bool false,.bool false,.ref (zt1 h l1 l2).objs.size,.ref (zt2 h l1 l2).objs.size] }
def Ay(l1 l2:Addr)(xs ys:ON):Meets (Builtin.«zip.__new__» ⟨[.type "zip",.ref l1,.ref l2],[]⟩) (λ_ R s=>s.heap.IsTuple l1 xs/\s.heap.IsTuple l2 ys/\R (.ok (.ret (.ref (zt3 s.heap l1 l2).objs.size))) { s with heap:=zt4 s.heap l1 l2 }):=
 .of_wp λprog w A R s h=>by
  obtain⟨hp,g,d,tk,os⟩:=s;obtain⟨t1,t2,h⟩:=h;have hsub:=sub_zip;have u1:Heap.IsTuple (Shared.heap ⟨hp,g,d,tk,os⟩) l1 xs:=t1;have u2:Heap.IsTuple (Shared.heap ⟨hp.push (tiO l1),g,d,tk,os⟩) l2 ys:=Heap.IsTuple.push t2 _
  wp_walk using a2d u1,a2d u2
  exact⟨_,rfl,h⟩
def sW(t1:s.heap.IsTuple l1 xs)(t2:s.heap.IsTuple l2 ys)
  (h:∀h',IsZip h' (s.heap.objs.size+4) (s.heap.objs.size+2) (s.heap.objs.size+3) .none->IsPair h' (s.heap.objs.size+2) (.ref s.heap.objs.size) (.ref (s.heap.objs.size+1))->IsPair h' (s.heap.objs.size+3) .none .none->h'.IsTupleIter s.heap.objs.size l1 0->h'.IsTupleIter (s.heap.objs.size+1) l2 0->(∀c o,s.heap.get? c=some o->h'.get? c=some o)->Q (.ref (s.heap.objs.size+4)) { s with heap:=h' }):
  wpAny (model prog w) A (call (.type "zip") [.ref l1,.ref l2]) Q E s:=by
 refine callType_new F.called_zip (by decide) (F.typeCall_zip_2 _ _) (F.newCall_zip_2 _ _) (λobj=>F.args_object_init_3 obj _ _) F.entry_zip_new (Ay l1 l2 xs ys) ⟨t1,t2,?_⟩;have k0:(s.heap.push (tiO l1)).objs.size=s.heap.objs.size+1:=a0v ..;have k1:(zt1 s.heap l1 l2).objs.size=s.heap.objs.size+2:=by rw[a0v,k0]
 have k2:(zt2 s.heap l1 l2).objs.size=s.heap.objs.size+3:=by rw[a0v,k1]
 have k3:(zt3 s.heap l1 l2).objs.size=s.heap.objs.size+4:=by rw[a0v,k2]
 have g4:(zt4 s.heap l1 l2).get? (zt3 s.heap l1 l2).objs.size=some _:=P2 _ rfl;have g3:(zt4 s.heap l1 l2).get? (zt2 s.heap l1 l2).objs.size=some _:=v4 _ (P2 _ rfl);have g2:(zt4 s.heap l1 l2).get? (zt1 s.heap l1 l2).objs.size=some _:=v4 _ (v4 _ (P2 _ rfl));have g1:(zt4 s.heap l1 l2).get? (s.heap.push (tiO l1)).objs.size=some (tiO l2):=v4 _ (v4 _ (v4 _ (P2 _ rfl)));have g0:(zt4 s.heap l1 l2).get? s.heap.objs.size=some (tiO l1):=v4 _ (v4 _ (v4 _ (v4 _ (P2 _ rfl))));show _/\_;rw[k1,k2,k3]at g4;rw[k0,k1]at g2;rw[k2]at g3;rw[k0]at g1;rw[k3];exact⟨⟨_,g4,rfl⟩,h _ g4 g2 g3 ⟨_,g0,rfl,rfl⟩ ⟨_,g1,rfl,rfl⟩ λc o q=>v4 _ (v4 _ (v4 _ (v4 _ (v4 _ q))))⟩
section
variable {P:Ot}{w:Ox}{K:OF}{elts:Om}{kk:Nat}{tp:Pos}
def sX(z TI TO i1 i2 a b:Addr)(xs ys:Oi)(D:ZipApart z TI TO i1 i2 a b):Turn P w K (.Tuple elts kk tp) (Itw (min xs.length ys.length) (λH=>SqT K H a xs/\SqT K H b ys) (IQ xs ys)) [z,TI,TO,i1,i2] z (λi h=>i<=min xs.length ys.length/\IsZip h z TI TO .none/\IsPair h TI (.ref i1) (.ref i2)/\(∃a b,IsPair h TO a b)/\h.IsTupleIter i1 a i/\h.IsTupleIter i2 b i)where
 mem:=by simp
 obj:=λi h st c hc=>by
  obtain⟨_,q1,q2,⟨_,_,q3⟩,⟨o4,q4,_,d4⟩,⟨o5,q5,_,d5⟩⟩:=st;simp only[List.mem_cons,List.not_mem_nil,or_false]at hc;rcases hc with r|r|r|r|r<;>subst r
  .exact⟨_,q1,λv z=>by cases z⟩
  .exact⟨_,q2,λv z=>by cases z⟩
  .exact⟨_,q3,λv z=>by cases z⟩
  .exact⟨o4,q4,λv z=>by rw[d4]at z;cases z⟩
  .exact⟨o5,q5,λv z=>by rw[d5]at z;cases z⟩
 keep:=λi h h' ⟨hi,q1,q2,⟨x,y,q3⟩,⟨o4,q4,c4⟩,⟨o5,q5,c5⟩⟩ k=>⟨hi,k z (by simp) _ q1,k TI (by simp) _ q2,⟨x,y,k TO (by simp) _ q3⟩,⟨o4,k i1 (by simp) _ q4,c4⟩,⟨o5,k i2 (by simp) _ q5,c5⟩⟩
 item:=by
  intro X hP hw hK hc i pins s σ H E I hf st hg;subst hP hw hK;obtain⟨hi,hq1,hq2⟩:=hg;obtain⟨its,rv,p,_⟩:=I.tuple hq1;obtain⟨jts,rw',p',_⟩:=I.tuple hq2;obtain⟨_,hz,hTI,⟨u0,v0,hTO⟩,t1,t2⟩:=st;have l1:i<xs.length:=by omega
  have l2:i<ys.length:=by omega
  obtain⟨u,hu,ru⟩:=rv.get (P0 l1);obtain⟨v,hv,rv'⟩:=rw'.get (P0 l2);refine sU D hz hTI hTO ⟨t1,p⟩ ⟨t2,p'⟩ (by rw[a1i];exact hu) (by rw[a1i];exact hv) λh' z1 o1 n1 n2 isT kp=>?_;refine⟨_,rfl,wpAny_letOwnedTupleGo_zip z1 λh2 z2 e2=>?_⟩;have x2:=e2.extBut;have nT:∀c∈[z,TI,TO,i1,i2],c≠s.heap.objs.size:=λc hc q=>by
   obtain⟨o,ho⟩:∃o,s.heap.get? c=some o:=by
    obtain⟨o4,q4,_⟩:=t1;obtain⟨o5,q5,_⟩:=t2;simp only[List.mem_cons,List.not_mem_nil,or_false]at hc;rcases hc with r|r|r|r|r<;>subst r
    .exact⟨_,hz⟩
    .exact⟨_,hTI⟩
    .exact⟨_,hTO⟩
    .exact⟨_,q4⟩
    .exact⟨_,q5⟩
   exact absurd (O5 ho) (by rw[q];exact a0t _)
  have Tz:s.heap.objs.size≠z:=λq=>nT z (by simp) q.symm;refine⟨.ref s.heap.objs.size,upd H s.heap.objs.size (.tup (IQ xs ys i)),I.Mi (ch:=[z,TO,i1,i2]) (λc hc=>hf c (by simp only[List.mem_cons,List.not_mem_nil,or_false]at hc ⊢;rcases hc with r|r|r|r<;>simp[r])) (λc o hc q=>?_) (O2 _) (DT (show 2<=sizeLine by decide) (vals:=#[u,v]) (.cons ?_ (.cons ?_ .nil)) ⟨_,x2 _ _ Tz isT,rfl,_,rfl⟩),rfl,⟨s.heap.objs.size,rfl,I.hok.fresh (O2 _),rfl⟩,⟨by omega,z2,x2 _ _ D.TIz (kp _ _ D.TIz D.TITO D.TIi1 D.TIi2 hTI),⟨_,_,x2 _ _ D.TOz o1⟩,n1.1.extBut x2 D.i1z,n2.1.extBut x2 D.i2z⟩,λc hc=>by rw[zg (nT c hc)];exact(hf c hc).1⟩
  .simp only[List.mem_cons,List.not_mem_nil,or_false,not_or]at hc;exact x2 _ _ hc.1 (kp _ _ hc.1 hc.2.1 hc.2.2.1 hc.2.2.2 q)
  .rw[P0 l1];exact ru
  .rw[P0 l2];exact rv'
 done:=by
  intro X hP hw hK hc i pins s σ H E I hf st hg;subst hP hw hK;obtain⟨rfl,hq1,hq2⟩:=hg;obtain⟨its,rv,p,_⟩:=I.tuple hq1;obtain⟨jts,rw',p',_⟩:=I.tuple hq2;have hn:=rv.length;have hm:=rw'.length;obtain⟨_,hz,hTI,⟨u0,v0,hTO⟩,t1,t2⟩:=st;refine sV (I.ok.hd hc) D hz hTI hTO ⟨t1,p⟩ ⟨t2,p'⟩ ?_ λh' kp=>⟨rfl,I.Mj (ch:=[z,TO,i1,i2]) (t':=s.toks) (λc hc=>hf c (by simp only[List.mem_cons,List.not_mem_nil,or_false]at hc ⊢;rcases hc with r|r|r|r<;>simp[r])) λc o hc q=>?_⟩
  .rw[a1i,a1i];by_cases c:its.length<=jts.length
   .exact .inl (a1T (by omega))
   .exact .inr (a1T (by omega))
  .simp only[List.mem_cons,List.not_mem_nil,or_false,not_or]at hc;exact kp _ _ hc.1 hc.2.1 hc.2.2.1 hc.2.2.2 q
 self:=λ_ _ _ _ _ st h=>wpAny_pyIter_zip st.2.1 h
end
def Mm(K:OF)(ta:TA):TI:=λσ H R=>ta σ H λvs H1=>∃a b xs ys,vs=[.ref a,.ref b]/\SqT K H1 a xs/\SqT K H1 b ys/\R (Itw (min xs.length ys.length) (λH=>SqT K H a xs/\SqT K H b ys) (IQ xs ys)) H1
def DY:List PV->Out (List PV)
 |[.t xs,.t ys]=>.ok (IS xs ys)
 |_=>.wall
def DZ(ms:MA):MI:=λρ=>(ms ρ).bind DY
section
variable {X:Cx}{C:LC}{S:Od}{elts:Om}{kk:Nat}{tp p pos:Pos}{a b:Oq}{ms:MA}{cc:Bool}
def D0(hg:Gl X "zip")(hm:X.mg "zip"=none)(ha:PA X [a,b] ta)(hs:starEach [a,b] X.env=[(false,eval a X.env),(false,eval b X.env)]:=by rfl)(hs2:starEach [b] X.env=[(false,eval b X.env)]:=by rfl):PI X (.Tuple elts kk tp) (.Call (.Name "zip" p) [a,b] [] pos) (Mm X.K ta):=by
 intro pins s σ H R I h;refine Call_ (aR I hg hm PyProof.Rows.boot_zip (a1j (thn (ha pos pins s σ H _ I h) λus s1 ⟨vs,H1,I1,r1,q1⟩=>?_) (by rw[hs,hs2]) (by rw[hs2];rfl)));obtain⟨l1,l2,xs,ys,rfl,hq1,hq2,q⟩:=q1;cases r1 with
 |cons r rr=>
  cases rr with
  |cons r' rr=>
   cases rr;cases r;cases r';obtain⟨its,rv,pl,_⟩:=I1.tuple hq1;obtain⟨jts,rv',pl',_⟩:=I1.tuple hq2;have t1:l1<s1.heap.objs.size:=by obtain⟨o,ho,_⟩:=pl;exact O5 ho
   have t2:l2<s1.heap.objs.size:=by obtain⟨o,ho,_⟩:=pl';exact O5 ho
   refine sW pl pl' λh' hz hTI hTO hit1 hit2 kp=>?_;refine wpAny_pyIter_zip hz ?_;refine⟨s1.heap.objs.size+4,[s1.heap.objs.size+4,s1.heap.objs.size+2,s1.heap.objs.size+3,s1.heap.objs.size,s1.heap.objs.size+1],_,_,H1,rfl,I1.kept (t':=s1.toks) kp,sX _ _ _ _ _ l1 l2 xs ys (zipApart_new t1 t2),⟨T6 _,hz,hTI,⟨_,_,hTO⟩,hit1,hit2⟩,λc hc=>?_,q⟩;have ok:∀k,mR X pins H1 (s1.heap.objs.size+k):=λk=>I1.EL (a1R _ _) (I1.hok.fresh (a1R _ _));simp only[List.mem_cons,List.not_mem_nil,or_false]at hc;rcases hc with r|r|r|r|r<;>subst r
   .exact ok 4
   .exact ok 2
   .exact ok 3
   .exact ok 0
   .exact ok 1
def D2(hg:Gl X "zip")(hm:X.mg "zip"=none)(ha:AM X C S [false,false] [a,b] ms)(hs:starEach [a,b] X.env=[(false,eval a X.env),(false,eval b X.env)]:=by rfl)(hs2:starEach [b] X.env=[(false,eval b X.env)]:=by rfl):IM X C S cc (.Tuple elts kk tp) (.Call (.Name "zip" p) [a,b] [] pos) (DZ ms):=λhK=>by
 obtain⟨ta,a1,a2⟩:=ha hK;refine⟨_,D0 hg hm a1 hs hs2,λB P H σ ρ R Q q=>a2 B P H σ ρ R _ ?_⟩;unfold DZ at q;revert q;cases ms ρ with
 |exc c fs=>exact id
 |wall=>exact id
 |ok zs=>
  intro q0 vs H2 s r0;have r:=r0.Ga rfl;have q:rB C B S P cc H Q (DY zs):=q0;clear q0 r0;unfold DY at q;split at q
  .rename_i xs ys;obtain⟨v1,r1,rfl,⟨p1,vs1,rfl,hp1,rr1⟩,v2,r2,rfl,⟨p2,vs2,rfl,hp2,rr2⟩,rfl⟩:=r;have l1:=rr1.len;have l2:=rr2.len;rw[hK];refine⟨p1,p2,vs1,vs2,rfl,hp1,hp2,q _ H2 s (NW (by unfold IS;rw[List.length_zipWith,l1,l2]) (λa m=>Mof.nac m) (λH' f=>⟨f.sqT hp1,f.sqT hp2⟩) λi x hx=>?_)⟩;unfold IS at hx;rw[List.getElem?_zipWith]at hx;cases e1:xs[i]? with
   |none=>rw[e1]at hx;cases hx
   |some x1=>
    cases e2:ys[i]? with
    |none=>rw[e1,e2]at hx;cases hx
    |some x2=>rw[e1,e2]at hx;cases hx;obtain⟨u1,hu1,ru1⟩:=rr1.get e1;obtain⟨u2,hu2,ru2⟩:=rr2.get e2;exact⟨_,rfl,u1,_,by unfold IQ;rw[hu1,hu2];rfl,ru1,u2,[],rfl,ru2,rfl⟩
  .exact q.elim
end
end L2
namespace L2
section
variable {κ α:Type}[DecidableEq κ]
def Az{k:κ}:yq ([]:List (κ×α)) k=none:=rfl
def yM{k j:κ}{v:α}{r:List (κ×α)}:yq ((j,v)::r) k=if j=k then some v else yq r k:=by
 unfold yq;rw[a0o];by_cases h:j=k
 .simp[h]
 .simp[h]
def Zn:∀{kvs:List (κ×α)}{k:κ},kvs.any (λkv=>decide (kv.1=k))=(yq kvs k).isSome
 |[],_=>rfl
 | (j,v)::r,k=>by
  rw[a0p,yM,Zn];by_cases h:j=k
  .simp[h]
  .simp[h]
def lZ:∀{a:List (κ×α)}{k j:κ}{v:α},yq (a++[(k,v)]) j=(yq a j).or (if k=j then some v else none)
 |[],k,j,v=>by rw[a1v,yM,Az];rfl
 | (i,u)::a,k,j,v=>by
  rw[List.cons_append,yM,yM,lZ];by_cases h:i=j
  .rw[if_pos h,if_pos h];rfl
  .rw[if_neg h,if_neg h]
def cK:∀{a:List (κ×α)}{k j:κ}{v:α},yq (a.map λkv=>if kv.1=k then(kv.1,v)else kv) j=if k=j then(yq a j).map (λ_=>v)else yq a j
 |[],k,j,v=>by split<;>rfl
 | (i,u)::a,k,j,v=>by
  rw[O8];by_cases h:i=k
  .subst h;rw[if_pos rfl,yM,yM,cK];by_cases h:i=j
   .rw[if_pos h,if_pos h,if_pos h];rfl
   .rw[if_neg h,if_neg h,if_neg h,if_neg h]
  .rw[if_neg (show ¬((i,u):κ×α).1=k from h),yM,yM,cK];by_cases hj:i=j
   .rw[if_pos hj,if_pos hj,if_neg (λz=>h (hj.trans z.symm))]
   .rw[if_neg hj,if_neg hj]
def Zo{a:List (κ×α)}{k j:κ}{v:α}:yq (dput a k v) j=if k=j then some v else yq a j:=by
 unfold dput;rw[Zn];split
 .rename_i h;rw[cK];split
  .rename_i e;subst e;obtain⟨x,hx⟩:=a0q.mp h;rw[hx];rfl
  .rfl
 .rename_i h;rw[lZ];by_cases e:k=j
  .subst e;have:yq a k=none:=by cases q:yq a k with|none=>rfl|some x=>rw[q]at h;exact absurd rfl h
   rw[this,if_pos rfl];rfl
  .rw[if_neg e,if_neg e];cases yq a j<;>rfl
def Vj{a:List (κ×α)}{k:κ}{v:α}:(dput a k v).map (·.1)=if(yq a k).isSome=true then a.map (·.1)else a.map (·.1)++[k]:=by
 unfold dput;rw[Zn];split
 .rw[a0y];refine a08 λkv _=>?_;show(if kv.1=k then(kv.1,v)else kv).1=kv.1;split<;>rfl
 .rw[T1];rfl
def JD:∀{a:List (κ×α)}{k:κ}{v:α},yq a k=some v->(k,v)∈a
 |[],_,_,e=>by cases e
 | (j,u)::a,k,v,e=>by
  rw[yM]at e;split at e
  .rename_i h;subst h;cases e;exact O1
  .exact O3 _ (JD e)
def AA{a:List (κ×α)}{k:κ}:(yq a k).isSome=true↔k∈a.map (·.1):=by
 rw[<- Zn,List.any_eq_true];constructor
 .rintro ⟨kv,h,e⟩;exact a0s.mpr ⟨kv,h,a0g e⟩
 .intro h;obtain⟨kv,h,e⟩:=a0s.mp h;exact⟨kv,h,O4 e⟩
def bq{a:List (κ×α)}{k:κ}{v:α}(h:(a.map (·.1)).Nodup):((dput a k v).map (·.1)).Nodup:=by
 rw[Vj];split
 .exact h
 .rename_i n;refine a02.mpr ⟨h,by simp,λx hx y hy z=>?_⟩;obtain rfl:y=k:=by simpa using hy
  subst z;exact n (AA.mpr hx)
end
end L2
namespace K21
open PySem L2
noncomputable section NCS
def top(i:Nat):Stmt:=PySem.Challenge.pw_fleetpath_k21_trips_refused.main.body.getD i (.Pass ⟨0,0,0,0⟩)
abbrev YK:Stmt:=top 41
abbrev X3:Stmt:=top 42
abbrev KP:Stmt:=top 43
abbrev V1:Stmt:=top 44
abbrev YL:Stmt:=top 45
abbrev V2:Stmt:=top 46
abbrev KQ:Stmt:=top 47
abbrev ZT:Stmt:=inClass (top 7) 0
abbrev QU:Stmt:=top 18
abbrev ZU:Stmt:=inClass (top 4) 0
abbrev ZV:Stmt:=top 15
abbrev QV:Stmt:=inClass (top 8) 0
abbrev jK:Stmt:=top 17
abbrev ZW:Stmt:=top 36
abbrev ZX:Stmt:=inClass (top 9) 0
abbrev YM:Stmt:=top 35
abbrev k8:Stmt:=inClass (top 5) 0
abbrev k9:Stmt:=top 16
abbrev QW:Stmt:=top 37
abbrev ZY:Stmt:=top 38
abbrev QX:Stmt:=inClass (top 39) 0
abbrev ZZ:Stmt:=inClass (top 39) 2
abbrev v5:Stmt:=inClass (top 27) 0
abbrev QY:Stmt:=inClass (top 10) 0
abbrev Z0:Stmt:=inClass (top 28) 0
abbrev QZ:Stmt:=top 29
abbrev k_:Stmt:=top 30
abbrev Q1:Stmt:=inClass (top 31) 0
abbrev V3:Stmt:=top 54
abbrev KR:Stmt:=top 55
abbrev Z1:Stmt:=top 48
abbrev X4:Stmt:=top 49
abbrev Q2:Stmt:=top 50
abbrev KS:Stmt:=top 56
abbrev YN:Stmt:=inClass (top 31) 1
abbrev V4:Stmt:=top 51
abbrev Z2:Stmt:=top 52
abbrev X5:Stmt:=top 53
abbrev D3:Stmt:=top 57
def scB(N P:Ob)(sc:Scope):Bool:=(match sc.kind with | .function=>true|_=>false)&&(!sc.isCoroutine&&(!sc.isGenerator&&(decide N.Nodup&&(decide (N.take P.length=P)&&(P.all (λx=>match sc.names.lookup x with|some .local=>true|some .cell=>true|_=>false)&&sc.names.all λy=>match y.2 with | .free=>false|_=>true)))))
def YO(h:scB N P sc=true):zE N P sc:=by
 unfold scB at h;simp only[Bool.and_eq_true,decide_eq_true_eq,List.all_eq_true]at h;obtain⟨h1,h2,h3,h4,h5,h6,h7⟩:=h;refine⟨?_,by simpa using h2,by simpa using h3,h4,h5,λx hx=>?_,λy hy e=>?_⟩
 .revert h1;cases sc.kind<;>simp
 .have:=h6 x hx;split at this<;>simp_all
 .have:=h7 y hy;rw[e]at this;cases this
def U3:zE ["_law_script","_law_k"] ["_law_script","_law_k"] (zh YK):=YO (by decide +kernel)
def nR:zE ["_law_script","_law_k","_law_prime"] ["_law_script","_law_k","_law_prime"] (zh X3):=YO (by decide +kernel)
def yN:zE ["_law_script","_law_at","_law_many","_law_some","_law_cell","_law_signs","_law_way","_law_names_here","_law_k","_law_row","_law_spot"] ["_law_script","_law_at","_law_many"] (zh KP):=YO (by decide +kernel)
def js:zE ["_law_script","_law_at","_law_names_here","_law_many","_law_far","_law_ways_here","_law_k","_law_cell"] ["_law_script","_law_at","_law_names_here"] (zh V1):=YO (by decide +kernel)
def yt:zE ["_law_names_here","_law_ways_here","_law_found","_law_name","_law_one","_law_other","_law_minutes","_law_mid","_law_by"] ["_law_names_here","_law_ways_here"] (zh YL):=YO (by decide +kernel)
def yS:zE ["_law_script","_law_at","_law_name","_law_places","_law_lengths_here","_law_ahead","_law_first","_law_second","_law_third","_law_origin","_law_goal","_law_more","_law_took","_law_start"] ["_law_script","_law_at","_law_name","_law_places","_law_lengths_here","_law_ahead"] (zh V2):=YO (by decide +kernel)
def kT:zE ["_law_script","_law_at","_law_names_here","_law_places","_law_lengths_here","_law_trips_here","_law_k","_law_ahead"] ["_law_script","_law_at","_law_names_here","_law_places","_law_lengths_here"] (zh KQ):=YO (by decide +kernel)
def X6:zE ["self","most"] ["self","most"] (zh ZT):=YO (by decide +kernel)
def cL:zE ["things","most"] ["things","most"] (zh QU):=YO (by decide +kernel)
def X7:zE ["self","name"] ["self","name"] (zh ZU):=YO (by decide +kernel)
def Q3:zE ["name","sign"] ["name"] (zh ZV):=YO (by decide +kernel)
def cM:zE ["self","name"] ["self","name"] (zh QV):=YO (by decide +kernel)
def KU:zE ["name","had"] ["name","had"] (zh jK):=YO (by decide +kernel)
def v7:zE ["places","had","name"] ["places"] (zh ZW):=YO (by decide +kernel)
def X8:zE ["self","name"] ["self","name"] (zh ZX):=YO (by decide +kernel)
def U4:zE ["name","places"] ["name","places"] (zh YM):=YO (by decide +kernel)
def V5:zE ["self","value"] ["self","value"] (zh k8):=YO (by decide +kernel)
def V6:zE ["value","least"] ["value","least"] (zh k9):=YO (by decide +kernel)
def vM:zE ["places","ways","origin","goal","minutes"] ["places","ways"] (zh QW):=YO (by decide +kernel)
def yy:zE ["origin","ways","heights","changed","start","goal","minutes","height"] ["origin","ways"] (zh ZY):=YO (by decide +kernel)
def cN:zE ["self","places","ways"] ["self","places","ways"] (zh QX):=YO (by decide +kernel)
def X9:zE ["self","origin","goal"] ["self","origin","goal"] (zh ZZ):=YO (by decide +kernel)
def WQ:zE ["self","name"] ["self","name"] (zh v5):=YO (by decide +kernel)
def cO:zE ["self","origin","goal"] ["self","origin","goal"] (zh QY):=YO (by decide +kernel)
def X_:zE ["self","name"] ["self","name"] (zh Z0):=YO (by decide +kernel)
def Vk:zE ["roads","trip","had","length"] ["roads","trip","had"] (zh QZ):=YO (by decide +kernel)
def V7:zE ["trip"] ["trip"] (zh k_):=YO (by decide +kernel)
def Vl:zE ["self","roads","trips","trip"] ["self","roads","trips"] (zh Q1):=YO (by decide +kernel)
def v8:zE ["_law_e","_law_kinds","_law_word"] ["_law_e"] (zh V3):=YO (by decide +kernel)
def Wk:zE ["_law_roads","_law_trips_here","_law_e"] ["_law_roads","_law_trips_here"] (zh KR):=YO (by decide +kernel)
def Q4:zE ["_law_names_here","_law_head","_law_k"] ["_law_names_here","_law_head"] (zh Z1):=YO (by decide +kernel)
def nS:zE ["_law_cell"] ["_law_cell"] (zh X4):=YO (by decide +kernel)
def zy:zE ["_law_script","_law_at","_law_trips_here","_law_places","_law_lengths_here","_law_place","_law_kind","_law_more","_law_name","_law_origin","_law_goal","_law_start","_law_finish","_law_seats"] ["_law_script","_law_at","_law_trips_here","_law_places","_law_lengths_here"] (zh Q2):=YO (by decide +kernel)
def Q5:zE ["_law_found","_law_due_here","_law_one","_law_other"] ["_law_found","_law_due_here"] (zh KS):=YO (by decide +kernel)
def U5:zE ["self"] ["self"] (zh YN):=YO (by decide +kernel)
def Ua:zE ["_law_text","_law_some"] ["_law_text"] (zh V4):=YO (by decide +kernel)
def yz:zE ["_law_trip_here","_law_seen","_law_places","_law_lengths_here","_law_name","_law_origin","_law_goal","_law_start","_law_finish","_law_seats","_law_place","_law_value"] ["_law_trip_here","_law_seen","_law_places","_law_lengths_here"] (zh Z2):=YO (by decide +kernel)
def JE:zE ["_law_trips_here","_law_places","_law_lengths_here","_law_seen","_law_trip_here","_law_due_here"] ["_law_trips_here","_law_places","_law_lengths_here"] (zh X5):=YO (by decide +kernel)
def Yx:zE ["_law_script","_law_places","_law_ways_here","_law_lengths_here","_law_names_here","_law_good_here","_law_trips_here","_law_k","_law_roads","_law_handed","_law_found"] ["_law_script"] (zh D3):=YO (by decide +kernel)
abbrev NsN(K:OD)(x:Str):Prop:=W.nsIn K mainGlobals x=some none
abbrev NsR(K:OD)(x:Str)(c:Addr):Prop:=W.nsIn K mainGlobals x=some (some (.ref c))
abbrev gi(K:OD)(x y:Addr):Prop:=W.kitOne K (.ref x) (.ref y)=some true
abbrev yd(K:OD)(x y:Addr):Prop:=W.kitOne K (.ref x) (.ref y)=some false
def ev(i:Nat)(hN:X.N[i]?=some x:=by rfl)(hv:Vis X.env.scope x:=by first|exact Or.inl rfl|exact Or.inr (Or.inl rfl)|exact Or.inr (Or.inr rfl))(hd:(x==("__debug__":Str))=false:=by decide)(hcd:(x==("__classdict__":Str))=false:=by decide):EM X C S true (.Name x pos) (zc i):=F2 (pv i hN hv hd hcd)
def ei{j}:EM X C S false (.Constant (.int i) j pos) (mC (.i i)):=qx E8
def rm(hr:kY k A)(h:j<=k:=by decide):kY j A:=hr.mono h
def Hj(h1:W.findIn K (.ref C) "__init__"=some (some (.ref f)))(h2:K.lookup C=some (excClassObj nm q C N bs bm true sn sub ab col dd k0 k1 k2 k3 k5 "ValueError.__new__"))(h3:d3 K bm=true)(h4:W.typeIn K (.ref f)=some (.type "function"))(h5:W.keepIn K (.ref C)=true):XMk K C f:=⟨⟨_,_,_,_,_,_,_,_,_,_,_,_,_,_,_,h2,h3⟩,h1,h4,h5⟩
abbrev fnT(st:OO)(sh q:Str)(kV dc pm:Value)(an:OL)(cd ct:Value):FuncData:=W.fnOf sh q (Xv st) (vV st) (zh st) .none kV dc pm an cd ct
abbrev DfN(K:OD)(x:Str)(st:OO)(f:Addr)(fd:OC):Prop:=W.nsIn K mainGlobals x=some (some (.ref f))/\Fun K x x st f fd
structure Def(K:OD)(mg:N_)(x:Str)(st:OO)(ps:Ob)(f:Addr)(fd:OC):Prop where
 g:mg x=some (.ref f)
 F:Fun K x x st f fd
 b:Binds K fd ps []
def Def.k(D:Def K mg x st ps f fd):W.keepIn K (.ref f)=true:=D.F.kp
abbrev BN(x q:Str)(st:OO)(ps:Ob):Prop:=∀(kV dc pm:Value)(an:OL)(cd ct:Value)(us:Og),us.length=ps.length->bindArgs (fnT st x q kV dc pm an cd ct) ⟨us,[]⟩=pure (ps.zip us)
def qr(X:K.In h)(G:h.Ns mainGlobals mg)(D:DfN K x st f fd)(b:BN x x st ps):Def K mg x st ps f fd:=⟨a0k X G D.1,D.2,D.2.binds b⟩
def fz{P:Pc}:∀c∈([]:List Nat),P c:=λ_ h=>nomatch h
def fa{P:Pc}{a:Nat}{l:Od}(h:P a)(t:∀c∈l,P c):∀c∈a::l,P c:=λc hc=>(P8.mp hc).elim (λe=>e▸h) (t c)
def al{X:Cx}{W:RC}{fr:Bool}{ws:Oh}{mn:Str}{c:Nat}{f:Ou}(h:ER X.prog X.w X.K X.mg X.base X.A mn (W.cls c) (lsp W fr (true::ws) f)):∀K sp,LQ W fr ws [(c,f)] K sp->ER X.prog X.w X.K X.mg X.base X.A mn K sp:=λK sp ⟨q,hq,e1,e2⟩=>by cases S0.mp hq;subst e1 e2;exact h
def ec{X:Cx}{C:LC}{S:Od}{k j:Nat}{f:Addr}{fd:OC}{ps:Ob}{fr:Bool}{ws:Oh}{g:Ou}{x:Str}{st:OO}{e:Oq}{es:Om}{ms:MA}{p pos:Pos}(F:qO X.prog X.w X.K X.mg X.base (CXe X.prog X.w) k f fd ps (lsp C.W fr ws g))(hr:kY j X.A)(D:Def X.K X.mg x st ps f fd)(hx:Passes (CXe X.prog X.w) X C.E)(ha:AM X C S ws (e::es) ms)(hj:k<=j:=by decide)(hg:Gl X x:=by rfl)
  (hdb:(x==("__debug__":Str))=false:=by decide) (he:starEach (e::es) X.env=(false,eval e X.env)::starEach es X.env:=by rfl) (hpl:(backTo pos (starEach es X.env)).any (·.1)=false:=by rfl):EM X C S false (.Call (.Name x p) (e::es) [] pos) (zj g ms):=De F (hr.mono hj) hg D.g D.k D.b hx ha hdb he hpl
def gn(i:Nat)(hN:X.N.Nodup)(hi:X.N[i]?=some x:=by rfl)(hx:Loc X.env.scope x:=by exact .inl rfl)(hf:X.fn x=true\/X.env.scope.names.lookup x=some .local:=by first|exact .inl rfl|exact .inr rfl|assumption):GM X C S (S.set i 0) (.Name x pos) (gNm i):=QP hN hi hx hf
def se(i:Nat)(hN:X.N.Nodup)(h:EM X C S false e m)(hi:X.N[i]?=some x:=by rfl)(hx:Loc X.env.scope x:=by exact .inl rfl)(hs:swapsWith e (some (.Name x pos')) pos.line X.env=pure false:=by rfl)(hf:X.fn x=true\/X.env.scope.names.lookup x=some .local:=by first|exact .inl rfl|exact .inr rfl|assumption):SM X C S (S.set i 0) Sb Sc (.Assign [.Name x pos'] e pos) (y8 i m):=aY hN hi hx h hs hf
def ix(hr:kY k X.A)(h1:EM X C S w1 a m1)(h2:EM X C S w2 b m2)(hs:bQ b:=by intro _ _;rfl):EM X C S false (.Subscript a b pos) (mOp pIx m1 m2):=xD (ja hr) h1 h2 hs
def hse(i:Nat)(hN:X.N.Nodup)(h:HE X W E e m)(hi:X.N[i]?=some x:=by rfl)(hx:Loc X.env.scope x:=by exact .inl rfl)(hs:swapsWith e (some (.Name x pos')) pos.line X.env=pure false:=by rfl)(hf:X.fn x=true\/X.env.scope.names.lookup x=some .local:=by first|exact .inl rfl|exact .inr rfl|assumption):HS X W E (.Assign [.Name x pos'] e pos) (eS i m):=GY hN hi hx h hs hf
def hp(h:EM X ⟨W,E,false⟩ (List.replicate 30 0) false e m):HE X W E e (hP bs m):=NT bs h (a1m.mpr λ_ h=>by rw[a1C h];rfl)
def hf(h:FM X ⟨W,E,false⟩ (List.replicate 30 0) e m):HE X W E e (hF bs m):=NV bs h (a1m.mpr λ_ h=>by rw[a1C h];rfl)
def bn1(h:∀kV dc pm an cd ct u0,bindArgs (fnT st x q kV dc pm an cd ct) ⟨[u0],[]⟩=pure (ps.zip [u0]):=by intros;rfl)(hp:ps.length=1:=by rfl):BN x q st ps:=λkV dc pm an cd ct us hl=>LY (P:=λus=>bindArgs (fnT st x q kV dc pm an cd ct) ⟨us,[]⟩=pure (ps.zip us)) (hl.trans hp) λu0=>h kV dc pm an cd ct u0
def bn2(h:∀kV dc pm an cd ct u0 u1,bindArgs (fnT st x q kV dc pm an cd ct) ⟨[u0,u1],[]⟩=pure (ps.zip [u0,u1]):=by intros;rfl)(hp:ps.length=2:=by rfl):BN x q st ps:=λkV dc pm an cd ct us hl=>LZ (P:=λus=>bindArgs (fnT st x q kV dc pm an cd ct) ⟨us,[]⟩=pure (ps.zip us)) (hl.trans hp) λu0 u1=>h kV dc pm an cd ct u0 u1
def bn3(h:∀kV dc pm an cd ct u0 u1 u2,bindArgs (fnT st x q kV dc pm an cd ct) ⟨[u0,u1,u2],[]⟩=pure (ps.zip [u0,u1,u2]):=by intros;rfl)(hp:ps.length=3:=by rfl):BN x q st ps:=λkV dc pm an cd ct us hl=>L6 (P:=λus=>bindArgs (fnT st x q kV dc pm an cd ct) ⟨us,[]⟩=pure (ps.zip us)) (hl.trans hp) λu0 u1 u2=>h kV dc pm an cd ct u0 u1 u2
def bn4(h:∀kV dc pm an cd ct u0 u1 u2 u3,bindArgs (fnT st x q kV dc pm an cd ct) ⟨[u0,u1,u2,u3],[]⟩=pure (ps.zip [u0,u1,u2,u3]):=by intros;rfl)(hp:ps.length=4:=by rfl):BN x q st ps:=λkV dc pm an cd ct us hl=>L7 (P:=λus=>bindArgs (fnT st x q kV dc pm an cd ct) ⟨us,[]⟩=pure (ps.zip us)) (hl.trans hp) λu0 u1 u2 u3=>h kV dc pm an cd ct u0 u1 u2 u3
def bn5(h:∀kV dc pm an cd ct u0 u1 u2 u3 u4,bindArgs (fnT st x q kV dc pm an cd ct) ⟨[u0,u1,u2,u3,u4],[]⟩=pure (ps.zip [u0,u1,u2,u3,u4]):=by intros;rfl)(hp:ps.length=5:=by rfl):BN x q st ps:=λkV dc pm an cd ct us hl=>L8 (P:=λus=>bindArgs (fnT st x q kV dc pm an cd ct) ⟨us,[]⟩=pure (ps.zip us)) (hl.trans hp) λu0 u1 u2 u3 u4=>h kV dc pm an cd ct u0 u1 u2 u3 u4
def bn6(h:∀kV dc pm an cd ct u0 u1 u2 u3 u4 u5,bindArgs (fnT st x q kV dc pm an cd ct) ⟨[u0,u1,u2,u3,u4,u5],[]⟩=pure (ps.zip [u0,u1,u2,u3,u4,u5]):=by intros;rfl)(hp:ps.length=6:=by rfl):BN x q st ps:=λkV dc pm an cd ct us hl=>Md (P:=λus=>bindArgs (fnT st x q kV dc pm an cd ct) ⟨us,[]⟩=pure (ps.zip us)) (hl.trans hp) λu0 u1 u2 u3 u4 u5=>h kV dc pm an cd ct u0 u1 u2 u3 u4 u5
structure Adr where
 (yX zL zx jd zM yB zN yk kO zD zO Jg Jh zY zJ ju vS qX kD kE Yf qf Yg qj Ji yh qJ Yh yI vy zT jB yW qV yJ Zg Jj Yi jC zF Jk kB UK qh kU jA qT Qc kC qi Ze Iq:Addr)
 (VH fS UL bD VI bE UM Yj Wv Yk J_ Jl ZE Ka Yl VJ vz Ql Ww Kb Jm Ym Zh Jn Yn Wx Qm Jo bF UN Kc fT Wz UO Qd bG Ke fU Ir:OC)
 (EH fV aE fW Iu A8 Iv EI A9 EJ di iF:Tok)
abbrev M7(K:OD)(mg:N_)(a:Adr):Prop:=
 (mg "LIMIT"=some (.int 1000000000 a.EH))/\
 (mg "NAME_SIGNS"=some (.str "abcdefghijklmnopqrstuvwxyz0123456789" a.fV))/\
 (mg "LONGEST_NAME"=some (.int 12 a.aE))/\
 (mg "MOST_TRIPS"=some (.int 40 a.fW))/\
 (mg "NAME"=some (.int 0 a.Iu))/\
 (mg "ORIGIN"=some (.int 1 a.A8))/\
 (mg "GOAL"=some (.int 2 a.Iv))/\
 (mg "START"=some (.int 3 a.EI))
abbrev M8(K:OD)(mg:N_)(a:Adr):Prop:=
 (mg "FINISH"=some (.int 4 a.A9))/\
 (mg "SEATS"=some (.int 5 a.EJ))/\
 (mg "MOST_PLACES"=some (.int 12 a.di))/\
 (mg "MOST_WAYS"=some (.int 60 a.iF))/\
 (mg "FleetError"=some (.ref a.yX))/\
 (mg "BadName"=some (.ref a.zL))/\
 (mg "BadNumber"=some (.ref a.zx))/\
 (mg "BadTime"=some (.ref a.jd))
abbrev Txt2(K:OD)(mg:N_)(a:Adr):Prop:=
 (mg "TooMany"=some (.ref a.zM))/\
 (mg "Twice"=some (.ref a.yB))/\
 (mg "NoPlace"=some (.ref a.zN))/\
 (mg "NoWay"=some (.ref a.yk))/\
 (mg "NoTrip"=some (.ref a.kO))/\
 (mg "Backward"=some (.ref a.zD))/\
 (mg "TooFast"=some (.ref a.zO))/\
 (mg "Table"=some (.ref a.Jg))
abbrev M9(K:OD)(mg:N_)(a:Adr):Prop:=
 (mg "Roads"=some (.ref a.Jh))/\
 (mg "ValueError"=none)/\
 (mg "all"=none)/\
 (mg "bool"=none)/\
 (mg "dict"=none)/\
 (mg "isinstance"=none)/\
 (mg "len"=none)/\
 (mg "list"=none)
abbrev M_(K:OD)(mg:N_)(a:Adr):Prop:=
 (mg "max"=none)/\
 (mg "min"=none)/\
 (mg "range"=none)/\
 (mg "sorted"=none)/\
 (mg "str"=none)/\
 (mg "zip"=none)/\
 (Def K mg "_law_cell_at" YK ["_law_script","_law_k"] a.zY a.VH)/\
 (Def K mg "_law_mix" X3 ["_law_script","_law_k","_law_prime"] a.zJ a.fS)
abbrev Na(K:OD)(mg:N_)(a:Adr):Prop:=
 (Def K mg "_law_names" KP ["_law_script","_law_at","_law_many"] a.ju a.UL)/\
 (Def K mg "_law_ways" V1 ["_law_script","_law_at","_law_names_here"] a.vS a.bD)/\
 (Def K mg "_law_lengths" YL ["_law_names_here","_law_ways_here"] a.qX a.VI)/\
 (Def K mg "_law_trip" V2 ["_law_script","_law_at","_law_name","_law_places","_law_lengths_here","_law_ahead"] a.kD a.bE)/\
 (Def K mg "_law_trips" KQ ["_law_script","_law_at","_law_names_here","_law_places","_law_lengths_here"] a.kE a.UM)/\
 (Fun K "__init__" "TooMany.__init__" ZT a.Yf a.Yj)/\
 (Binds K a.Yj ["self","most"] [])/\
 (Def K mg "check_most" QU ["things","most"] a.qf a.Wv)
abbrev Nb(K:OD)(mg:N_)(a:Adr):Prop:=
 (Fun K "__init__" "BadName.__init__" ZU a.Yg a.Yk)/\
 (Binds K a.Yk ["self","name"] [])/\
 (Def K mg "checked_name" ZV ["name"] a.qj a.J_)/\
 (Fun K "__init__" "Twice.__init__" QV a.Ji a.Jl)/\
 (Binds K a.Jl ["self","name"] [])/\
 (Def K mg "checked_new_name" jK ["name","had"] a.yh a.ZE)/\
 (Def K mg "check_places" ZW ["places"] a.qJ a.Ka)/\
 (Fun K "__init__" "NoPlace.__init__" ZX a.Yh a.Yl)
abbrev Nc(K:OD)(mg:N_)(a:Adr):Prop:=
 (Binds K a.Yl ["self","name"] [])/\
 (Def K mg "check_place" YM ["name","places"] a.yI a.VJ)/\
 (Fun K "__init__" "BadNumber.__init__" k8 a.vy a.vz)/\
 (Binds K a.vz ["self","value"] [])/\
 (Def K mg "checked_number" k9 ["value","least"] a.zT a.Ql)/\
 (Def K mg "check_ways" QW ["places","ways"] a.jB a.Ww)/\
 (Def K mg "heights_from" ZY ["origin","ways"] a.yW a.Kb)/\
 (Fun K "__init__" "Roads.__init__" QX a.qV a.Jm)
abbrev Nd(K:OD)(mg:N_)(a:Adr):Prop:=
 (Binds K a.Jm ["self","places","ways"] [])/\
 (Fun K "length" "Roads.length" ZZ a.yJ a.Ym)/\
 (Binds K a.Ym ["self","origin","goal"] [])/\
 (Fun K "__init__" "Backward.__init__" v5 a.Zg a.Zh)/\
 (Binds K a.Zh ["self","name"] [])/\
 (Fun K "__init__" "NoWay.__init__" QY a.Jj a.Jn)/\
 (Binds K a.Jn ["self","origin","goal"] [])/\
 (Fun K "__init__" "TooFast.__init__" Z0 a.Yi a.Yn)
abbrev Nf(K:OD)(mg:N_)(a:Adr):Prop:=
 (Binds K a.Yn ["self","name"] [])/\
 (Def K mg "check_trip" QZ ["roads","trip","had"] a.jC a.Wx)/\
 (Def K mg "place_in_order" k_ ["trip"] a.zF a.Qm)/\
 (Fun K "__init__" "Table.__init__" Q1 a.Jk a.Jo)/\
 (Binds K a.Jo ["self","roads","trips"] [])/\
 (Def K mg "_law_told" V3 ["_law_e"] a.kB a.bF)/\
 (Def K mg "_law_asked" KR ["_law_roads","_law_trips_here"] a.UK a.UN)/\
 (Def K mg "_law_stranger" Z1 ["_law_names_here","_law_head"] a.qh a.Kc)
abbrev Hk(K:OD)(mg:N_)(a:Adr):Prop:=
 (Def K mg "_law_out" X4 ["_law_cell"] a.kU a.fT)/\
 (Def K mg "_law_spoilt" Q2 ["_law_script","_law_at","_law_trips_here","_law_places","_law_lengths_here"] a.jA a.Wz)/\
 (Def K mg "_law_alike" KS ["_law_found","_law_due_here"] a.qT a.UO)/\
 (Fun K "names" "Table.names" YN a.Qc a.Qd)/\
 (Binds K a.Qd ["self"] [])/\
 (Def K mg "_law_good" V4 ["_law_text"] a.kC a.bG)/\
 (Def K mg "_law_trip_due" Z2 ["_law_trip_here","_law_seen","_law_places","_law_lengths_here"] a.qi a.Ke)/\
 (Def K mg "_law_due" X5 ["_law_trips_here","_law_places","_law_lengths_here"] a.Ze a.fU)
abbrev Hl(K:OD)(mg:N_)(a:Adr):Prop:=
 (Def K mg "law" D3 ["_law_script"] a.Iq a.Ir)/\
 (JN K a.zL)/\
 (XIs K a.zL)/\
 (XMk K a.zL a.Yg)/\
 (Catch K a.zL a.yX true)/\
 (W.takerIn K a.zL "name"=some none)/\
 (W.findIn K (.ref a.zL) "name"=some none)/\
 (JN K a.zx)
abbrev Hm(K:OD)(mg:N_)(a:Adr):Prop:=
 (XIs K a.zx)/\
 (XMk K a.zx a.vy)/\
 (Catch K a.zx a.yX true)/\
 (W.takerIn K a.zx "value"=some none)/\
 (W.findIn K (.ref a.zx) "value"=some none)/\
 (JN K a.zM)/\
 (XIs K a.zM)/\
 (XMk K a.zM a.Yf)
abbrev Hn(K:OD)(mg:N_)(a:Adr):Prop:=
 (Catch K a.zM a.yX true)/\
 (W.takerIn K a.zM "most"=some none)/\
 (W.findIn K (.ref a.zM) "most"=some none)/\
 (JN K a.yB)/\
 (XIs K a.yB)/\
 (XMk K a.yB a.Ji)/\
 (Catch K a.yB a.yX true)/\
 (W.takerIn K a.yB "name"=some none)
abbrev Ho(K:OD)(mg:N_)(a:Adr):Prop:=
 (W.findIn K (.ref a.yB) "name"=some none)/\
 (JN K a.zN)/\
 (XIs K a.zN)/\
 (XMk K a.zN a.Yh)/\
 (Catch K a.zN a.yX true)/\
 (W.takerIn K a.zN "name"=some none)/\
 (W.findIn K (.ref a.zN) "name"=some none)/\
 (JN K a.yk)
abbrev Hq(K:OD)(mg:N_)(a:Adr):Prop:=
 (XIs K a.yk)/\
 (XMk K a.yk a.Jj)/\
 (Catch K a.yk a.yX true)/\
 (W.takerIn K a.yk "origin"=some none)/\
 (W.findIn K (.ref a.yk) "origin"=some none)/\
 (W.takerIn K a.yk "goal"=some none)/\
 (W.findIn K (.ref a.yk) "goal"=some none)/\
 (JN K a.zD)
abbrev Hr(K:OD)(mg:N_)(a:Adr):Prop:=
 (XIs K a.zD)/\
 (XMk K a.zD a.Zg)/\
 (Catch K a.zD a.yX true)/\
 (W.takerIn K a.zD "name"=some none)/\
 (W.findIn K (.ref a.zD) "name"=some none)/\
 (JN K a.zO)/\
 (XIs K a.zO)/\
 (XMk K a.zO a.Yi)
abbrev Hs(K:OD)(mg:N_)(a:Adr):Prop:=
 (Catch K a.zO a.yX true)/\
 (W.takerIn K a.zO "name"=some none)/\
 (W.findIn K (.ref a.zO) "name"=some none)/\
 (Cls K a.Jg)/\
 (vF K a.Jg "by_name")/\
 (vF K a.Jg "order")/\
 (vF K a.Jg "roads")/\
 (Meth K a.Jg "names" a.Qc)
abbrev Hu(K:OD)(mg:N_)(a:Adr):Prop:=
 (Mk K a.Jg a.Jk)/\
 (Cls K a.Jh)/\
 (vF K a.Jh "lengths")/\
 (vF K a.Jh "places")/\
 (vF K a.Jh "ways")/\
 (Meth K a.Jh "length" a.yJ)/\
 (Mk K a.Jh a.qV)/\
 (gi K a.zL a.zL)
abbrev Hv(K:OD)(mg:N_)(a:Adr):Prop:=
 (yd K a.zx a.zL)/\
 (yd K a.zM a.zL)/\
 (yd K a.yB a.zL)/\
 (yd K a.zN a.zL)/\
 (yd K a.yk a.zL)/\
 (yd K a.zD a.zL)/\
 (yd K a.zO a.zL)/\
 (yd K a.zL a.zx)
abbrev Hw(K:OD)(mg:N_)(a:Adr):Prop:=
 (gi K a.zx a.zx)/\
 (yd K a.zM a.zx)/\
 (yd K a.yB a.zx)/\
 (yd K a.zN a.zx)/\
 (yd K a.yk a.zx)/\
 (yd K a.zD a.zx)/\
 (yd K a.zO a.zx)/\
 (yd K a.zL a.zM)
abbrev Hx(K:OD)(mg:N_)(a:Adr):Prop:=
 (yd K a.zx a.zM)/\
 (gi K a.zM a.zM)/\
 (yd K a.yB a.zM)/\
 (yd K a.zN a.zM)/\
 (yd K a.yk a.zM)/\
 (yd K a.zD a.zM)/\
 (yd K a.zO a.zM)/\
 (yd K a.zL a.yB)
abbrev Hy(K:OD)(mg:N_)(a:Adr):Prop:=
 (yd K a.zx a.yB)/\
 (yd K a.zM a.yB)/\
 (gi K a.yB a.yB)/\
 (yd K a.zN a.yB)/\
 (yd K a.yk a.yB)/\
 (yd K a.zD a.yB)/\
 (yd K a.zO a.yB)/\
 (yd K a.zL a.zN)
abbrev Hz(K:OD)(mg:N_)(a:Adr):Prop:=
 (yd K a.zx a.zN)/\
 (yd K a.zM a.zN)/\
 (yd K a.yB a.zN)/\
 (gi K a.zN a.zN)/\
 (yd K a.yk a.zN)/\
 (yd K a.zD a.zN)/\
 (yd K a.zO a.zN)/\
 (yd K a.zL a.yk)
abbrev HB(K:OD)(mg:N_)(a:Adr):Prop:=
 (yd K a.zx a.yk)/\
 (yd K a.zM a.yk)/\
 (yd K a.yB a.yk)/\
 (yd K a.zN a.yk)/\
 (gi K a.yk a.yk)/\
 (yd K a.zD a.yk)/\
 (yd K a.zO a.yk)/\
 (yd K a.zL a.zD)
abbrev HD(K:OD)(mg:N_)(a:Adr):Prop:=
 (yd K a.zx a.zD)/\
 (yd K a.zM a.zD)/\
 (yd K a.yB a.zD)/\
 (yd K a.zN a.zD)/\
 (yd K a.yk a.zD)/\
 (gi K a.zD a.zD)/\
 (yd K a.zO a.zD)/\
 (yd K a.zL a.zO)
abbrev HF(K:OD)(mg:N_)(a:Adr):Prop:=
 (yd K a.zx a.zO)/\
 (yd K a.zM a.zO)/\
 (yd K a.yB a.zO)/\
 (yd K a.zN a.zO)/\
 (yd K a.yk a.zO)/\
 (yd K a.zD a.zO)/\
 (gi K a.zO a.zO)/\
 (yd K a.zL a.kO)
abbrev HI(K:OD)(mg:N_)(a:Adr):Prop:=
 (yd K a.zx a.kO)/\
 (yd K a.zM a.kO)/\
 (yd K a.yB a.kO)/\
 (yd K a.zN a.kO)/\
 (yd K a.yk a.kO)/\
 (yd K a.zD a.kO)/\
 (yd K a.zO a.kO)/\
 (yd K a.zL a.jd)
abbrev HJ(K:OD)(mg:N_)(a:Adr):Prop:=
 (yd K a.zx a.jd)/\
 (yd K a.zM a.jd)/\
 (yd K a.yB a.jd)/\
 (yd K a.zN a.jd)/\
 (yd K a.yk a.jd)/\
 (yd K a.zD a.jd)/\
 (yd K a.zO a.jd)/\
 (W.kitOne K (.ref a.zL) (.type "ValueError")=some true)
abbrev HK(K:OD)(mg:N_)(a:Adr):Prop:=
 (W.kitOne K (.ref a.zx) (.type "ValueError")=some true)/\
 (W.kitOne K (.ref a.zM) (.type "ValueError")=some true)/\
 (W.kitOne K (.ref a.yB) (.type "ValueError")=some true)/\
 (W.kitOne K (.ref a.zN) (.type "ValueError")=some true)/\
 (W.kitOne K (.ref a.yk) (.type "ValueError")=some true)/\
 (W.kitOne K (.ref a.zD) (.type "ValueError")=some true)/\
 (W.kitOne K (.ref a.zO) (.type "ValueError")=some true)/\
 (W.kitOne K (.type "int") (.type "str")=some false)
abbrev HL(K:OD)(mg:N_)(a:Adr):Prop:=
 (W.kitOne K (.type "str") (.type "str")=some true)/\
 (W.kitOne K (.type "int") (.type "bool")=some false)/\
 (W.kitOne K (.type "str") (.type "bool")=some false)
abbrev Txt(K:OD)(mg:N_)(a:Adr):Prop:=M7 K mg a/\M8 K mg a/\Txt2 K mg a/\M9 K mg a/\M_ K mg a/\Na K mg a/\Nb K mg a/\Nc K mg a/\Nd K mg a/\Nf K mg a/\Hk K mg a/\Hl K mg a/\Hm K mg a/\Hn K mg a/\Ho K mg a/\Hq K mg a/\Hr K mg a/\Hs K mg a/\Hu K mg a/\Hv K mg a/\Hw K mg a/\Hx K mg a/\Hy K mg a/\Hz K mg a/\HB K mg a/\HD K mg a/\HF K mg a/\HI K mg a/\HJ K mg a/\HK K mg a/\HL K mg a
section
variable {K:OD}{mg:N_}{a:Adr}(T:Txt K mg a)
include T
def Txt.cc0:M7 K mg a:=T.1
def Txt.ij:=T.cc0.1
def Txt.Q6:=T.cc0.2.1
def Txt.Z3:=T.cc0.2.2.1
def Txt.Zp:=T.cc0.2.2.2.1
def Txt.Wl:=T.cc0.2.2.2.2.1
def Txt.Xl:=T.cc0.2.2.2.2.2.1
def Txt.l0:=T.cc0.2.2.2.2.2.2.1
def Txt.V8:=T.cc0.2.2.2.2.2.2.2
def Txt.cc1:M8 K mg a:=T.2.1
def Txt.JF:=T.cc1.1
def Txt.ik:=T.cc1.2.1
def Txt.YQ:=T.cc1.2.2.1
def Txt.KW:=T.cc1.2.2.2.1
def Txt.Q7:=T.cc1.2.2.2.2.1
def Txt.Q8:=T.cc1.2.2.2.2.2.1
def Txt.YR:=T.cc1.2.2.2.2.2.2.1
def Txt.Ub:=T.cc1.2.2.2.2.2.2.2
def Txt.cc2:Txt2 K mg a:=T.2.2.1
def Txt.Vm:=T.cc2.1
def Txt.cP:=T.cc2.2.1
def Txt.Vn:=T.cc2.2.2.1
def Txt.cQ:=T.cc2.2.2.2.1
def Txt.cR:=T.cc2.2.2.2.2.1
def Txt.JG:=T.cc2.2.2.2.2.2.1
def Txt.Vo:=T.cc2.2.2.2.2.2.2.1
def Txt.cS:=T.cc2.2.2.2.2.2.2.2
def Txt.cc3:M9 K mg a:=T.2.2.2.1
def Txt.il:=T.cc3.1
def Txt.Q9:=T.cc3.2.1
def Txt.D4:=T.cc3.2.2.1
def Txt.sY:=T.cc3.2.2.2.1
def Txt.sZ:=T.cc3.2.2.2.2.1
def Txt.z9:=T.cc3.2.2.2.2.2.1
def Txt.Yy:=T.cc3.2.2.2.2.2.2.1
def Txt.Qf:=T.cc3.2.2.2.2.2.2.2
def Txt.cc4:M_ K mg a:=T.2.2.2.2.1
def Txt.D5:=T.cc4.1
def Txt.s_:=T.cc4.2.1
def Txt.YS:=T.cc4.2.2.1
def Txt.Vp:=T.cc4.2.2.2.1
def Txt.nU:=T.cc4.2.2.2.2.1
def Txt.D6:=T.cc4.2.2.2.2.2.1
def Txt.yH:=T.cc4.2.2.2.2.2.2.1
def Txt.y2:=T.cc4.2.2.2.2.2.2.2
def Txt.cc5:Na K mg a:=T.2.2.2.2.2.1
def Txt.qz:=T.cc5.1
def Txt.vQ:=T.cc5.2.1
def Txt.qW:=T.cc5.2.2.1
def Txt.JH:=T.cc5.2.2.2.1
def Txt.ki:=T.cc5.2.2.2.2.1
def Txt.U6:=T.cc5.2.2.2.2.2.1
def Txt.U7:=T.cc5.2.2.2.2.2.2.1
def Txt.jx:=T.cc5.2.2.2.2.2.2.2
def Txt.cc6:Nb K mg a:=T.2.2.2.2.2.2.1
def Txt.U8:=T.cc6.1
def Txt.JP:=T.cc6.2.1
def Txt.kJ:=T.cc6.2.2.1
def Txt.ff:=T.cc6.2.2.2.1
def Txt.fg:=T.cc6.2.2.2.2.1
def Txt.qb:=T.cc6.2.2.2.2.2.1
def Txt.kK:=T.cc6.2.2.2.2.2.2.1
def Txt.U9:=T.cc6.2.2.2.2.2.2.2
def Txt.cc7:Nc K mg a:=T.2.2.2.2.2.2.2.1
def Txt.U_:=T.cc7.1
def Txt.qA:=T.cc7.2.1
def Txt.WR:=T.cc7.2.2.1
def Txt.WT:=T.cc7.2.2.2.1
def Txt.yT:=T.cc7.2.2.2.2.1
def Txt.Zq:=T.cc7.2.2.2.2.2.1
def Txt.qI:=T.cc7.2.2.2.2.2.2.1
def Txt.fh:=T.cc7.2.2.2.2.2.2.2
def Txt.cc8:Nd K mg a:=T.2.2.2.2.2.2.2.2.1
def Txt.fi:=T.cc8.1
def Txt.aa:=T.cc8.2.1
def Txt.ae:=T.cc8.2.2.1
def Txt.Uc:=T.cc8.2.2.2.1
def Txt.Ud:=T.cc8.2.2.2.2.1
def Txt.fj:=T.cc8.2.2.2.2.2.1
def Txt.fk:=T.cc8.2.2.2.2.2.2.1
def Txt.af:=T.cc8.2.2.2.2.2.2.2
def Txt.cc9:Nf K mg a:=T.2.2.2.2.2.2.2.2.2.1
def Txt.ag:=T.cc9.1
def Txt.Zr:=T.cc9.2.1
def Txt.qG:=T.cc9.2.2.1
def Txt.fm:=T.cc9.2.2.2.1
def Txt.Wm:=T.cc9.2.2.2.2.1
def Txt.vR:=T.cc9.2.2.2.2.2.1
def Txt.qB:=T.cc9.2.2.2.2.2.2.1
def Txt.jb:=T.cc9.2.2.2.2.2.2.2
def Txt.BU:Hk K mg a:=T.2.2.2.2.2.2.2.2.2.2.1
def Txt.Yz:=T.BU.1
def Txt.Zs:=T.BU.2.1
def Txt.YT:=T.BU.2.2.1
def Txt.cT:=T.BU.2.2.2.1
def Txt.cU:=T.BU.2.2.2.2.1
def Txt.JI:=T.BU.2.2.2.2.2.1
def Txt.kL:=T.BU.2.2.2.2.2.2.1
def Txt.Vq:=T.BU.2.2.2.2.2.2.2
def Txt.BV:Hl K mg a:=T.2.2.2.2.2.2.2.2.2.2.2.1
def Txt.tf:=T.BV.1
def Txt.y3:=T.BV.2.1
def Txt.qt:=T.BV.2.2.1
def Txt.fo:=T.BV.2.2.2.1
def Txt.nV:=T.BV.2.2.2.2.1
def Txt.Ue:=T.BV.2.2.2.2.2.1
def Txt.Ug:=T.BV.2.2.2.2.2.2.1
def Txt.yA:=T.BV.2.2.2.2.2.2.2
def Txt.BW:Hm K mg a:=T.2.2.2.2.2.2.2.2.2.2.2.2.1
def Txt.yO:=T.BW.1
def Txt.ip:=T.BW.2.1
def Txt.fq:=T.BW.2.2.1
def Txt.Vr:=T.BW.2.2.2.1
def Txt.Vs:=T.BW.2.2.2.2.1
def Txt.qc:=T.BW.2.2.2.2.2.1
def Txt.qu:=T.BW.2.2.2.2.2.2.1
def Txt.tq:=T.BW.2.2.2.2.2.2.2
def Txt.BX:Hn K mg a:=T.2.2.2.2.2.2.2.2.2.2.2.2.2.1
def Txt.nW:=T.BX.1
def Txt.Uh:=T.BX.2.1
def Txt.Ui:=T.BX.2.2.1
def Txt.jL:=T.BX.2.2.2.1
def Txt.jM:=T.BX.2.2.2.2.1
def Txt.D7:=T.BX.2.2.2.2.2.1
def Txt.AB:=T.BX.2.2.2.2.2.2.1
def Txt.cV:=T.BX.2.2.2.2.2.2.2
def Txt.BY:Ho K mg a:=T.2.2.2.2.2.2.2.2.2.2.2.2.2.2.1
def Txt.cW:=T.BY.1
def Txt.qd:=T.BY.2.1
def Txt.qv:=T.BY.2.2.1
def Txt.tD:=T.BY.2.2.2.1
def Txt.nX:=T.BY.2.2.2.2.1
def Txt.Uj:=T.BY.2.2.2.2.2.1
def Txt.Uk:=T.BY.2.2.2.2.2.2.1
def Txt.q_:=T.BY.2.2.2.2.2.2.2
def Txt.BZ:Hq K mg a:=T.2.2.2.2.2.2.2.2.2.2.2.2.2.2.2.1
def Txt.jN:=T.BZ.1
def Txt.D8:=T.BZ.2.1
def Txt.AD:=T.BZ.2.2.1
def Txt.Ul:=T.BZ.2.2.2.1
def Txt.Um:=T.BZ.2.2.2.2.1
def Txt.cX:=T.BZ.2.2.2.2.2.1
def Txt.cY:=T.BZ.2.2.2.2.2.2.1
def Txt.yR:=T.BZ.2.2.2.2.2.2.2
def Txt.B0:Hr K mg a:=T.2.2.2.2.2.2.2.2.2.2.2.2.2.2.2.2.1
def Txt.y4:=T.B0.1
def Txt.nY:=T.B0.2.1
def Txt.iq:=T.B0.2.2.1
def Txt.WU:=T.B0.2.2.2.1
def Txt.WV:=T.B0.2.2.2.2.1
def Txt.qe:=T.B0.2.2.2.2.2.1
def Txt.qw:=T.B0.2.2.2.2.2.2.1
def Txt.tE:=T.B0.2.2.2.2.2.2.2
def Txt.B3:Hs K mg a:=T.2.2.2.2.2.2.2.2.2.2.2.2.2.2.2.2.2.1
def Txt.nZ:=T.B3.1
def Txt.Uo:=T.B3.2.1
def Txt.Uq:=T.B3.2.2.1
def Txt.YU:=T.B3.2.2.2.1
def Txt.vc:=T.B3.2.2.2.2.1
def Txt.JQ:=T.B3.2.2.2.2.2.1
def Txt.ai:=T.B3.2.2.2.2.2.2.1
def Txt.aj:=T.B3.2.2.2.2.2.2.2
def Txt.B4:Hu K mg a:=T.2.2.2.2.2.2.2.2.2.2.2.2.2.2.2.2.2.2.1
def Txt.l3:=T.B4.1
def Txt.YV:=T.B4.2.1
def Txt.Qg:=T.B4.2.2.1
def Txt.v9:=T.B4.2.2.2.1
def Txt.cZ:=T.B4.2.2.2.2.1
def Txt.Ur:=T.B4.2.2.2.2.2.1
def Txt.AE:=T.B4.2.2.2.2.2.2.1
def Txt.v_:=T.B4.2.2.2.2.2.2.2
def Txt.B5:Hv K mg a:=T.2.2.2.2.2.2.2.2.2.2.2.2.2.2.2.2.2.2.2.1
def Txt.wa:=T.B5.1
def Txt.wb:=T.B5.2.1
def Txt.wc:=T.B5.2.2.1
def Txt.wd:=T.B5.2.2.2.1
def Txt.we:=T.B5.2.2.2.2.1
def Txt.wg:=T.B5.2.2.2.2.2.1
def Txt.ve:=T.B5.2.2.2.2.2.2.1
def Txt.kj:=T.B5.2.2.2.2.2.2.2
def Txt.B6:Hw K mg a:=T.2.2.2.2.2.2.2.2.2.2.2.2.2.2.2.2.2.2.2.2.1
def Txt.kl:=T.B6.1
def Txt.km:=T.B6.2.1
def Txt.kn:=T.B6.2.2.1
def Txt.ko:=T.B6.2.2.2.1
def Txt.kr:=T.B6.2.2.2.2.1
def Txt.ky:=T.B6.2.2.2.2.2.1
def Txt.jO:=T.B6.2.2.2.2.2.2.1
def Txt.wj:=T.B6.2.2.2.2.2.2.2
def Txt.B7:Hx K mg a:=T.2.2.2.2.2.2.2.2.2.2.2.2.2.2.2.2.2.2.2.2.2.1
def Txt.wm:=T.B7.1
def Txt.wo:=T.B7.2.1
def Txt.wq:=T.B7.2.2.1
def Txt.wt:=T.B7.2.2.2.1
def Txt.wu:=T.B7.2.2.2.2.1
def Txt.wx:=T.B7.2.2.2.2.2.1
def Txt.vf:=T.B7.2.2.2.2.2.2.1
def Txt.YW:=T.B7.2.2.2.2.2.2.2
def Txt.B8:Hy K mg a:=T.2.2.2.2.2.2.2.2.2.2.2.2.2.2.2.2.2.2.2.2.2.2.1
def Txt.YX:=T.B8.1
def Txt.YY:=T.B8.2.1
def Txt.YZ:=T.B8.2.2.1
def Txt.Y0:=T.B8.2.2.2.1
def Txt.Y1:=T.B8.2.2.2.2.1
def Txt.Y2:=T.B8.2.2.2.2.2.1
def Txt.Z4:=T.B8.2.2.2.2.2.2.1
def Txt.wy:=T.B8.2.2.2.2.2.2.2
def Txt.B9:Hz K mg a:=T.2.2.2.2.2.2.2.2.2.2.2.2.2.2.2.2.2.2.2.2.2.2.2.1
def Txt.wz:=T.B9.1
def Txt.wA:=T.B9.2.1
def Txt.wB:=T.B9.2.2.1
def Txt.wC:=T.B9.2.2.2.1
def Txt.wD:=T.B9.2.2.2.2.1
def Txt.wF:=T.B9.2.2.2.2.2.1
def Txt.vg:=T.B9.2.2.2.2.2.2.1
def Txt.Y3:=T.B9.2.2.2.2.2.2.2
def Txt.B_:HB K mg a:=T.2.2.2.2.2.2.2.2.2.2.2.2.2.2.2.2.2.2.2.2.2.2.2.2.1
def Txt.Y4:=T.B_.1
def Txt.Y5:=T.B_.2.1
def Txt.Y6:=T.B_.2.2.1
def Txt.Y7:=T.B_.2.2.2.1
def Txt.Y8:=T.B_.2.2.2.2.1
def Txt.Y9:=T.B_.2.2.2.2.2.1
def Txt.Z5:=T.B_.2.2.2.2.2.2.1
def Txt.vh:=T.B_.2.2.2.2.2.2.2
def Txt.Ca:HD K mg a:=T.2.2.2.2.2.2.2.2.2.2.2.2.2.2.2.2.2.2.2.2.2.2.2.2.2.1
def Txt.vi:=T.Ca.1
def Txt.vj:=T.Ca.2.1
def Txt.vk:=T.Ca.2.2.1
def Txt.vm:=T.Ca.2.2.2.1
def Txt.vn:=T.Ca.2.2.2.2.1
def Txt.vo:=T.Ca.2.2.2.2.2.1
def Txt.kA:=T.Ca.2.2.2.2.2.2.1
def Txt.wG:=T.Ca.2.2.2.2.2.2.2
def Txt.Cb:HF K mg a:=T.2.2.2.2.2.2.2.2.2.2.2.2.2.2.2.2.2.2.2.2.2.2.2.2.2.2.1
def Txt.wH:=T.Cb.1
def Txt.wI:=T.Cb.2.1
def Txt.wJ:=T.Cb.2.2.1
def Txt.wK:=T.Cb.2.2.2.1
def Txt.wL:=T.Cb.2.2.2.2.1
def Txt.wM:=T.Cb.2.2.2.2.2.1
def Txt.vp:=T.Cb.2.2.2.2.2.2.1
def Txt.Z6:=T.Cb.2.2.2.2.2.2.2
def Txt.Cc:HI K mg a:=T.2.2.2.2.2.2.2.2.2.2.2.2.2.2.2.2.2.2.2.2.2.2.2.2.2.2.2.1
def Txt.Z7:=T.Cc.1
def Txt.Z8:=T.Cc.2.1
def Txt.Z9:=T.Cc.2.2.1
def Txt.Z_:=T.Cc.2.2.2.1
def Txt.Ya:=T.Cc.2.2.2.2.1
def Txt.Yb:=T.Cc.2.2.2.2.2.1
def Txt.wN:=T.Cc.2.2.2.2.2.2.1
def Txt.wO:=T.Cc.2.2.2.2.2.2.2
def Txt.Cd:HJ K mg a:=T.2.2.2.2.2.2.2.2.2.2.2.2.2.2.2.2.2.2.2.2.2.2.2.2.2.2.2.2.1
def Txt.wQ:=T.Cd.1
def Txt.wR:=T.Cd.2.1
def Txt.wU:=T.Cd.2.2.1
def Txt.wW:=T.Cd.2.2.2.1
def Txt.wX:=T.Cd.2.2.2.2.1
def Txt.wY:=T.Cd.2.2.2.2.2.1
def Txt.vq:=T.Cd.2.2.2.2.2.2.1
def Txt.jP:=T.Cd.2.2.2.2.2.2.2
def Txt.Ce:HK K mg a:=T.2.2.2.2.2.2.2.2.2.2.2.2.2.2.2.2.2.2.2.2.2.2.2.2.2.2.2.2.2.1
def Txt.jQ:=T.Ce.1
def Txt.jR:=T.Ce.2.1
def Txt.jS:=T.Ce.2.2.1
def Txt.jT:=T.Ce.2.2.2.1
def Txt.jU:=T.Ce.2.2.2.2.1
def Txt.jV:=T.Ce.2.2.2.2.2.1
def Txt.jt:=T.Ce.2.2.2.2.2.2.1
def Txt.JJ:=T.Ce.2.2.2.2.2.2.2
def Txt.Mn:HL K mg a:=T.2.2.2.2.2.2.2.2.2.2.2.2.2.2.2.2.2.2.2.2.2.2.2.2.2.2.2.2.2.2
def Txt.JK:=T.Mn.1
def Txt.KY:=T.Mn.2.1
def Txt.KZ:=T.Mn.2.2
end
def cls(a:Adr):Nat->Addr
 |0=>a.yX
 |1=>a.zL
 |2=>a.zx
 |3=>a.jd
 |4=>a.zM
 |5=>a.yB
 |6=>a.zN
 |7=>a.yk
 |8=>a.kO
 |9=>a.zD
 |10=>a.zO
 |11=>a.Jg
 |12=>a.Jh
 |_=>0
abbrev WW(K:OD)(a:Adr):RC:=⟨K,cls a⟩
abbrev Y_:MS:=
  (yf (sIf (yi (mOp pLt (zc 1) (zj QF (zb (zc 0) zm)))) (jH (mOp pIx (zc 0) (zc 1))) yc)
  (jH (mC (.i 0))))
def zY:List PV->Out PV:=QH false 2 Y_
abbrev wZ:MG:=
  (gNm 3)
abbrev w4:MS:=
  (eV 2 (zb (zc 3) (zb (zc 3) zm)) (mC (.i 0)))
abbrev w6:MG:=
  (gTp 3 (yG (gNm 4) (yG (gNm 5) (yG (gNm 6) cn))))
abbrev w8:MS:=
  (eV 2 (zb (zc 4) (zb (zc 5) zm)) (zj gX (zb (zc 6) (zb (nQ (zc 2) (zb (zc 4) (zb (zc 5) zm)) (zc 6)) zm))))
abbrev w_:MG:=
  (gNm 5)
abbrev jW:MS:=
  (sIf (eh (yi (gh false (zb (zc 4) (zb (zc 7) zm)) (zc 2))) (yi (gh false (zb (zc 7) (zb (zc 5) zm)) (zc 2)))) (yf (y8 8 (mOp zW (lM (zc 2) (zb (zc 4) (zb (zc 7) zm))) (lM (zc 2) (zb (zc 7) (zb (zc 5) zm)))))
  (eV 2 (zb (zc 4) (zb (zc 5) zm)) (zj gX (zb (zc 8) (zb (nQ (zc 2) (zb (zc 4) (zb (zc 5) zm)) (zc 8)) zm))))) yc)
abbrev Za:MG:=
  (gNm 4)
abbrev Zb:MS:=
  (VZ (qa (zc 0)) w_ jW)
abbrev Zc:MG:=
  (gNm 7)
abbrev Zd:MS:=
  (VZ (qa (zc 0)) Za Zb)
abbrev Vt:MS:=
  (yf (y8 2 BJ)
  (yf (VZ (qa (zc 0)) wZ w4)
  (yf (VZ (qa (zc 1)) w6 w8)
  (yf (VZ (qa (zc 0)) Zc Zd)
  (jH (zc 2))))))
def qX:List PV->Out PV:=QH true 9 Vt
abbrev Qh:MG:=
  (gTp 3 (yG (gNm 4) (yG (gNm 5) (yG (gNm 6) cn))))
abbrev jg:MS:=
  (sIf (yi (mOp (pIn false) (zc 4) (zc 2))) (yf (y8 7 (mOp zW (mOp pIx (zc 2) (zc 4)) (zc 6)))
  (sIf (mOr (yi (mOp (pIn true) (zc 5) (zc 2))) (yi (mOp pLt (zc 7) (mOp pIx (zc 2) (zc 5))))) (yf (Dl 2 (zc 5) (zc 7))
  (y8 3 (mC (.b true)))) yc)) yc)
abbrev jh:MT:=
  (yi (zc 3))
abbrev y9:MS:=
  (yf (y8 3 (mC (.b false)))
  (VZ (qa (zc 1)) Qh jg))
abbrev JR:MS:=
  (yf (y8 2 (mD1 (zc 0) (mC (.i 0))))
  (yf (y8 3 (mC (.b true)))
  (yf (a9 jh y9)
  (jH (zc 2)))))
def yW:List PV->Out PV:=QH true 8 JR
abbrev Qi:MS:=
  (jH (YC (zb (mOp pIx (zc 0) (mC (.i 3))) (zb (mOp pIx (zc 0) (mC (.i 4))) (zb (mOp pIx (zc 0) (mC (.i 0))) zm)))))
def zF:List PV->Out PV:=QH false 1 Qi
abbrev br:MS:=
  (yf (y8 1 (QM (zb (mUn (gY [(.exc 1,true),(.exc 2,false),(.exc 4,false),(.exc 5,false),(.exc 6,false),(.exc 7,false),(.exc 9,false),(.exc 10,false)]) (zc 0)) (zb (mUn (gY [(.exc 1,false),(.exc 2,true),(.exc 4,false),(.exc 5,false),(.exc 6,false),(.exc 7,false),(.exc 9,false),(.exc 10,false)]) (zc 0)) (zb (mUn (gY [(.exc 1,false),(.exc 2,false),(.exc 4,true),(.exc 5,false),(.exc 6,false),(.exc 7,false),(.exc 9,false),(.exc 10,false)]) (zc 0)) (zb (mUn (gY [(.exc 1,false),(.exc 2,false),(.exc 4,false),(.exc 5,true),(.exc 6,false),(.exc 7,false),(.exc 9,false),(.exc 10,false)]) (zc 0)) zm))))))
  (yf (y8 1 (mOp zW (zc 1) (QM (zb (mUn (gY [(.exc 1,false),(.exc 2,false),(.exc 4,false),(.exc 5,false),(.exc 6,true),(.exc 7,false),(.exc 9,false),(.exc 10,false)]) (zc 0)) (zb (mUn (gY [(.exc 1,false),(.exc 2,false),(.exc 4,false),(.exc 5,false),(.exc 6,false),(.exc 7,true),(.exc 9,false),(.exc 10,false)]) (zc 0)) (zb (mUn (gY [(.exc 1,false),(.exc 2,false),(.exc 4,false),(.exc 5,false),(.exc 6,false),(.exc 7,false),(.exc 9,true),(.exc 10,false)]) (zc 0)) (zb (mUn (gY [(.exc 1,false),(.exc 2,false),(.exc 4,false),(.exc 5,false),(.exc 6,false),(.exc 7,false),(.exc 9,false),(.exc 10,true)]) (zc 0)) zm)))))))
  (yf (y8 1 (mOp zW (zc 1) (QM (zb (mUn (gY [(.exc 1,false),(.exc 2,false),(.exc 4,false),(.exc 5,false),(.exc 6,false),(.exc 7,false),(.exc 9,false),(.exc 10,false)]) (zc 0)) (zb (mUn (gY [(.exc 1,false),(.exc 2,false),(.exc 4,false),(.exc 5,false),(.exc 6,false),(.exc 7,false),(.exc 9,false),(.exc 10,false)]) (zc 0)) zm)))))
  (yf (sIf (mOr (yi (mOp (jq true) (rW (zc 1) (mC (.b true))) (mC (.i 1)))) (mOr (Br (yi (mUn (gY [(.exc 1,true),(.exc 2,true),(.exc 4,true),(.exc 5,true),(.exc 6,true),(.exc 7,true),(.exc 9,true),(.exc 10,true)]) (zc 0)))) (mOr (yi (mOp pIx (zc 1) (mC (.i 8)))) (yi (mOp pIx (zc 1) (mC (.i 9))))))) (jH (YC (zb (mC (.s "refused otherwise")) zm))) yc)
  (yf (y8 2 (mOp pIx (QM (zb (mC (.s "BadName")) (zb (mC (.s "BadNumber")) (zb (mC (.s "TooMany")) (zb (mC (.s "Twice")) (zb (mC (.s "NoPlace")) (zb (mC (.s "NoWay")) (zb (mC (.s "Backward")) (zb (mC (.s "TooFast")) zm))))))))) (Hg (zc 1) (mC (.b true)))))
  (yf (sIf (yi (mOp (jq false) (zc 2) (mC (.s "BadNumber")))) (jH (YC (zb (zc 2) (zb (nA [2] "value" (zc 0)) zm)))) yc)
  (yf (sIf (yi (mOp (jq false) (zc 2) (mC (.s "TooMany")))) (jH (YC (zb (zc 2) (zb (nA [4] "most" (zc 0)) zm)))) yc)
  (yf (sIf (yi (mOp (jq false) (zc 2) (mC (.s "NoWay")))) (jH (YC (zb (zc 2) (zb (nA [7] "origin" (zc 0)) (zb (nA [7] "goal" (zc 0)) zm))))) yc)
  (jH (YC (zb (zc 2) (zb (nA [1,5,6,9,10] "name" (zc 0)) zm))))))))))))
def kB:List PV->Out PV:=QH false 3 br
abbrev vt:MG:=
  (gNm 2)
abbrev yC:MS:=
  (sIf (yi (mOp (pIn true) (mOp zW (zc 1) (zj DK (zb (zc 2) zm))) (zc 0))) (jH (mOp zW (zc 1) (zj DK (zb (zc 2) zm)))) yc)
abbrev JS:MS:=
  (yf (VZ (YI (zb (mOp zW (zj QF (zb (zc 0) zm)) (mC (.i 1))) zm)) vt yC)
  (jH (mC (.s ""))))
def qh:List PV->Out PV:=QH false 3 JS
abbrev ft:MS:=
  (yf (sIf (yi (mOp (jq false) (mOp zX (zc 0) (mC (.i 2))) (mC (.i 1)))) (jH (mOp zW (mOp zW (mOp VW (mC (.i 10)) (mC (.i 9))) (mC (.i 1))) (mOp zX (mOp QE (zc 0) (mC (.i 2))) (mOp VW (mC (.i 10)) (mC (.i 6)))))) yc)
  (jH (mOp gO (mUn MU (mC (.i 1))) (mOp zX (mOp QE (zc 0) (mC (.i 2))) (mOp VW (mC (.i 10)) (mC (.i 6)))))))
def kU:List PV->Out PV:=QH false 1 ft
abbrev Vu:MG:=
  (gTp 2 (yG (gNm 2) (yG (gNm 3) cn)))
abbrev jX:MS:=
  (sIf (mOr (yi (mUn (gY [(.int,false),(.str,false)]) (zc 2))) (mOr (yi (mOp (jq true) (mUn (gY [(.int,false),(.str,true)]) (zc 2)) (mUn (gY [(.int,false),(.str,true)]) (zc 3)))) (yi (mOp (jq true) (zc 2) (zc 3))))) (jH (mC (.b false))) yc)
abbrev Us:MS:=
  (yf (sIf (yi (mOp (jq true) (zj QF (zb (zc 0) zm)) (zj QF (zb (zc 1) zm)))) (jH (mC (.b false))) yc)
  (yf (VZ (DZ (zb (zc 0) (zb (zc 1) zm))) Vu jX)
  (jH (mC (.b true)))))
def qT:List PV->Out PV:=QH false 4 Us
abbrev kM:HMS:=
  (oG (hF [true] (zj jI (zb (ny [11] "order" (zc 0)) zm))))
def jc:List HV->AH->HX HV:=BH 1 kM
abbrev Vv:MG:=
  (gNm 0)
abbrev Vw:MT:=
  BB
abbrev Vx:ME:=
  (mOp (pIn false) (zc 0) (zc 1))
abbrev bt:MS:=
  (yf (y8 1 (mC (.s "abcdefghijklmnopqrstuvwxyz0123456789")))
  (jH (xC (d_ pLe pLe (mC (.i 1)) (zj QF (zb (zc 0) zm)) (mC (.i 12))) (zj Gp (zb (mLC (bc (zc 0)) [none,some 1] Vv Vw Vx) zm)))))
def kC:List PV->Out PV:=QH false 2 bt
abbrev fu:MS:=
  (jH (mOp zX (mOp Ys (mOp zX (zj zY (zb (zc 0) (zb (zc 1) zm))) (mC (.i 1000000007))) (mC (.i 48271))) (zc 2)))
def zJ:List PV->Out PV:=QH false 3 fu
abbrev bu:MS:=
  (yf (y8 6 (zj zY (zb (zc 0) (zb (zc 1) zm))))
  (yf (y8 7 (zj zY (zb (zc 0) (zb (mOp zW (zc 1) (mC (.i 1))) zm))))
  (yf (y8 8 (zj zY (zb (zc 0) (zb (mOp zW (zc 1) (mC (.i 2))) zm))))
  (yf (y8 9 (mOp pIx (zc 3) (mOp zX (zc 6) (zj QF (zb (zc 3) zm)))))
  (yf (y8 10 (mOp pIx (zc 3) (mOp zX (mOp QE (zc 6) (mC (.i 5))) (zj QF (zb (zc 3) zm)))))
  (yf (sIf (yi (gh true (zb (zc 9) (zb (zc 10) zm)) (zc 4))) (y8 10 (zc 9)) yc)
  (yf (y8 11 (mOp pIx (QM (zb (mC (.i 0)) (zb (mOp zX (zc 8) (mC (.i 60))) (zb (mOp zX (zc 7) (mC (.i 7))) (zb (mOp zX (zc 8) (mOp VW (mC (.i 10)) (mC (.i 8)))) zm))))) (mOp zX (mOp QE (zc 6) (mC (.i 25))) (mC (.i 4)))))
  (yf (y8 12 (zj IF (zb (mC (.i 1)) (zb (mOp zW (lM (zc 4) (zb (zc 9) (zb (zc 10) zm))) (zc 11)) zm))))
  (yf (y8 13 (mOp pIx (QM (zb (mOp zX (zc 7) (mC (.i 1440))) (zb (mOp zX (zc 7) (mC (.i 200))) (zb (mOp zX (zc 7) (mOp VW (mC (.i 10)) (mC (.i 9)))) zm)))) (mOp zX (mOp QE (zc 6) (mC (.i 100))) (mC (.i 3)))))
  (yf (sIf (eh (yi (mOp (jq false) (mOp zX (mOp QE (zc 6) (mC (.i 300))) (mC (.i 2))) (mC (.i 1)))) (eh (yi (mOp (Bq true) (zc 5) (mC .n))) (yi (gh false (zb (mOp pIx (zc 5) (mC (.i 2))) (zb (zc 9) zm)) (zc 4))))) (y8 13 (mOp gO (mOp zW (mOp zW (mOp pIx (zc 5) (mC (.i 4))) (lM (zc 4) (zb (mOp pIx (zc 5) (mC (.i 2))) (zb (zc 9) zm)))) (mOp zX (zc 7) (mC (.i 3)))) (mC (.i 1)))) yc)
  (yf (y8 13 (zj gX (zb (zc 13) (zb (mOp gO (mOp VW (mC (.i 10)) (mC (.i 9))) (zc 12)) zm))))
  (jH (YC (zb (zc 2) (zb (zc 9) (zb (zc 10) (zb (zc 13) (zb (mOp zW (zc 13) (zc 12)) (zb (mOp zX (mOp QE (zc 8) (mC (.i 7))) (mOp zW (mOp VW (mC (.i 10)) (mC (.i 9))) (mC (.i 1)))) zm)))))))))))))))))))
def kD:List PV->Out PV:=QH false 14 bu
abbrev vv:MG:=
  (gNm 10)
abbrev yn:MS:=
  (sIf (yi (mOp (pIn true) (zc 10) (zc 2))) (jH (YC (zb (mC (.s "NoPlace")) (zb (zc 10) zm)))) yc)
abbrev jj:MG:=
  (gNm 11)
abbrev yo:MS:=
  (sIf (mOr (yi (mOp pLt (zc 11) (mC (.i 0)))) (yi (mOp pGt (zc 11) (mOp VW (mC (.i 10)) (mC (.i 9)))))) (jH (YC (zb (mC (.s "BadNumber")) (zb (zc 11) zm)))) yc)
abbrev JT:MS:=
  (yf (Dp (gTp 6 (yG (gNm 4) (yG (gNm 5) (yG (gNm 6) (yG (gNm 7) (yG (gNm 8) (yG (gNm 9) cn))))))) (zc 0))
  (yf (sIf (Br (yi (zj kC (zb (zc 4) zm)))) (jH (YC (zb (mC (.s "BadName")) (zb (zc 4) zm)))) yc)
  (yf (sIf (yi (mOp (pIn false) (zc 4) (zc 1))) (jH (YC (zb (mC (.s "Twice")) (zb (zc 4) zm)))) yc)
  (yf (VZ (qa (QM (zb (zc 5) (zb (zc 6) zm)))) vv yn)
  (yf (VZ (qa (QM (zb (zc 7) (zb (zc 8) (zb (zc 9) zm))))) jj yo)
  (yf (sIf (yi (mOp pLe (zc 8) (zc 7))) (jH (YC (zb (mC (.s "Backward")) (zb (zc 4) zm)))) yc)
  (yf (sIf (yi (gh true (zb (zc 5) (zb (zc 6) zm)) (zc 3))) (jH (YC (zb (mC (.s "NoWay")) (zb (zc 5) (zb (zc 6) zm))))) yc)
  (yf (sIf (yi (mOp pLt (mOp gO (zc 8) (zc 7)) (lM (zc 3) (zb (zc 5) (zb (zc 6) zm))))) (jH (YC (zb (mC (.s "TooFast")) (zb (zc 4) zm)))) yc)
  (jH (YC (zb (mC (.s "taken")) zm)))))))))))
def qi:List PV->Out PV:=QH false 12 JT
abbrev JU:MG:=
  (gNm 0)
abbrev JV:MT:=
  BB
abbrev JW:ME:=
  (mOp zX (mOp zX (mOp zW (mOp Ys (zc 1) (mC (.i 16807))) (mOp Ys (mOp Ys (mC (.i 7919)) (zc 0)) (zc 0))) (mC (.i 65521))) (mC (.i 36)))
abbrev Yc:MG:=
  (gNm 0)
abbrev Yd:MT:=
  BB
abbrev Ye:ME:=
  (mOp pIx (zc 1) (zc 0))
abbrev Vy:MG:=
  (gNm 8)
abbrev Qa:MS:=
  (yf (y8 9 (mOp xR (zj jI (zb (mSl pSl (zc 5) aX (Zj (mOp zW (mC (.i 1)) (mOp zX (zc 4) (mC (.i 11)))))) zm)) (mOp Ys (mSl pSl (zc 5) (Zj (mC (.i 11))) aX) (mOp zX (zc 8) (mC (.i 2))))))
  (yf (y8 10 (mOp zX (mOp QE (zc 6) (mC (.i 4))) (zj QF (zb (zc 9) zm))))
  (yf (rn 9 (zc 10) (mOp zX (mOp zW (mOp pIx (zc 9) (zc 10)) (zc 8)) (mC (.i 36))))
  (yf (sIf (eh (yi (mOp (jq false) (mOp zX (zc 6) (mC (.i 4))) (mC (.i 1)))) (yi (mOp pLe (zc 2) (mC (.i 12))))) (y8 9 (mSl Di (zc 5) aX (Zj (mOp zW (mC (.i 1)) (zc 8))))) yc)
  (yf (sIf (eh (yi (mOp (jq false) (mOp zX (zc 6) (mC (.i 4))) (mC (.i 2)))) (yi (mOp pLe (zc 2) (mC (.i 12))))) (y8 9 (mSl Di (zc 5) aX (Zj (mOp gO (zc 2) (zc 8))))) yc)
  (rj 7 (Ma eU (mC (.s "")) (mLC (qa (zc 9)) [none,some 3] Yc Yd Ye))))))))
abbrev Ut:MS:=
  (yf (y8 3 (mC (.s "abcdefghijklmnopqrstuvwxyz0123456789")))
  (yf (y8 4 (mOp zX (zj zY (zb (zc 0) (zb (zc 1) zm))) (mC (.i 1000000007))))
  (yf (y8 5 (mLC (YI (zb (mC (.i 12)) zm)) [none,some 4] JU JV JW))
  (yf (y8 6 (zj zJ (zb (zc 0) (zb (mOp zW (zc 1) (mC (.i 1))) (zb (mC (.i 65537)) zm)))))
  (yf (y8 7 (QM zm))
  (yf (VZ (YI (zb (zc 2) zm)) Vy Qa)
  (jH (zc 7))))))))
def ju:List PV->Out PV:=QH true 11 Ut
abbrev Zt:MG:=
  (gNm 6)
abbrev Zu:MS:=
  (rj 5 (YC (zb (mOp pIx (zc 2) (zc 6)) (zb (mOp pIx (zc 2) (mOp zX (mOp zW (zc 6) (mC (.i 1))) (zc 3))) (zb (mOp zW (mC (.i 1)) (mOp zX (zj zJ (zb (zc 0) (zb (mOp zW (zc 1) (zc 6)) (zb (mC (.i 65497)) zm)))) (zc 4))) zm)))))
abbrev Wn:MG:=
  (gNm 6)
abbrev Wo:MS:=
  (yf (y8 7 (zj zY (zb (zc 0) (zb (mOp zW (zc 1) (zc 6)) zm))))
  (rj 5 (YC (zb (mOp pIx (zc 2) (mOp zX (zc 7) (zc 3))) (zb (mOp pIx (zc 2) (mOp zX (mOp QE (zc 7) (zc 3)) (zc 3))) (zb (mOp zW (mC (.i 1)) (mOp zX (mOp QE (zc 7) (mC (.i 25))) (zc 4))) zm))))))
abbrev bw:MS:=
  (yf (y8 3 (zj QF (zb (zc 2) zm)))
  (yf (y8 4 (mOp pIx (QM (zb (mC (.i 60)) (zb (mC (.i 60)) (zb (mC (.i 3)) (zb (mOp Ys (mC (.i 2)) (mOp VW (mC (.i 10)) (mC (.i 8)))) zm))))) (mOp zX (zj zJ (zb (zc 0) (zb (zc 1) (zb (mC (.i 65521)) zm)))) (mC (.i 4)))))
  (yf (y8 5 (QM zm))
  (yf (sIf (yi (mOp pGt (mOp zX (zj zJ (zb (zc 0) (zb (mOp zW (zc 1) (mC (.i 1))) (zb (mC (.i 65519)) zm)))) (mC (.i 3))) (mC (.i 0)))) (VZ (YI (zb (zc 3) zm)) Zt Zu) yc)
  (yf (VZ (YI (zb (mOp zX (zj zJ (zb (zc 0) (zb (mOp zW (zc 1) (mC (.i 2))) (zb (mC (.i 65479)) zm)))) (mC (.i 9))) zm)) Wn Wo)
  (jH (zc 5)))))))
def vS:List PV->Out PV:=QH true 8 bw
abbrev Vz:MG:=
  (gNm 6)
abbrev VA:MS:=
  (yf (y8 7 (mC .n))
  (yf (sIf (yi (mOp pGt (zc 6) (mC (.i 0)))) (y8 7 (mOp pIx (zc 5) (mOp zX (zj zJ (zb (zc 0) (zb (mOp zW (mOp zW (zc 1) (mOp Ys (mC (.i 3)) (zc 6))) (mC (.i 1))) (zb (mC (.i 65479)) zm)))) (zc 6)))) yc)
  (rj 5 (zj kD (zb (zc 0) (zb (mOp zW (zc 1) (mOp Ys (mC (.i 3)) (zc 6))) (zb (mOp pIx (zc 2) (zc 6)) (zb (zc 3) (zb (zc 4) (zb (zc 7) zm))))))))))
abbrev Uu:MS:=
  (yf (y8 5 (QM zm))
  (yf (VZ (YI (zb (zj QF (zb (zc 2) zm)) zm)) Vz VA)
  (jH (zc 5))))
def kE:List PV->Out PV:=QH true 8 Uu
abbrev Wq:MS:=
  (sIf (yi (mOp pGt (zj QF (zb (zc 0) zm)) (zc 1))) (vX 4 ["most"] (zb (zc 1) zm)) yc)
def qf:List PV->Out PV:=QH false 2 Wq
abbrev vw:MG:=
  (gNm 1)
abbrev yD:MS:=
  (sIf (yi (mOp (pIn true) (zc 1) (mC (.s "abcdefghijklmnopqrstuvwxyz0123456789")))) (vX 1 ["name"] (zb (zc 0) zm)) yc)
abbrev JX:MS:=
  (yf (sIf (mOr (yi (mOp pLt (zj QF (zb (zc 0) zm)) (mC (.i 1)))) (yi (mOp pGt (zj QF (zb (zc 0) zm)) (mC (.i 12))))) (vX 1 ["name"] (zb (zc 0) zm)) yc)
  (yf (VZ (bc (zc 0)) vw yD)
  (jH (zc 0))))
def qj:List PV->Out PV:=QH false 2 JX
abbrev VB:MS:=
  (sIf (yi (mOp (pIn true) (zc 0) (zc 1))) (vX 6 ["name"] (zb (zc 0) zm)) yc)
def yI:List PV->Out PV:=QH false 2 VB
abbrev Qj:MS:=
  (yf (sIf (mOr (yi (mOp pLt (zc 0) (zc 1))) (yi (mOp pGt (zc 0) (mC (.i 1000000000))))) (vX 2 ["value"] (zb (zc 0) zm)) yc)
  (jH (zc 0)))
def zT:List PV->Out PV:=QH false 2 Qj
abbrev jY:MG:=
  (gNm 0)
abbrev jZ:MT:=
  (yi (gh true (zb (zc 1) (zb (zc 0) zm)) (zc 2)))
abbrev j0:ME:=
  (zc 0)
abbrev Q_:MS:=
  (yf (sIf (yi (mOp (jq false) (zc 2) (QM zm))) (jH (QM zm)) yc)
  (yf (y8 5 (mOp zX (zj zJ (zb (zc 0) (zb (zc 1) (zb (mC (.i 65537)) zm)))) (zj QF (zb (zc 2) zm))))
  (yf (y8 6 (mOp zX (zj zJ (zb (zc 0) (zb (mOp zW (zc 1) (mC (.i 1))) (zb (mC (.i 65521)) zm)))) (mC (.i 12))))
  (yf (y8 7 (zj zY (zb (zc 0) (zb (mOp zW (zc 1) (mC (.i 2))) zm))))
  (yf (Dp (gTp 6 (yG (gNm 8) (yG (gNm 9) (yG (gNm 10) (yG (gNm 11) (yG (gNm 12) (yG (gNm 13) cn))))))) (mOp pIx (zc 2) (zc 5)))
  (yf (sIf (yi (mOp (jq false) (zc 6) (mC (.i 0)))) (y8 8 (mOp pIx (QM (zb (mC (.s "")) (zb (mOp zW (zc 8) (mC (.s "_"))) (zb (mOp zW (zc 8) (mC (.s "0123456789012"))) (zb (mC (.s "A")) (zb (mOp zW (mC (.s " ")) (zc 8)) zm)))))) (mOp zX (zc 7) (mC (.i 5))))) yc)
  (yf (sIf (yi (mOp (jq false) (zc 6) (mC (.i 1)))) (y8 8 (mOp pIx (mOp pIx (zc 2) (mOp zX (zc 7) (zj QF (zb (zc 2) zm)))) (mC (.i 0)))) yc)
  (yf (sIf (yi (mOp (jq false) (zc 6) (mC (.i 2)))) (y8 9 (zj qh (zb (zc 3) (zb (mC (.s "p")) zm)))) yc)
  (yf (sIf (yi (mOp (jq false) (zc 6) (mC (.i 3)))) (y8 10 (zj qh (zb (zc 3) (zb (mC (.s "q")) zm)))) yc)
  (yf (sIf (yi (mOp (jq false) (zc 6) (mC (.i 4)))) (y8 11 (zj kU (zb (zc 7) zm))) yc)
  (yf (sIf (yi (mOp (jq false) (zc 6) (mC (.i 5)))) (y8 12 (zj kU (zb (zc 7) zm))) yc)
  (yf (sIf (yi (mOp (jq false) (zc 6) (mC (.i 6)))) (y8 13 (zj kU (zb (zc 7) zm))) yc)
  (yf (sIf (yi (mOp (jq false) (zc 6) (mC (.i 7)))) (y8 12 (mOp gO (zc 11) (mOp zX (zc 7) (mC (.i 3))))) yc)
  (yf (sIf (eh (yi (mOp (jq false) (zc 6) (mC (.i 8)))) (yi (gh false (zb (zc 9) (zb (zc 10) zm)) (zc 4)))) (y8 12 (mOp gO (mOp zW (zc 11) (lM (zc 4) (zb (zc 9) (zb (zc 10) zm)))) (mC (.i 1)))) yc)
  (yf (sIf (yi (mOp (jq false) (zc 6) (mC (.i 9)))) (y8 10 (mOp pIx (zc 3) (mOp zX (zc 7) (zj QF (zb (zc 3) zm))))) yc)
  (yf (sIf (yi (mOp (jq false) (zc 6) (mC (.i 10)))) (y8 9 (mOp pIx (zc 3) (mOp zX (zc 7) (zj QF (zb (zc 3) zm))))) yc)
  (yf (sIf (yi (mOp (jq false) (zc 6) (mC (.i 11)))) (y8 10 (mOp pIx (mOp zW (mLC (qa (zc 3)) [none,some 9,some 4] jY jZ j0) (QM (zb (zc 10) zm))) (mC (.i 0)))) yc)
  (jH (mOp zW (mOp zW (mSl pSl (zc 2) aX (Zj (zc 5))) (QM (zb (YC (zb (zc 8) (zb (zc 9) (zb (zc 10) (zb (zc 11) (zb (zc 12) (zb (zc 13) zm))))))) zm))) (mSl pSl (zc 2) (Zj (mOp zW (zc 5) (mC (.i 1)))) aX))))))))))))))))))))
def jA:List PV->Out PV:=QH false 14 Q_
abbrev K0:MG:=
  (gNm 4)
abbrev qU:MS:=
  (yf (y8 5 (zj qi (zb (zc 4) (zb (zc 3) (zb (zc 1) (zb (zc 2) zm))))))
  (yf (sIf (yi (mOp (jq true) (zc 5) (YC (zb (mC (.s "taken")) zm)))) (jH (zc 5)) yc)
  (rj 3 (mOp pIx (zc 4) (mC (.i 0))))))
abbrev fB:MS:=
  (yf (sIf (yi (mOp pGt (zj QF (zb (zc 0) zm)) (mC (.i 40)))) (jH (YC (zb (mC (.s "TooMany")) (zb (mC (.i 40)) zm)))) yc)
  (yf (y8 3 (QM zm))
  (yf (VZ (qa (zc 0)) K0 qU)
  (jH (YC (zb (mC (.s "taken")) zm))))))
def Ze:List PV->Out PV:=QH false 6 fB
abbrev Zv:MS:=
  (yf (ZQ (zj qj (zb (zc 0) zm)))
  (yf (sIf (yi (mOp (pIn false) (zc 0) (zc 1))) (vX 5 ["name"] (zb (zc 0) zm)) yc)
  (jH (zc 0))))
def yh:List PV->Out PV:=QH false 2 Zv
abbrev JY:MG:=
  (gTp 3 (yG (gNm 2) (yG (gNm 3) (yG (gNm 4) cn))))
abbrev kN:MS:=
  (yf (ZQ (zj yI (zb (zc 2) (zb (zc 0) zm))))
  (yf (ZQ (zj yI (zb (zc 3) (zb (zc 0) zm))))
  (ZQ (zj zT (zb (zc 4) (zb (mC (.i 1)) zm))))))
abbrev Wr:MS:=
  (VZ (qa (zc 1)) JY kN)
def jB:List PV->Out PV:=QH false 5 Wr
abbrev JZ:MS:=
  (yf (ZQ (zj yI (zb (zc 1) (zb (ny [12] "places" (zc 0)) zm))))
  (yf (ZQ (zj yI (zb (zc 2) (zb (ny [12] "places" (zc 0)) zm))))
  (jH (IJ (mOp pIx (ny [12] "lengths" (zc 0)) (zc 1)) (zc 2)))))
def yJ:List PV->Out PV:=QH false 3 JZ
abbrev Qk:MG:=
  (gNm 2)
abbrev jm:MS:=
  (yf (ZQ (zj yh (zb (zc 2) (zb (zc 1) zm))))
  (Dl 1 (zc 2) (mC (.b true))))
abbrev J3:MS:=
  (yf (y8 1 xS)
  (VZ (qa (zc 0)) Qk jm))
def qJ:List PV->Out PV:=QH false 3 J3
abbrev Ja:MS:=
  (yf (ZQ (zj yh (zb (mOp pIx (zc 1) (mC (.i 0))) (zb (zc 2) zm))))
  (yf (y8 3 (nB [(12,yJ)] "length" (zc 0) (zb (mOp pIx (zc 1) (mC (.i 1))) (zb (mOp pIx (zc 1) (mC (.i 2))) zm))))
  (yf (ZQ (zj zT (zb (mOp pIx (zc 1) (mC (.i 3))) (zb (mC (.i 0)) zm))))
  (yf (ZQ (zj zT (zb (mOp pIx (zc 1) (mC (.i 4))) (zb (mC (.i 0)) zm))))
  (yf (ZQ (zj zT (zb (mOp pIx (zc 1) (mC (.i 5))) (zb (mC (.i 0)) zm))))
  (yf (sIf (yi (mOp pLe (mOp pIx (zc 1) (mC (.i 4))) (mOp pIx (zc 1) (mC (.i 3))))) (vX 9 ["name"] (zb (mOp pIx (zc 1) (mC (.i 0))) zm)) yc)
  (yf (sIf (yi (mOp (Bq false) (zc 3) (mC .n))) (vX 7 ["origin","goal"] (zb (mOp pIx (zc 1) (mC (.i 1))) (zb (mOp pIx (zc 1) (mC (.i 2))) zm))) yc)
  (sIf (yi (mOp pLt (mOp gO (mOp pIx (zc 1) (mC (.i 4))) (mOp pIx (zc 1) (mC (.i 3)))) (zc 3))) (vX 10 ["name"] (zb (mOp pIx (zc 1) (mC (.i 0))) zm)) yc))))))))
def jC:List PV->Out PV:=QH false 4 Ja
abbrev Jb:MG:=
  (gNm 0)
abbrev Jc:MT:=
  BB
abbrev Jd:ME:=
  (YC (zb (zc 0) (zb (zj yW (zb (zc 0) (zb (zc 1) zm))) zm)))
abbrev Zw:MS:=
  (yf (ZQ (zj qf (zb (zc 1) (zb (mC (.i 12)) zm))))
  (yf (ZQ (zj qf (zb (zc 2) (zb (mC (.i 60)) zm))))
  (yf (ZQ (zj qJ (zb (zc 1) zm)))
  (yf (ZQ (zj jB (zb (zc 1) (zb (zc 2) zm))))
  (yf (gZ 0 [12] "places" (zj jI (zb (zc 1) zm)))
  (yf (gZ 0 [12] "ways" (zj jI (zb (zc 2) zm)))
  (gZ 0 [12] "lengths" (zj eN (zb (mLC (qa (zc 1)) [none,some 2] Jb Jc Jd) zm)))))))))
def qV:List PV->Out PV:=LV 12 2 Zw
abbrev yj:HMG:=
  (hgN 3)
abbrev zU:HMS:=
  (K5 (XW (hP [true,true,false,true] (zj jC (zb (zc 1) (zb (zc 3) (zb (ny [11] "by_name" (zc 0)) zm))))))
  (GZ (GU [11] "by_name" (JC 0)) (hP [false,false,false,true] (mOp pIx (zc 3) (mC (.i 0)))) (JC 3)))
abbrev j3:MG:=
  (gNm 0)
abbrev j4:MT:=
  BB
abbrev j5:ME:=
  (mOp pIx (zc 0) (mC (.i 0)))
abbrev vN:HMS:=
  (K5 (XW (hP [false,false,true] (zj qf (zb (zc 2) (zb (mC (.i 40)) zm)))))
  (K5 (U2 [11] "roads" (JC 0) (JC 1))
  (K5 (U2 [11] "by_name" (JC 0) (hF [] xS))
  (K5 (Ad (JC 2) yj zU)
  (U2 [11] "order" (JC 0) (hF [false,false,true] (mLC (qa (e9 zF (zb (zc 2) zm))) [none] j3 j4 j5)))))))
def yK:List HV->AH->HX HV:=BH 4 vN
abbrev jD:HMS:=
  (K5 (Hh [1,2,4,5,6,7,9,10] (XW (EY 11 yK (jJ (JC 0) (jJ (JC 1) gf)))) 2 (oG (hP [false,false,true] (a_ kB (zb (zc 2) zm)))))
  (oG (hP [] (YC (zb (mC (.s "taken")) zm)))))
def jE:List HV->AH->HX HV:=BH 3 jD
abbrev JL:HMG:=
  (hgN 7)
abbrev Zy:HMS:=
  (eS 6 (hP [true,true,false,true,false,false,true,true] (zj jA (zb (zc 0) (zb (mOp zW (mC (.i 49)) (mOp Ys (mC (.i 3)) (zc 7))) (zb (zc 6) (zb (zc 1) (zb (zc 3) zm))))))))
abbrev l4:HMS:=
  (K5 (eS 1 (hP [true] (zj ju (zb (zc 0) (zb (mC (.i 0)) (zb (mOp zW (mC (.i 2)) (mOp zX (zj zJ (zb (zc 0) (zb (mC (.i 2)) (zb (mC (.i 65449)) zm)))) (mC (.i 4)))) zm))))))
  (K5 (eS 2 (hP [true,true] (zj vS (zb (zc 0) (zb (mC (.i 3)) (zb (zc 1) zm))))))
  (K5 (eS 3 (hP [false,true,true] (zj qX (zb (zc 1) (zb (zc 2) zm)))))
  (K5 (eS 4 (hP [true] (zj ju (zb (zc 0) (zb (mC (.i 11)) (zb (mOp zX (zj zJ (zb (zc 0) (zb (mC (.i 58)) (zb (mC (.i 65521)) zm)))) (mC (.i 13))) zm))))))
  (K5 (eS 5 (hP [true,true,false,true,true] (zj kE (zb (zc 0) (zb (mC (.i 13)) (zb (zc 4) (zb (zc 1) (zb (zc 3) zm))))))))
  (K5 (eS 6 (hP [false,false,false,false,false,true] (zj jI (zb (zc 5) zm))))
  (K5 (Ab [true] (YI (zb (mOp zX (zj zJ (zb (zc 0) (zb (mC (.i 59)) (zb (mC (.i 65537)) zm)))) (mC (.i 4))) zm)) JL Zy)
  (K5 (hIf (hPT [true,false,false,false,false,false,true] (eh (yi (mOp (jq false) (mOp zX (zj zJ (zb (zc 0) (zb (mC (.i 60)) (zb (mC (.i 65519)) zm)))) (mC (.i 7))) (mC (.i 1)))) (yi (mOp (jq true) (zc 6) (QM zm))))) (eS 6 (hP [false,false,false,false,false,false,true] (mSl pSl (mOp Ys (zc 6) (mC (.i 41))) aX (Zj (mC (.i 41)))))) nK)
  (K5 (eS 8 (hP [false,true,true] (zj qV (zb (zj jI (zb (zc 1) zm)) (zb (zj jI (zb (zc 2) zm)) zm)))))
  (K5 (eS 9 (hF [false,false,false,false,false,false,true] (zj jI (zb (zc 6) zm))))
  (K5 (eS 10 (eR jE (jJ (JC 8) (jJ (JC 9) gf))))
  (K5 (hIf (hPT [false,true,false,true,false,false,true,false,false,true,true] (mOr (Br (yi (zj qT (zb (zc 10) (zb (zj Ze (zb (zc 6) (zb (zc 1) (zb (zc 3) zm)))) zm))))) (mOr (yi (mOp (jq true) (zc 9) (zc 6))) (yi (mOp (jq true) (mC (.i 40)) (mC (.i 40))))))) (oG (hP [] (mC (.b false)))) nK)
  (K5 (hIf (DE (hOp (jq true) (eR jE (jJ (JC 8) (jJ (hF [false,false,false,false,false,true] (zj jI (zb (zc 5) zm))) gf))) (hP [] (YC (zb (mC (.s "taken")) zm))))) (oG (hP [] (mC (.b false)))) nK)
  (oG (hOp (jq false) (fc (jJ (fe [(11,jc)] "names" (EX 11 yK (jJ (JC 8) (jJ (hF [false,false,false,false,false,true] (zj jI (zb (zc 5) zm))) gf)))) gf)) (hF [false,false,false,false,true] (zj bp (zb (zc 4) zm))))))))))))))))))
def Cf:List HV->AH->HX HV:=BH 11 l4
def qC(T:Txt K mg a):qO P w K mg base (CXe P w) 1 a.zY a.VH ["_law_script","_law_k"] (lsp (WW K a) false [true,true] zY):=
 ym (ms:=Y_) (S':=[1,1]) (Sb:=[]) (Sc:=[]) T.yH.F U3 rfl rfl rfl (by decide) λcdv A outer s H E hr=>
  (zf (yU (qM gw gP (ev 1) (j9 rfl T.Yy (za (ev 0) ze)) (jw _))
    (zk (yL (ix hr (ev 0) (ev 1))))
    ya)
   (zk (yL ei)))
def c6(T:Txt K mg a):qO P w K mg base (CXe P w) 1 a.qX a.VI ["_law_names_here","_law_ways_here"] (lsp (WW K a) true [true,true] qX):=
 ym (ms:=Vt) (S':=[1,1,0,0,0,0,0,0,0]) (Sb:=[]) (Sc:=[]) T.qW.F yt rfl rfl rfl (by decide) λcdv A outer s H E hr=>
  (zf (ZR (i:=2) yt.nd rfl (.inl rfl) Ae)
   (zf (ke (z0 ⟨rfl,rfl⟩) rfl (QQ (Ve (pv 0))) (gn 3 yt.nd)
    (zk (ib (ja hr) (pv 2) (za (zr (pv 3)) (za (zr (pv 3)) ze)) ei)))
   (zf (ke (z0 ⟨rfl,rfl⟩) rfl (QQ (Ve (pv 1))) (a8 (n:=3) rfl (yZ (gn 4 yt.nd) (yZ (gn 5 yt.nd) (yZ (gn 6 yt.nd) aZ qQ) qQ) qQ))
    (zk (ib (ja hr) (pv 2) (za (zr (pv 4)) (za (zr (pv 5)) ze)) (p8 rfl rfl T.s_ (za (ev 6) (za (sI (ja hr) (ev 2) (za (zr (pv 4)) (za (zr (pv 5)) ze)) (ev 6) ⟨rfl,rfl,rfl,rfl⟩) ze))))))
   (zf (ke (z0 ⟨rfl,rfl⟩) rfl (QQ (Ve (pv 0))) (gn 7 yt.nd)
    (zk (ke (z0 ⟨rfl,rfl⟩) rfl (QQ (Ve (pv 0))) (gn 4 yt.nd)
    (zk (ke (z0 ⟨rfl,rfl⟩) rfl (QQ (Ve (pv 0))) (gn 5 yt.nd)
    (zk (yU (TWM.tm (XB (lN (ja hr) (za (zr (pv 4)) (za (zr (pv 7)) ze)) (ev 2)) (VX (lN (ja hr) (za (zr (pv 7)) (za (zr (pv 5)) ze)) (ev 2)))))
    (zf (se 8 yt.nd (zt zQ zR (bf (ja hr) (ev 2) (za (zr (pv 4)) (za (zr (pv 7)) ze))) (bf (ja hr) (ev 2) (za (zr (pv 7)) (za (zr (pv 5)) ze)))))
   (zk (ib (ja hr) (pv 2) (za (zr (pv 4)) (za (zr (pv 5)) ze)) (p8 rfl rfl T.s_ (za (ev 8) (za (sI (ja hr) (ev 2) (za (zr (pv 4)) (za (zr (pv 5)) ze)) (ev 8) ⟨rfl,rfl,rfl,rfl⟩) ze))))))
    ya)))))))
   (zk (XI (pv 2)))))))
def ao(T:Txt K mg a):qO P w K mg base (CXe P w) 1 a.Yf a.Yj ["self","most"] (xQ a.zM ["most"]):=by
 refine T.U6.okX X6 (λvs H Q E h=>by obtain⟨e,us,rfl,hl,_⟩:=h;rw[N9,hl];rfl) λcdv A outer s H vs Q E hr h=>?_;obtain⟨e,us,rfl,hl,he,k⟩:=h
 match us,hl with
 |[v],_=>exact⟨_,ZK (YF (pv 0) (pv 1) rfl),_,rfl,_,rfl,e,a.zM,.none,rfl,T.qc,T.Uh,.inl ⟨he,k⟩⟩
def J6(T:Txt K mg a):qO P w K mg base (CXe P w) 1 a.Yg a.Yk ["self","name"] (xQ a.zL ["name"]):=by
 refine T.U8.okX X7 (λvs H Q E h=>by obtain⟨e,us,rfl,hl,_⟩:=h;rw[N9,hl];rfl) λcdv A outer s H vs Q E hr h=>?_;obtain⟨e,us,rfl,hl,he,k⟩:=h
 match us,hl with
 |[v],_=>exact⟨_,ZK (YF (pv 0) (pv 1) rfl),_,rfl,_,rfl,e,a.zL,.none,rfl,T.y3,T.Ue,.inl ⟨he,k⟩⟩
def fC(T:Txt K mg a):qO P w K mg base (CXe P w) 1 a.Ji a.Jl ["self","name"] (xQ a.yB ["name"]):=by
 refine T.ff.okX cM (λvs H Q E h=>by obtain⟨e,us,rfl,hl,_⟩:=h;rw[N9,hl];rfl) λcdv A outer s H vs Q E hr h=>?_;obtain⟨e,us,rfl,hl,he,k⟩:=h
 match us,hl with
 |[v],_=>exact⟨_,ZK (YF (pv 0) (pv 1) rfl),_,rfl,_,rfl,e,a.yB,.none,rfl,T.jL,T.cV,.inl ⟨he,k⟩⟩
def aq(T:Txt K mg a):qO P w K mg base (CXe P w) 1 a.Yh a.Yl ["self","name"] (xQ a.zN ["name"]):=by
 refine T.U9.okX X8 (λvs H Q E h=>by obtain⟨e,us,rfl,hl,_⟩:=h;rw[N9,hl];rfl) λcdv A outer s H vs Q E hr h=>?_;obtain⟨e,us,rfl,hl,he,k⟩:=h
 match us,hl with
 |[v],_=>exact⟨_,ZK (YF (pv 0) (pv 1) rfl),_,rfl,_,rfl,e,a.zN,.none,rfl,T.qd,T.Uj,.inl ⟨he,k⟩⟩
def WX(T:Txt K mg a):qO P w K mg base (CXe P w) 1 a.vy a.vz ["self","value"] (xQ a.zx ["value"]):=by
 refine T.WR.okX V5 (λvs H Q E h=>by obtain⟨e,us,rfl,hl,_⟩:=h;rw[N9,hl];rfl) λcdv A outer s H vs Q E hr h=>?_;obtain⟨e,us,rfl,hl,he,k⟩:=h
 match us,hl with
 |[v],_=>exact⟨_,ZK (YF (pv 0) (pv 1) rfl),_,rfl,_,rfl,e,a.zx,.none,rfl,T.yA,T.Vr,.inl ⟨he,k⟩⟩
def ar(T:Txt K mg a):qO P w K mg base (CXe P w) 1 a.yW a.Kb ["origin","ways"] (lsp (WW K a) true [true,true] yW):=
 ym (ms:=JR) (S':=[1,1,0,0,0,0,0,0]) (Sb:=[]) (Sc:=[]) T.qI.F yy rfl rfl rfl (by decide) λcdv A outer s H E hr=>
  (zf (ZR (i:=2) yy.nd rfl (.inl rfl) (L_ (ev 0) ei))
   (zf (se 3 yy.nd (Xy Xq))
   (zf (xP (z0 ⟨rfl,rfl⟩) (XF (ev 3))
    (zf (se 3 yy.nd (Xy Xq))
   (zk (ke (z0 ⟨rfl,rfl⟩) rfl (QQ (Ve (pv 1))) (a8 (n:=3) rfl (yZ (gn 4 yy.nd) (yZ (gn 5 yy.nd) (yZ (gn 6 yy.nd) aZ qQ) qQ) qQ))
    (zk (yU (C8 (ja hr) (ev 4) (ev 2))
    (zf (se 7 yy.nd (zt zQ zR (ix hr (ev 2) (ev 4)) (ev 6)))
   (zk (yU (TWM.tm (XE (Vb (ja hr) (ev 5) (ev 2)) (XA (qM gw gP (ev 7) (ix hr (ev 2) (ev 5)) (jw _)))))
    (zf (By (ja hr) (pv 2) (ev 5) (zr (pv 7)))
   (zk (se 3 yy.nd (Xy Xq))))
    ya)))
    ya))))))
   (zk (XI (pv 2))))))
def Uv(T:Txt K mg a):qO P w K mg base (CXe P w) 1 a.Zg a.Zh ["self","name"] (xQ a.zD ["name"]):=by
 refine T.Uc.okX WQ (λvs H Q E h=>by obtain⟨e,us,rfl,hl,_⟩:=h;rw[N9,hl];rfl) λcdv A outer s H vs Q E hr h=>?_;obtain⟨e,us,rfl,hl,he,k⟩:=h
 match us,hl with
 |[v],_=>exact⟨_,ZK (YF (pv 0) (pv 1) rfl),_,rfl,_,rfl,e,a.zD,.none,rfl,T.yR,T.WU,.inl ⟨he,k⟩⟩
def fD(T:Txt K mg a):qO P w K mg base (CXe P w) 1 a.Jj a.Jn ["self","origin","goal"] (xQ a.yk ["origin","goal"]):=by
 refine T.fj.okX cO (λvs H Q E h=>by obtain⟨e,us,rfl,hl,_⟩:=h;rw[N9,hl];rfl) λcdv A outer s H vs Q E hr h=>?_;obtain⟨e,us,rfl,hl,he,k⟩:=h
 match us,hl with
 |[v,u],_=>
  have ne:∀{dx},H dx=none->dx≠e:=λh z=>by rw[z,he]at h;cases h
  exact⟨_,bN (YF (pv 0) (pv 1) rfl) (ZK (YF (pv 0) (pv 2) rfl)),_,rfl,_,rfl,e,a.yk,.none,rfl,T.q_,T.Ul,.inl ⟨he,λdx hd=>⟨_,rfl,_,rfl,e,a.yk,.none,rfl,T.q_,T.cX,.inr ⟨dx,[(("origin":Str),v)],by rw[zi],by rw[zg (ne hd),zi],ne hd,(show 1<1000 by decide),by
   have q:=k dx hd;have e1:VU ("goal":Str) u [(("origin":Str),v)]=[(("origin":Str),v),(("goal":Str),u)]:=rfl;rw[e1];have e2:∀{A B C:HO},upd (upd (upd H dx A) e B) dx C=upd (upd H dx C) e B:=λ{A B C}=>funext λb=>by
    by_cases hb:b=dx
    .subst hb;rw[zi,zg (ne hd),zi]
    .rw[zg hb];by_cases hb2:b=e
     .subst hb2;rw[zi,zi]
     .rw[zg hb2,zg hb2,zg hb,zg hb]
   rw[e2];exact q⟩⟩⟩⟩
def au(T:Txt K mg a):qO P w K mg base (CXe P w) 1 a.Yi a.Yn ["self","name"] (xQ a.zO ["name"]):=by
 refine T.af.okX X_ (λvs H Q E h=>by obtain⟨e,us,rfl,hl,_⟩:=h;rw[N9,hl];rfl) λcdv A outer s H vs Q E hr h=>?_;obtain⟨e,us,rfl,hl,he,k⟩:=h
 match us,hl with
 |[v],_=>exact⟨_,ZK (YF (pv 0) (pv 1) rfl),_,rfl,_,rfl,e,a.zO,.none,rfl,T.qe,T.Uo,.inl ⟨he,k⟩⟩
def WY(T:Txt K mg a):qO P w K mg base (CXe P w) 1 a.zF a.Qm ["trip"] (lsp (WW K a) false [true] zF):=
 ym (ms:=Qi) (S':=[1]) (Sb:=[]) (Sc:=[]) T.qG.F V7 rfl rfl rfl (by decide) λcdv A outer s H E hr=>
  (zk (yL (qN (za (ix hr (ev 0) (qx (z_ (v:=.int 3) rfl T.V8 ⟨_,rfl⟩))) (za (ix hr (ev 0) (qx (z_ (v:=.int 4) rfl T.JF ⟨_,rfl⟩))) (za (ix hr (ev 0) (qx (z_ (v:=.int 0) rfl T.Wl ⟨_,rfl⟩))) ze))))))
def ir(T:Txt K mg a):nj P w K mg base 1 a.kB a.bF ["_law_e"] (lsp (WW K a) false [true] kB):=
 rT (ms:=br) (S':=[1,0,0]) (Sb:=[]) (Sc:=[]) T.vR.F v8 rfl rfl rfl (by decide) λcdv A outer s H E hr=>
  (zf (se 1 v8.nd (FM.em (jG (za (Zm rfl T.z9 (ev 0) (z_ rfl T.Q8 (v:=.ref _) rfl) rfl ⟨⟨⟨T.y3,T.qt⟩,T.v_⟩,⟨⟨⟨T.yA,T.yO⟩,T.wa⟩,⟨⟨⟨T.qc,T.qu⟩,T.wb⟩,⟨⟨⟨T.jL,T.jM⟩,T.wc⟩,⟨⟨⟨T.qd,T.qv⟩,T.wd⟩,⟨⟨⟨T.q_,T.jN⟩,T.we⟩,⟨⟨⟨T.yR,T.y4⟩,T.wg⟩,⟨⟨⟨T.qe,T.qw⟩,T.ve⟩,trivial⟩⟩⟩⟩⟩⟩⟩⟩) (za (Zm rfl T.z9 (ev 0) (z_ rfl T.YR (v:=.ref _) rfl) rfl ⟨⟨⟨T.y3,T.qt⟩,T.kj⟩,⟨⟨⟨T.yA,T.yO⟩,T.kl⟩,⟨⟨⟨T.qc,T.qu⟩,T.km⟩,⟨⟨⟨T.jL,T.jM⟩,T.kn⟩,⟨⟨⟨T.qd,T.qv⟩,T.ko⟩,⟨⟨⟨T.q_,T.jN⟩,T.kr⟩,⟨⟨⟨T.yR,T.y4⟩,T.ky⟩,⟨⟨⟨T.qe,T.qw⟩,T.jO⟩,trivial⟩⟩⟩⟩⟩⟩⟩⟩) (za (Zm rfl T.z9 (ev 0) (z_ rfl T.Vm (v:=.ref _) rfl) rfl ⟨⟨⟨T.y3,T.qt⟩,T.wj⟩,⟨⟨⟨T.yA,T.yO⟩,T.wm⟩,⟨⟨⟨T.qc,T.qu⟩,T.wo⟩,⟨⟨⟨T.jL,T.jM⟩,T.wq⟩,⟨⟨⟨T.qd,T.qv⟩,T.wt⟩,⟨⟨⟨T.q_,T.jN⟩,T.wu⟩,⟨⟨⟨T.yR,T.y4⟩,T.wx⟩,⟨⟨⟨T.qe,T.qw⟩,T.vf⟩,trivial⟩⟩⟩⟩⟩⟩⟩⟩) (za (Zm rfl T.z9 (ev 0) (z_ rfl T.cP (v:=.ref _) rfl) rfl ⟨⟨⟨T.y3,T.qt⟩,T.YW⟩,⟨⟨⟨T.yA,T.yO⟩,T.YX⟩,⟨⟨⟨T.qc,T.qu⟩,T.YY⟩,⟨⟨⟨T.jL,T.jM⟩,T.YZ⟩,⟨⟨⟨T.qd,T.qv⟩,T.Y0⟩,⟨⟨⟨T.q_,T.jN⟩,T.Y1⟩,⟨⟨⟨T.yR,T.y4⟩,T.Y2⟩,⟨⟨⟨T.qe,T.qw⟩,T.Z4⟩,trivial⟩⟩⟩⟩⟩⟩⟩⟩) ze)))))))
   (zf (se 1 v8.nd (zt zQ zR (ev 1) (FM.em (jG (za (Zm rfl T.z9 (ev 0) (z_ rfl T.Vn (v:=.ref _) rfl) rfl ⟨⟨⟨T.y3,T.qt⟩,T.wy⟩,⟨⟨⟨T.yA,T.yO⟩,T.wz⟩,⟨⟨⟨T.qc,T.qu⟩,T.wA⟩,⟨⟨⟨T.jL,T.jM⟩,T.wB⟩,⟨⟨⟨T.qd,T.qv⟩,T.wC⟩,⟨⟨⟨T.q_,T.jN⟩,T.wD⟩,⟨⟨⟨T.yR,T.y4⟩,T.wF⟩,⟨⟨⟨T.qe,T.qw⟩,T.vg⟩,trivial⟩⟩⟩⟩⟩⟩⟩⟩) (za (Zm rfl T.z9 (ev 0) (z_ rfl T.cQ (v:=.ref _) rfl) rfl ⟨⟨⟨T.y3,T.qt⟩,T.Y3⟩,⟨⟨⟨T.yA,T.yO⟩,T.Y4⟩,⟨⟨⟨T.qc,T.qu⟩,T.Y5⟩,⟨⟨⟨T.jL,T.jM⟩,T.Y6⟩,⟨⟨⟨T.qd,T.qv⟩,T.Y7⟩,⟨⟨⟨T.q_,T.jN⟩,T.Y8⟩,⟨⟨⟨T.yR,T.y4⟩,T.Y9⟩,⟨⟨⟨T.qe,T.qw⟩,T.Z5⟩,trivial⟩⟩⟩⟩⟩⟩⟩⟩) (za (Zm rfl T.z9 (ev 0) (z_ rfl T.JG (v:=.ref _) rfl) rfl ⟨⟨⟨T.y3,T.qt⟩,T.vh⟩,⟨⟨⟨T.yA,T.yO⟩,T.vi⟩,⟨⟨⟨T.qc,T.qu⟩,T.vj⟩,⟨⟨⟨T.jL,T.jM⟩,T.vk⟩,⟨⟨⟨T.qd,T.qv⟩,T.vm⟩,⟨⟨⟨T.q_,T.jN⟩,T.vn⟩,⟨⟨⟨T.yR,T.y4⟩,T.vo⟩,⟨⟨⟨T.qe,T.qw⟩,T.kA⟩,trivial⟩⟩⟩⟩⟩⟩⟩⟩) (za (Zm rfl T.z9 (ev 0) (z_ rfl T.Vo (v:=.ref _) rfl) rfl ⟨⟨⟨T.y3,T.qt⟩,T.wG⟩,⟨⟨⟨T.yA,T.yO⟩,T.wH⟩,⟨⟨⟨T.qc,T.qu⟩,T.wI⟩,⟨⟨⟨T.jL,T.jM⟩,T.wJ⟩,⟨⟨⟨T.qd,T.qv⟩,T.wK⟩,⟨⟨⟨T.q_,T.jN⟩,T.wL⟩,⟨⟨⟨T.yR,T.y4⟩,T.wM⟩,⟨⟨⟨T.qe,T.qw⟩,T.vp⟩,trivial⟩⟩⟩⟩⟩⟩⟩⟩) ze))))))))
   (zf (se 1 v8.nd (zt zQ zR (ev 1) (FM.em (jG (za (Zm rfl T.z9 (ev 0) (z_ rfl T.cR (v:=.ref _) rfl) rfl ⟨⟨⟨T.y3,T.qt⟩,T.Z6⟩,⟨⟨⟨T.yA,T.yO⟩,T.Z7⟩,⟨⟨⟨T.qc,T.qu⟩,T.Z8⟩,⟨⟨⟨T.jL,T.jM⟩,T.Z9⟩,⟨⟨⟨T.qd,T.qv⟩,T.Z_⟩,⟨⟨⟨T.q_,T.jN⟩,T.Ya⟩,⟨⟨⟨T.yR,T.y4⟩,T.Yb⟩,⟨⟨⟨T.qe,T.qw⟩,T.wN⟩,trivial⟩⟩⟩⟩⟩⟩⟩⟩) (za (Zm rfl T.z9 (ev 0) (z_ rfl T.Ub (v:=.ref _) rfl) rfl ⟨⟨⟨T.y3,T.qt⟩,T.wO⟩,⟨⟨⟨T.yA,T.yO⟩,T.wQ⟩,⟨⟨⟨T.qc,T.qu⟩,T.wR⟩,⟨⟨⟨T.jL,T.jM⟩,T.wU⟩,⟨⟨⟨T.qd,T.qv⟩,T.wW⟩,⟨⟨⟨T.q_,T.jN⟩,T.wX⟩,⟨⟨⟨T.yR,T.y4⟩,T.wY⟩,⟨⟨⟨T.qe,T.qw⟩,T.vq⟩,trivial⟩⟩⟩⟩⟩⟩⟩⟩) ze))))))
   (zf (yU (TWM.tm (XE (ej hr.units (rX (ev 1) (Xy Xq)) ei) (XE (pT (XF (Zm rfl T.z9 (ev 0) (bM rfl T.Q9 PyProof.Rows.Boot.«ValueError» (v:=.ty "ValueError") rfl) rfl ⟨⟨⟨T.y3,T.qt⟩,T.jP⟩,⟨⟨⟨T.yA,T.yO⟩,T.jQ⟩,⟨⟨⟨T.qc,T.qu⟩,T.jR⟩,⟨⟨⟨T.jL,T.jM⟩,T.jS⟩,⟨⟨⟨T.qd,T.qv⟩,T.jT⟩,⟨⟨⟨T.q_,T.jN⟩,T.jU⟩,⟨⟨⟨T.yR,T.y4⟩,T.jV⟩,⟨⟨⟨T.qe,T.qw⟩,T.jt⟩,trivial⟩⟩⟩⟩⟩⟩⟩⟩))) (XE (XF (xD (sS hr) (ev 1) ei)) (XA (XF (xD (sS hr) (ev 1) ei)))))))
    (zk (yL (qN (za (yE yF) ze))))
    ya)
   (zf (se 2 v8.nd (xD (sS hr) (FM.em (jG (za (yE yF) (za (yE yF) (za (yE yF) (za (yE yF) (za (yE yF) (za (yE yF) (za (yE yF) (za (yE yF) ze)))))))))) (sO (ev 1) (Xy Xq))))
   (zf (yU (ZP hr.units (ev 2) (yE yF))
    (zk (yL (qN (za (zr (pv 2)) (za (XH (ev 0) (fa ⟨T.yA,T.Vs⟩ fz)) ze)))))
    ya)
   (zf (yU (ZP hr.units (ev 2) (yE yF))
    (zk (yL (qN (za (zr (pv 2)) (za (XH (ev 0) (fa ⟨T.qc,T.Ui⟩ fz)) ze)))))
    ya)
   (zf (yU (ZP hr.units (ev 2) (yE yF))
    (zk (yL (qN (za (zr (pv 2)) (za (XH (ev 0) (fa ⟨T.q_,T.Um⟩ fz)) (za (XH (ev 0) (fa ⟨T.q_,T.cY⟩ fz)) ze))))))
    ya)
   (zk (yL (qN (za (zr (pv 2)) (za (XH (ev 0) (fa ⟨T.y3,T.Ug⟩ (fa ⟨T.jL,T.cW⟩ (fa ⟨T.qd,T.Uk⟩ (fa ⟨T.yR,T.WV⟩ (fa ⟨T.qe,T.Uq⟩ fz)))))) ze)))))))))))))
def J7(T:Txt K mg a):qO P w K mg base (CXe P w) 1 a.qh a.Kc ["_law_names_here","_law_head"] (lsp (WW K a) false [true,true] qh):=
 ym (ms:=JS) (S':=[1,1,0]) (Sb:=[]) (Sc:=[]) T.jb.F Q4 rfl rfl rfl (by decide) λcdv A outer s H E hr=>
  (zf (ke (z0 ⟨rfl,rfl⟩) rfl (KI rfl T.YS (za (zt zQ zR (j9 rfl T.Yy (za (ev 0) ze)) ei) ze)) (gn 2 Q4.nd)
    (zk (yU (Vb (ja hr) (zt zQ zR (ev 1) (sv rfl T.nU (za (ev 2) ze))) (ev 0))
    (zk (yL (zt zQ zR (ev 1) (sv rfl T.nU (za (ev 2) ze)))))
    ya)))
   (zk (yL (yE yF))))
def Uw(T:Txt K mg a):qO P w K mg base (CXe P w) 1 a.kU a.fT ["_law_cell"] (lsp (WW K a) false [true] kU):=
 ym (ms:=ft) (S':=[1]) (Sb:=[]) (Sc:=[]) T.Yz.F nS rfl rfl rfl (by decide) λcdv A outer s H E hr=>
  (zf (yU (ZP hr.units (zt zG zH (ev 0) ei) ei)
    (zk (yL (zt zQ zR (zt zQ zR (zt K6 YG ei ei) ei) (zt zG zH (zt ZN ZO (ev 0) ei) (zt K6 YG ei ei)))))
    ya)
   (zk (yL (zt We Wh (LK Fn F4 ei) (zt zG zH (zt ZN ZO (ev 0) ei) (zt K6 YG ei ei))))))
def iu(T:Txt K mg a):qO P w K mg base (CXe P w) 1 a.qT a.UO ["_law_found","_law_due_here"] (lsp (WW K a) false [false,false] qT):=
 ym (ms:=Us) (S':=[0,0,0,0]) (Sb:=[]) (Sc:=[]) T.YT.F Q5 rfl rfl rfl (by decide) λcdv A outer s H E hr=>
  (zf (yU (ej hr.units (j9 rfl T.Yy (za (ev 0) ze)) (j9 rfl T.Yy (za (ev 1) ze)))
    (zk (yL (Xy Xq)))
    ya)
   (zf (ke (z0 ⟨rfl,rfl⟩) rfl (D2 rfl T.D6 (za (zr (pv 0)) (za (zr (pv 1)) ze))) (a8 (n:=2) rfl (yZ (gn 2 Q5.nd) (yZ (gn 3 Q5.nd) aZ qQ) qQ))
    (zk (yU (TWM.tm (XE (XF (Zm rfl T.z9 (ev 2) (bM rfl T.sY PyProof.Rows.Boot.«bool» (v:=.ty "bool") rfl) rfl ⟨⟨trivial,T.KY⟩,⟨⟨trivial,T.KZ⟩,trivial⟩⟩)) (XE (ej hr.units (Zm rfl T.z9 (ev 2) (bM rfl T.nU PyProof.Rows.Boot.«str» (v:=.ty "str") rfl) rfl ⟨⟨trivial,T.JJ⟩,⟨⟨trivial,T.JK⟩,trivial⟩⟩) (Zm rfl T.z9 (ev 3) (bM rfl T.nU PyProof.Rows.Boot.«str» (v:=.ty "str") rfl) rfl ⟨⟨trivial,T.JJ⟩,⟨⟨trivial,T.JK⟩,trivial⟩⟩)) (XA (ej hr.units (ev 2) (ev 3))))))
    (zk (yL (Xy Xq)))
    ya)))
   (zk (yL (Xy Xq)))))
def aw(T:Txt K mg a):qO P w K mg base (CXe P w) 1 a.Qc a.Qd ["self"] (hsp (WW K a) 1 jc):=
 lL (ms:=kM) T.cT U5 rfl rfl rfl λcdv A outer s H E hr=>
  (ZS (bb (hf (kI rfl rfl T.Qf (za (eB (ev 0) (fa ⟨T.YU,T.JQ⟩ fz)) ze)))))
def n4(T:Txt K mg a):qO P w K mg base (CXe P w) 1 a.kC a.bG ["_law_text"] (lsp (WW K a) false [true] kC):=
 ym (ms:=bt) (S':=[1,0]) (Sb:=[]) (Sc:=[]) T.JI.F Ua rfl rfl rfl (by decide) λcdv A outer s H E hr=>
  (zf (aY (i:=1) Ua.nd rfl (by first|exact .inl rfl|exact .inr rfl) (yE yF))
   (zk (yL (Gd (xB mU mU nt nt ei (j9 rfl T.Yy (za (ev 0) ze)) ei) (Gb (Gs rfl rfl T.D4 (za (FM.em (rL ["_law_sign","_law_some"] [none,some 1] [0,0] rfl (by kernel_rfl) (BI (ev 0)) (λ_=>(QP (i:=0) (show List.Nodup (["_law_sign","_law_some"]:List Str)from by decide +kernel) rfl (.inl rfl))) (λ_=>eD) (λ_=>(LN (ja hr) (ev 0) (ev 1))))) ze)))))))
def qH(T:Txt K mg a):qO P w K mg base (CXe P w) 2 a.zJ a.fS ["_law_script","_law_k","_law_prime"] (lsp (WW K a) false [true,true,true] zJ):=
 ym (ms:=fu) (S':=[1,1,1]) (Sb:=[]) (Sc:=[]) T.y2.F nR rfl rfl rfl (by decide) λcdv A outer s H E hr=>
  (zk (yL (zt zG zH (zt ZL ZM (zt zG zH (ec (qC T) hr T.yH yx (za (ev 0) (za (ev 1) ze))) ei) ei) (ev 2))))
def n8(T:Txt K mg a):qO P w K mg base (CXe P w) 2 a.kD a.bE ["_law_script","_law_at","_law_name","_law_places","_law_lengths_here","_law_ahead"] (lsp (WW K a) false [true,true,false,true,true,true] kD):=
 ym (ms:=bu) (S':=[1,1,0,1,1,1,0,0,0,0,0,0,0,0]) (Sb:=[]) (Sc:=[]) T.JH.F yS rfl rfl rfl (by decide) λcdv A outer s H E hr=>
  (zf (se 6 yS.nd (ec (qC T) hr T.yH yx (za (ev 0) (za (ev 1) ze))))
   (zf (se 7 yS.nd (ec (qC T) hr T.yH yx (za (ev 0) (za (EM.weak (zt zQ zR (ev 1) ei)) ze))))
   (zf (se 8 yS.nd (ec (qC T) hr T.yH yx (za (ev 0) (za (EM.weak (zt zQ zR (ev 1) ei)) ze))))
   (zf (se 9 yS.nd (ix hr (ev 3) (zt zG zH (ev 6) (j9 rfl T.Yy (za (ev 3) ze)))))
   (zf (se 10 yS.nd (ix hr (ev 3) (zt zG zH (zt ZN ZO (ev 6) ei) (j9 rfl T.Yy (za (ev 3) ze)))))
   (zf (yU (XY (ja hr) (za (zr (pv 9)) (za (zr (pv 10)) ze)) (ev 4))
    (zk (se 10 yS.nd (zr (pv 9))))
    ya)
   (zf (se 11 yS.nd (ix hr (FM.em (jG (za ei (za (zt zG zH (ev 8) ei) (za (zt zG zH (ev 7) ei) (za (zt zG zH (ev 8) (zt K6 YG ei ei)) ze)))))) (zt zG zH (zt ZN ZO (ev 6) ei) ei)))
   (zf (se 12 yS.nd (Gr rfl rfl T.D5 (za ei (za (zt zQ zR (bf (ja hr) (ev 4) (za (zr (pv 9)) (za (zr (pv 10)) ze))) (ev 11)) ze))))
   (zf (se 13 yS.nd (ix hr (FM.em (jG (za (zt zG zH (ev 7) ei) (za (zt zG zH (ev 7) ei) (za (zt zG zH (ev 7) (zt K6 YG ei ei)) ze))))) (zt zG zH (zt ZN ZO (ev 6) ei) ei)))
   (zf (yU (TWM.tm (XB (ZP hr.units (zt zG zH (zt ZN ZO (ev 6) ei) ei) ei) (XB (qM Cz C3 (ev 5) (pQ oO) (jw _)) (VX (lN (ja hr) (za (ix hr (ev 5) ei) (za (zr (pv 9)) ze)) (ev 4))))))
    (zk (se 13 yS.nd (zt We Wh (zt zQ zR (zt zQ zR (ix hr (ev 5) ei) (bf (ja hr) (ev 4) (za (ix hr (ev 5) ei) (za (zr (pv 9)) ze)))) (zt zG zH (ev 7) ei)) ei)))
    ya)
   (zf (se 13 yS.nd (p8 rfl rfl T.s_ (za (ev 13) (za (zt We Wh (zt K6 YG ei ei) (ev 12)) ze))))
   (zk (yL (qN (za (zr (pv 2)) (za (zr (pv 9)) (za (zr (pv 10)) (za (zr (pv 13)) (za (zt zQ zR (ev 13) (ev 12)) (za (zt zG zH (zt ZN ZO (ev 8) ei) (zt zQ zR (zt K6 YG ei ei) ei)) ze))))))))))))))))))))
def ax(T:Txt K mg a):qO P w K mg base (CXe P w) 2 a.qi a.Ke ["_law_trip_here","_law_seen","_law_places","_law_lengths_here"] (lsp (WW K a) false [false,true,true,true] qi):=
 ym (ms:=JT) (S':=[0,1,1,1,0,0,0,0,0,0,0,0]) (Sb:=[]) (Sc:=[]) T.kL.F yz rfl rfl rfl (by decide) λcdv A outer s H E hr=>
  (zf (Bz (zr (pv 0)) (a8 (n:=6) rfl (yZ (gn 4 yz.nd) (yZ (gn 5 yz.nd) (yZ (gn 6 yz.nd) (yZ (gn 7 yz.nd) (yZ (gn 8 yz.nd) (yZ (gn 9 yz.nd) aZ qQ) qQ) qQ) qQ) qQ) qQ)))
   (zf (yU (pT (XF (ec (n4 T) hr T.JI yx (za (ev 4) ze))))
    (zk (yL (qN (za (yE yF) (za (zr (pv 4)) ze)))))
    ya)
   (zf (yU (C8 (ja hr) (ev 4) (ev 1))
    (zk (yL (qN (za (yE yF) (za (zr (pv 4)) ze)))))
    ya)
   (zf (ke (z0 ⟨rfl,rfl⟩) rfl (QQ (EM.en (FM.em (jG (za (zr (pv 5)) (za (zr (pv 6)) ze)))))) (gn 10 yz.nd)
    (zk (yU (Vb (ja hr) (ev 10) (ev 2))
    (zk (yL (qN (za (yE yF) (za (zr (pv 10)) ze)))))
    ya)))
   (zf (ke (z0 ⟨rfl,rfl⟩) rfl (QQ (EM.en (FM.em (jG (za (zr (pv 7)) (za (zr (pv 8)) (za (zr (pv 9)) ze))))))) (gn 11 yz.nd)
    (zk (yU (TWM.tm (XE (qM gw gP (ev 11) ei (jw _)) (XA (qM gx gQ (ev 11) (zt K6 YG ei ei) (jw _)))))
    (zk (yL (qN (za (yE yF) (za (zr (pv 11)) ze)))))
    ya)))
   (zf (yU (qM mU nt (ev 8) (ev 7) (jw _))
    (zk (yL (qN (za (yE yF) (za (zr (pv 4)) ze)))))
    ya)
   (zf (yU (XY (ja hr) (za (zr (pv 5)) (za (zr (pv 6)) ze)) (ev 3))
    (zk (yL (qN (za (yE yF) (za (zr (pv 5)) (za (zr (pv 6)) ze))))))
    ya)
   (zf (yU (qM gw gP (zt We Wh (ev 8) (ev 7)) (bf (ja hr) (ev 3) (za (zr (pv 5)) (za (zr (pv 6)) ze))) (jw _))
    (zk (yL (qN (za (yE yF) (za (zr (pv 4)) ze)))))
    ya)
   (zk (yL (qN (za (yE yF) ze))))))))))))
def Ux(T:Txt K mg a):qO P w K mg base (CXe P w) 3 a.ju a.UL ["_law_script","_law_at","_law_many"] (lsp (WW K a) true [true,true,true] ju):=
 ym (ms:=Ut) (S':=[1,1,1,0,0,0,0,0,0,0,0]) (Sb:=[]) (Sc:=[]) T.qz.F yN rfl rfl rfl (by decide) λcdv A outer s H E hr=>
  (zf (aY (i:=3) yN.nd rfl (by first|exact .inl rfl|exact .inr rfl) (yE yF))
   (zf (aY (i:=4) yN.nd rfl (by first|exact .inl rfl|exact .inr rfl) (zt zG zH (ec (qC T) hr T.yH yx (za (ev 0) (za (ev 1) ze))) ei))
   (zf (LU (i:=5) ["_law_j","_law_cell"] [none,some 4] [0,0] yN.nd rfl rfl rfl (by kernel_rfl) (KI rfl T.YS (za ei ze)) (λ_=>(QP (i:=0) (show List.Nodup (["_law_j","_law_cell"]:List Str)from by decide +kernel) rfl (.inl rfl))) (λ_=>eD) (λ_=>(zt zG zH (zt zG zH (zt zQ zR (zt ZL ZM (ev 1) ei) (zt ZL ZM (zt ZL ZM ei (ev 0)) (ev 0))) ei) ei)))
   (zf (se 6 yN.nd (ec (qH T) hr T.y2 yx (za (ev 0) (za (EM.weak (zt zQ zR (ev 1) ei)) (za (EM.weak ei) ze)))))
   (zf (ZR (i:=7) yN.nd rfl (.inl rfl) (jG ze))
   (zf (ke (z0 ⟨rfl,rfl⟩) rfl (KI rfl T.YS (za (ev 2) ze)) (gn 8 yN.nd)
    (Dj (S1:=[1,1,1,0,0,0,0,2,0,2,0]) 9 (zf (ZR (i:=9) yN.nd rfl (.inl rfl) (GB (by exact(FM.em (kI rfl rfl T.Qf (za (Vc (ev 5) KG (KH (zt zQ zR ei (zt zG zH (ev 4) ei)))) ze)))) (by exact(zt ZL ZM (Vc (ev 5) (KH ei) KG) (zt zG zH (ev 8) ei)))))
   (zf (se 10 yN.nd (zt zG zH (zt ZN ZO (ev 6) ei) (j9 rfl T.Yy (za (ev 9) ze))))
   (zf (Dm (pv 9) (ev 10) (zt zG zH (zt zQ zR (ix hr (ev 9) (ev 10)) (ev 8)) ei))
   (zf (yU (TWM.tm (XB (ZP hr.units (zt zG zH (ev 6) ei) ei) (VX (qM mU nt (ev 2) ei (jw _)))))
    (zk (ZR (i:=9) yN.nd rfl (.inl rfl) (lC (ev 5) KG (KH (zt zQ zR ei (ev 8))))))
    ya)
   (zf (yU (TWM.tm (XB (ZP hr.units (zt zG zH (ev 6) ei) ei) (VX (qM mU nt (ev 2) ei (jw _)))))
    (zk (ZR (i:=9) yN.nd rfl (.inl rfl) (lC (ev 5) KG (KH (zt We Wh (ev 2) (ev 8))))))
    ya)
   (zk (QO (pv 7) (DJ (yE yF) (FM.em (rL ["_law_x","_law_some"] [none,some 3] [0,0] rfl (by kernel_rfl) (cu (ev 9)) (λ_=>(QP (i:=0) (show List.Nodup (["_law_x","_law_some"]:List Str)from by decide +kernel) rfl (.inl rfl))) (λ_=>eD) (λ_=>(ix hr (ev 1) (ev 0)))))))))))))))
   (zk (XI (pv 7)))))))))
def n_(T:Txt K mg a):qO P w K mg base (CXe P w) 3 a.vS a.bD ["_law_script","_law_at","_law_names_here"] (lsp (WW K a) true [true,true,true] vS):=
 ym (ms:=bw) (S':=[1,1,1,0,0,0,0,0]) (Sb:=[]) (Sc:=[]) T.vQ.F js rfl rfl rfl (by decide) λcdv A outer s H E hr=>
  (zf (se 3 js.nd (j9 rfl T.Yy (za (ev 2) ze)))
   (zf (se 4 js.nd (ix hr (FM.em (jG (za ei (za ei (za ei (za (zt ZL ZM ei (zt K6 YG ei ei)) ze)))))) (zt zG zH (ec (qH T) hr T.y2 yx (za (ev 0) (za (ev 1) (za (EM.weak ei) ze)))) ei)))
   (zf (ZR (i:=5) js.nd rfl (.inl rfl) (jG ze))
   (zf (yU (qM gx gQ (zt zG zH (ec (qH T) hr T.y2 yx (za (ev 0) (za (EM.weak (zt zQ zR (ev 1) ei)) (za (EM.weak ei) ze)))) ei) ei (jw _))
    (zk (ke (z0 ⟨rfl,rfl⟩) rfl (KI rfl T.YS (za (ev 3) ze)) (gn 6 js.nd)
    (zk (QO (pv 5) (qN (za (ix hr (ev 2) (ev 6)) (za (ix hr (ev 2) (zt zG zH (zt zQ zR (ev 6) ei) (ev 3))) (za (zt zQ zR ei (zt zG zH (ec (qH T) hr T.y2 yx (za (ev 0) (za (EM.weak (zt zQ zR (ev 1) (ev 6))) (za (EM.weak ei) ze)))) (ev 4))) ze))))))))
    ya)
   (zf (ke (z0 ⟨rfl,rfl⟩) rfl (KI rfl T.YS (za (zt zG zH (ec (qH T) hr T.y2 yx (za (ev 0) (za (EM.weak (zt zQ zR (ev 1) ei)) (za (EM.weak ei) ze)))) ei) ze)) (gn 6 js.nd)
    (zf (se 7 js.nd (ec (qC T) hr T.yH yx (za (ev 0) (za (EM.weak (zt zQ zR (ev 1) (ev 6))) ze))))
   (zk (QO (pv 5) (qN (za (ix hr (ev 2) (zt zG zH (ev 7) (ev 3))) (za (ix hr (ev 2) (zt zG zH (zt ZN ZO (ev 7) (ev 3)) (ev 3))) (za (zt zQ zR ei (zt zG zH (zt ZN ZO (ev 7) ei) (ev 4))) ze))))))))
   (zk (XI (pv 5))))))))
def iw(T:Txt K mg a):qO P w K mg base (CXe P w) 3 a.kE a.UM ["_law_script","_law_at","_law_names_here","_law_places","_law_lengths_here"] (lsp (WW K a) true [true,true,true,true,true] kE):=
 ym (ms:=Uu) (S':=[1,1,1,1,1,0,0,0]) (Sb:=[]) (Sc:=[]) T.ki.F kT rfl rfl rfl (by decide) λcdv A outer s H E hr=>
  (zf (ZR (i:=5) kT.nd rfl (.inl rfl) (jG ze))
   (zf (ke (z0 ⟨rfl,rfl⟩) rfl (KI rfl T.YS (za (j9 rfl T.Yy (za (ev 2) ze)) ze)) (gn 6 kT.nd)
    (zf (se 7 kT.nd (pQ oO))
   (zf (yU (qM gx gQ (ev 6) ei (jw _))
    (zk (se 7 kT.nd (ix hr (ev 5) (zt zG zH (ec (qH T) hr T.y2 yx (za (ev 0) (za (EM.weak (zt zQ zR (zt zQ zR (ev 1) (zt ZL ZM ei (ev 6))) ei)) (za (EM.weak ei) ze)))) (ev 6)))))
    ya)
   (zk (QO (pv 5) (ec (n8 T) hr T.JH yx (za (ev 0) (za (EM.weak (zt zQ zR (ev 1) (zt ZL ZM ei (ev 6)))) (za (ix hr (ev 2) (ev 6)) (za (ev 3) (za (ev 4) (za (ev 7) ze))))))))))))
   (zk (XI (pv 5)))))
def Je(T:Txt K mg a):qO P w K mg base (CXe P w) 3 a.qf a.Wv ["things","most"] (lsp (WW K a) false [true,false] qf):=
 ym (ms:=Wq) (S':=[1,0]) (Sb:=[]) (Sc:=[]) T.jx.F cL rfl rfl rfl (by decide) λcdv A outer s H E hr=>
  (zk (yU (qM gx gQ (j9 rfl T.Yy (za (ev 0) ze)) (ev 1) (jw _))
    (zk (vJ (c:=4) rfl T.tq T.qc (ao T) (rm hr) rfl T.Vm T.U7 (za (zr (pv 1)) ze)))
    ya))
def ay(T:Txt K mg a):qO P w K mg base (CXe P w) 3 a.qj a.J_ ["name"] (lsp (WW K a) false [false] qj):=
 ym (ms:=JX) (S':=[0,0]) (Sb:=[]) (Sc:=[]) T.kJ.F Q3 rfl rfl rfl (by decide) λcdv A outer s H E hr=>
  (zf (yU (TWM.tm (XE (qM gw gP (j9 rfl T.Yy (za (ev 0) ze)) ei (jw _)) (XA (qM gx gQ (j9 rfl T.Yy (za (ev 0) ze)) (qx (z_ (v:=.int 12) rfl T.Z3 ⟨_,rfl⟩)) (jw _)))))
    (zk (vJ (c:=1) rfl T.fo T.y3 (J6 T) (rm hr) rfl T.Q8 T.JP (za (zr (pv 0)) ze)))
    ya)
   (zf (ke (z0 ⟨rfl,rfl⟩) rfl (BI (ev 0)) (gn 1 Q3.nd)
    (zk (yU (Vb (ja hr) (ev 1) (yE (z_ (v:=.str "abcdefghijklmnopqrstuvwxyz0123456789") rfl T.Q6 ⟨_,rfl⟩)))
    (zk (vJ (c:=1) rfl T.fo T.y3 (J6 T) (rm hr) rfl T.Q8 T.JP (za (zr (pv 0)) ze)))
    ya)))
   (zk (yL (zr (pv 0))))))
def vO(T:Txt K mg a):qO P w K mg base (CXe P w) 3 a.yI a.VJ ["name","places"] (lsp (WW K a) false [false,true] yI):=
 ym (ms:=VB) (S':=[0,1]) (Sb:=[]) (Sc:=[]) T.qA.F U4 rfl rfl rfl (by decide) λcdv A outer s H E hr=>
  (zk (yU (Vb (ja hr) (ev 0) (ev 1))
    (zk (vJ (c:=6) rfl T.tD T.qd (aq T) (rm hr) rfl T.Vn T.U_ (za (zr (pv 0)) ze)))
    ya))
def jn(T:Txt K mg a):qO P w K mg base (CXe P w) 3 a.zT a.Ql ["value","least"] (lsp (WW K a) false [false,true] zT):=
 ym (ms:=Qj) (S':=[0,1]) (Sb:=[]) (Sc:=[]) T.yT.F V6 rfl rfl rfl (by decide) λcdv A outer s H E hr=>
  (zf (yU (TWM.tm (XE (qM gw gP (ev 0) (ev 1) (jw _)) (XA (qM gx gQ (ev 0) (qx (z_ (v:=.int 1000000000) rfl T.ij ⟨_,rfl⟩)) (jw _)))))
    (zk (vJ (c:=2) rfl T.ip T.yA (WX T) (rm hr) rfl T.YR T.WT (za (zr (pv 0)) ze)))
    ya)
   (zk (yL (zr (pv 0)))))
def fE(T:Txt K mg a):qO P w K mg base (CXe P w) 3 a.jA a.Wz ["_law_script","_law_at","_law_trips_here","_law_places","_law_lengths_here"] (lsp (WW K a) false [true,true,true,true,true] jA):=
 ym (ms:=Q_) (S':=[1,1,1,1,1,0,0,0,0,0,0,0,0,0]) (Sb:=[]) (Sc:=[]) T.Zs.F zy rfl rfl rfl (by decide) λcdv A outer s H E hr=>
  (zf (yU (ZP hr.units (ev 2) (FM.em (jG ze)))
    (zk (yL (FM.em (jG ze))))
    ya)
   (zf (se 5 zy.nd (zt zG zH (ec (qH T) hr T.y2 yx (za (ev 0) (za (ev 1) (za (EM.weak ei) ze)))) (j9 rfl T.Yy (za (ev 2) ze))))
   (zf (se 6 zy.nd (zt zG zH (ec (qH T) hr T.y2 yx (za (ev 0) (za (EM.weak (zt zQ zR (ev 1) ei)) (za (EM.weak ei) ze)))) ei))
   (zf (se 7 zy.nd (ec (qC T) hr T.yH yx (za (ev 0) (za (EM.weak (zt zQ zR (ev 1) ei)) ze))))
   (zf (Bz (ix hr (ev 2) (ev 5)) (a8 (n:=6) rfl (yZ (gn 8 zy.nd) (yZ (QP (i:=9) zy.nd rfl (by first|exact .inl rfl|exact .inr rfl)) (yZ (gn 10 zy.nd) (yZ (gn 11 zy.nd) (yZ (gn 12 zy.nd) (yZ (gn 13 zy.nd) aZ qQ) qQ) qQ) qQ) qQ) qQ)))
   (zf (yU (ZP hr.units (ev 6) ei)
    (zk (se 8 zy.nd (ix hr (FM.em (jG (za (yE yF) (za (zt zQ zR (ev 8) (yE yF)) (za (zt zQ zR (ev 8) (yE yF)) (za (yE yF) (za (zt zQ zR (yE yF) (ev 8)) ze))))))) (zt zG zH (ev 7) ei))))
    ya)
   (zf (yU (ZP hr.units (ev 6) ei)
    (zk (se 8 zy.nd (ix hr (ix hr (ev 2) (zt zG zH (ev 7) (j9 rfl T.Yy (za (ev 2) ze)))) ei)))
    ya)
   (zf (yU (ZP hr.units (ev 6) ei)
    (zk (aY (i:=9) zy.nd rfl (by first|exact .inl rfl|exact .inr rfl) (ec (J7 T) hr T.jb yx (za (ev 3) (za (EM.weak (yE yF)) ze)))))
    ya)
   (zf (yU (ZP hr.units (ev 6) ei)
    (zk (se 10 zy.nd (ec (J7 T) hr T.jb yx (za (ev 3) (za (EM.weak (yE yF)) ze)))))
    ya)
   (zf (yU (ZP hr.units (ev 6) ei)
    (zk (se 11 zy.nd (ec (Uw T) hr T.Yz yx (za (ev 7) ze))))
    ya)
   (zf (yU (ZP hr.units (ev 6) ei)
    (zk (se 12 zy.nd (ec (Uw T) hr T.Yz yx (za (ev 7) ze))))
    ya)
   (zf (yU (ZP hr.units (ev 6) ei)
    (zk (se 13 zy.nd (ec (Uw T) hr T.Yz yx (za (ev 7) ze))))
    ya)
   (zf (yU (ZP hr.units (ev 6) ei)
    (zk (se 12 zy.nd (zt We Wh (ev 11) (zt zG zH (ev 7) ei))))
    ya)
   (zf (yU (TWM.tm (XB (ZP hr.units (ev 6) ei) (VX (lN (ja hr) (za (zr (pv 9)) (za (zr (pv 10)) ze)) (ev 4)))))
    (zk (se 12 zy.nd (zt We Wh (zt zQ zR (ev 11) (bf (ja hr) (ev 4) (za (zr (pv 9)) (za (zr (pv 10)) ze)))) ei)))
    ya)
   (zf (yU (ZP hr.units (ev 6) ei)
    (zk (se 10 zy.nd (ix hr (ev 3) (zt zG zH (ev 7) (j9 rfl T.Yy (za (ev 3) ze))))))
    ya)
   (zf (yU (ZP hr.units (ev 6) ei)
    (zk (aY (i:=9) zy.nd rfl (by first|exact .inl rfl|exact .inr rfl) (ix hr (ev 3) (zt zG zH (ev 7) (j9 rfl T.Yy (za (ev 3) ze))))))
    ya)
   (zf (yU (ZP hr.units (ev 6) ei)
    (zk (se 10 zy.nd (ix hr (zt zQ zR (FM.em (rL ["_law_place","_law_origin","_law_lengths_here"] [none,some 9,some 4] [0,0,1] rfl (by kernel_rfl) (cu (ev 3)) (λ_=>(QP (i:=0) (show List.Nodup (["_law_place","_law_origin","_law_lengths_here"]:List Str)from by decide +kernel) rfl (.inl rfl))) (λ_=>(Gz (XY (ja hr) (za (zr (pv 1)) (za (zr (pv 0)) ze)) (ev 2)))) (λ_=>(zr (pv 0))))) (FM.em (jG (za (zr (pv 10)) ze)))) ei)))
    ya)
   (zk (yL (zt zQ zR (zt zQ zR (Vc (ev 2) KG (KH (ev 5))) (FM.em (jG (za (qN (za (zr (pv 8)) (za (zr (pv 9)) (za (zr (pv 10)) (za (zr (pv 11)) (za (zr (pv 12)) (za (zr (pv 13)) ze))))))) ze)))) (Vc (ev 2) (KH (zt zQ zR (ev 5) ei)) KG)))))))))))))))))))))
def tF(T:Txt K mg a):qO P w K mg base (CXe P w) 3 a.Ze a.fU ["_law_trips_here","_law_places","_law_lengths_here"] (lsp (WW K a) false [true,true,true] Ze):=
 ym (ms:=fB) (S':=[1,1,1,0,0,0]) (Sb:=[]) (Sc:=[]) T.Vq.F JE rfl rfl rfl (by decide) λcdv A outer s H E hr=>
  (zf (yU (qM gx gQ (j9 rfl T.Yy (za (ev 0) ze)) ei (jw _))
    (zk (yL (qN (za (yE yF) (za ei ze)))))
    ya)
   (zf (ZR (i:=3) JE.nd rfl (.inl rfl) (jG ze))
   (zf (ke (z0 ⟨rfl,rfl⟩) rfl (QQ (Ve (pv 0))) (gn 4 JE.nd)
    (zf (se 5 JE.nd (ec (ax T) hr T.kL yx (za (zr (pv 4)) (za (ev 3) (za (ev 1) (za (ev 2) ze))))))
   (zf (yU (ej hr.units (ev 5) (qN (za (yE yF) ze)))
    (zk (yL (zr (pv 5))))
    ya)
   (zk (QO (pv 3) (ix hr (ev 4) ei))))))
   (zk (yL (qN (za (yE yF) ze)))))))
def Zz(T:Txt K mg a):qO P w K mg base (CXe P w) 4 a.yh a.ZE ["name","had"] (lsp (WW K a) false [false,true] yh):=
 ym (ms:=Zv) (S':=[0,1]) (Sb:=[]) (Sc:=[]) T.qb.F KU rfl rfl rfl (by decide) λcdv A outer s H E hr=>
  (zf (jr (ec (ay T) hr T.kJ yx (za (zr (pv 0)) ze)))
   (zf (yU (C8 (ja hr) (ev 0) (ev 1))
    (zk (vJ (c:=5) rfl T.D7 T.jL (fC T) (rm hr) rfl T.cP T.fg (za (zr (pv 0)) ze)))
    ya)
   (zk (yL (zr (pv 0))))))
def fF(T:Txt K mg a):qO P w K mg base (CXe P w) 4 a.jB a.Ww ["places","ways"] (lsp (WW K a) false [true,true] jB):=
 ym (ms:=Wr) (S':=[1,1,0,0,0]) (Sb:=[]) (Sc:=[]) T.Zq.F vM rfl rfl rfl (by decide) λcdv A outer s H E hr=>
  (zk (ke (z0 ⟨rfl,rfl⟩) rfl (QQ (Ve (pv 1))) (a8 (n:=3) rfl (yZ (gn 2 vM.nd) (yZ (gn 3 vM.nd) (yZ (gn 4 vM.nd) aZ qQ) qQ) qQ))
    (zf (jr (ec (vO T) hr T.qA yx (za (zr (pv 2)) (za (ev 0) ze))))
   (zf (jr (ec (vO T) hr T.qA yx (za (zr (pv 3)) (za (ev 0) ze))))
   (zk (jr (ec (jn T) hr T.yT yx (za (zr (pv 4)) (za (EM.weak ei) ze)))))))))
def az(T:Txt K mg a):qO P w K mg base (CXe P w) 4 a.yJ a.Ym ["self","origin","goal"] (lsp (WW K a) false [true,false,false] yJ):=
 ym (ms:=JZ) (S':=[1,0,0]) (Sb:=[]) (Sc:=[]) T.aa X9 rfl rfl rfl (by decide) λcdv A outer s H E hr=>
  (zf (jr (ec (vO T) hr T.qA yx (za (zr (pv 1)) (za (EM.weak (eB (ev 0) (fa ⟨T.YV,T.v9⟩ fz))) ze))))
   (zf (jr (ec (vO T) hr T.qA yx (za (zr (pv 2)) (za (EM.weak (eB (ev 0) (fa ⟨T.YV,T.v9⟩ fz))) ze))))
   (zk (yL (Hd (ja hr) (ix hr (eB (ev 0) (fa ⟨T.YV,T.Qg⟩ fz)) (ev 1)) (ev 2) ⟨rfl,rfl,rfl,rfl⟩)))))
def aA(T:Txt K mg a):qO P w K mg base (CXe P w) 5 a.qJ a.Ka ["places"] (lsp (WW K a) false [true] qJ):=
 ym (ms:=J3) (S':=[1,2,0]) (Sb:=[]) (Sc:=[]) T.kK.F v7 rfl rfl rfl (by decide) λcdv A outer s H E hr=>
  (zf (ZR (i:=1) v7.nd rfl (.inl rfl) rN)
   (zk (ke (z0 ⟨rfl,rfl⟩) rfl (QQ (Ve (pv 0))) (gn 2 v7.nd)
    (zf (jr (ec (Zz T) hr T.qb yx (za (zr (pv 2)) (za (ev 1) ze))))
   (zk (By (ja hr) (pv 1) (ev 2) (Xy Xq)))))))
def fG(T:Txt K mg a):qO P w K mg base (CXe P w) 5 a.jC a.Wx ["roads","trip","had"] (lsp (WW K a) false [true,true,true] jC):=
 ym (ms:=Ja) (S':=[1,1,1,0]) (Sb:=[]) (Sc:=[]) T.Zr.F Vk rfl rfl rfl (by decide) λcdv A outer s H E hr=>
  (zf (jr (ec (Zz T) hr T.qb yx (za (ix hr (ev 1) (qx (z_ (v:=.int 0) rfl T.Wl ⟨_,rfl⟩))) (za (ev 2) ze))))
   (zf (se 3 Vk.nd (Dg (fr:=false) (ws:=[false,false]) (tab:=[(12,yJ)]) (ev 0) (al ⟨_,_,_,_,T.YV,T.Ur,az T,(rm hr),T.ae⟩) yx (za (ix hr (ev 1) (qx (z_ (v:=.int 1) rfl T.Xl ⟨_,rfl⟩))) (za (ix hr (ev 1) (qx (z_ (v:=.int 2) rfl T.l0 ⟨_,rfl⟩))) ze))))
   (zf (jr (ec (jn T) hr T.yT yx (za (ix hr (ev 1) (qx (z_ (v:=.int 3) rfl T.V8 ⟨_,rfl⟩))) (za (EM.weak ei) ze))))
   (zf (jr (ec (jn T) hr T.yT yx (za (ix hr (ev 1) (qx (z_ (v:=.int 4) rfl T.JF ⟨_,rfl⟩))) (za (EM.weak ei) ze))))
   (zf (jr (ec (jn T) hr T.yT yx (za (ix hr (ev 1) (qx (z_ (v:=.int 5) rfl T.ik ⟨_,rfl⟩))) (za (EM.weak ei) ze))))
   (zf (yU (qM mU nt (ix hr (ev 1) (qx (z_ (v:=.int 4) rfl T.JF ⟨_,rfl⟩))) (ix hr (ev 1) (qx (z_ (v:=.int 3) rfl T.V8 ⟨_,rfl⟩))) (jw _))
    (zk (vJ (c:=9) rfl T.nY T.yR (Uv T) (rm hr) rfl T.JG T.Ud (za (ix hr (ev 1) (qx (z_ (v:=.int 0) rfl T.Wl ⟨_,rfl⟩))) ze)))
    ya)
   (zf (yU (qM Fo F_ (ev 3) (pQ oO) (jw _))
    (zk (vJ (c:=7) rfl T.D8 T.q_ (fD T) (rm hr) rfl T.cQ T.fk (za (ix hr (ev 1) (qx (z_ (v:=.int 1) rfl T.Xl ⟨_,rfl⟩))) (za (ix hr (ev 1) (qx (z_ (v:=.int 2) rfl T.l0 ⟨_,rfl⟩))) ze))))
    ya)
   (zk (yU (qM gw gP (zt We Wh (ix hr (ev 1) (qx (z_ (v:=.int 4) rfl T.JF ⟨_,rfl⟩))) (ix hr (ev 1) (qx (z_ (v:=.int 3) rfl T.V8 ⟨_,rfl⟩)))) (ev 3) (jw _))
    (zk (vJ (c:=10) rfl T.tE T.qe (au T) (rm hr) rfl T.Vo T.ag (za (ix hr (ev 1) (qx (z_ (v:=.int 0) rfl T.Wl ⟨_,rfl⟩))) ze)))
    ya)))))))))
def fH(T:Txt K mg a):qO P w K mg base (CXe P w) 6 a.qV a.Jm ["self","places","ways"] (IG (WW K a) 12 [true,true] qV):=
 rM (ms:=Zw) (S':=[2,1,1]) (Sb:=[]) (Sc:=[]) (n:=2) T.fh cN rfl rfl rfl (by decide) rfl λcdv A outer s H E hr=>
  (zf (jr (ec (Je T) hr T.jx yx (za (ev 1) (za (qx (z_ (v:=.int 12) rfl T.YQ ⟨_,rfl⟩)) ze))))
   (zf (jr (ec (Je T) hr T.jx yx (za (ev 2) (za (qx (z_ (v:=.int 60) rfl T.KW ⟨_,rfl⟩)) ze))))
   (zf (jr (ec (aA T) hr T.kK yx (za (ev 1) ze)))
   (zf (jr (ec (fF T) hr T.Zq yx (za (ev 1) (za (ev 2) ze))))
   (zf (rA (i:=0) (pv 0) (FM.em (kI rfl rfl T.Qf (za (ev 1) ze))) (fa ⟨T.YV,T.v9⟩ fz))
   (zf (rA (i:=0) (pv 0) (FM.em (kI rfl rfl T.Qf (za (ev 2) ze))) (fa ⟨T.YV,T.cZ⟩ fz))
   (zk (rA (i:=0) (pv 0) (FM.em (xY rfl rfl T.sZ (za (FM.em (rL ["place","ways"] [none,some 2] [0,1] rfl (by kernel_rfl) (cu (ev 1)) (λ_=>(QP (i:=0) (show List.Nodup (["place","ways"]:List Str)from by decide +kernel) rfl (.inl rfl))) (λ_=>eD) (λ_=>(qN (za (zr (pv 0)) (za (FM.em (VY (ar T) (rm hr) rfl T.qI.g T.qI.k T.qI.b FK (za (ev 0) (za (ev 1) ze)))) ze)))))) ze))) (fa ⟨T.YV,T.Qg⟩ fz)))))))))
def VC(T:Txt K mg a):qO P w K mg base (CXe P w) 6 a.Jk a.Jo ["self","roads","trips"] (hsp (WW K a) 3 yK):=
 lL (ms:=vN) T.fm Vl rfl rfl rfl λcdv A outer s H E hr=>
  (yV (si (hp (ec (Je T) hr T.jx yx (za (ev 2) (za (qx (z_ (v:=.int 40) rfl T.Zp ⟨_,rfl⟩)) ze)))))
   (yV (sH (Yu (pv 0)) (Yu (pv 1)) (fa ⟨T.YU,T.ai⟩ fz))
   (yV (sH (Yu (pv 0)) (hf rN) (fa ⟨T.YU,T.vc⟩ fz))
   (yV (DM (z0 ⟨rfl,rfl⟩) rfl (Yu (pv 2)) (sj (i:=3) Vl.nd rfl (.inl rfl))
    (yV (si (hp (ec (fG T) hr T.Zr yx (za (ev 1) (za (ev 3) (za (EM.weak (eB (ev 0) (fa ⟨T.YU,T.vc⟩ fz))) ze))))))
   (ZS (G0 (ja hr) (GV (Yu (pv 0)) (fa ⟨T.YU,T.vc⟩ fz)) (hp (ix hr (ev 3) (qx (z_ (v:=.int 0) rfl T.Wl ⟨_,rfl⟩)))) (Yu (pv 3))))))
   (ZS (sH (Yu (pv 0)) (hf (rL ["trip"] [none] [0] rfl (by kernel_rfl) (cu (FM.em (Am (wk:=true) (WY T) (rm hr) T.qG.b rfl T.Vp rfl T.qG.g (za (ev 2) ze)))) (λ_=>(QP (i:=0) (show List.Nodup (["trip"]:List Str)from by decide +kernel) rfl (.inl rfl))) (λ_=>eD) (λ_=>(ix hr (ev 0) (qx (z_ (v:=.int 0) rfl T.Wl ⟨_,rfl⟩)))))) (fa ⟨T.YU,T.JQ⟩ fz)))))))
def Ws(T:Txt K mg a):qO P w K mg base (CXe P w) 8 a.UK a.UN ["_law_roads","_law_trips_here"] (hsp (WW K a) 2 jE):=
 lL (ms:=jD) T.qB.F Wk rfl rfl rfl λcdv A outer s H E hr=>
  (yV (Hi (j:=2) ⟨rfl,rfl⟩ (DV (DW (c:=11) T.l3 (VC T) (rm hr) rfl T.cS T.Wm (YJ (Yu (pv 0)) (YJ (Yu (pv 1)) eO)) (λρ G xs G' e=>a0e (·+1) ((QS (QS lK)) ρ G xs G' e)))) rfl T.Q7 Wk.nd rfl (.inl rfl) (λe=>(ZS (bb (hp (xU (ir T) (LJ hr (by decide)) rfl T.vR.g T.vR.k T.vR.b (za (ev 2) ze)))))) (fa T.nV (fa T.fq (fa T.nW (fa T.AB (fa T.nX (fa T.AD (fa T.iq (fa T.nZ fz)))))))))
   (ZS (bb (hp (qN (za (yE yF) ze))))))
def HN(T:Txt K mg a):qO P w K mg base (CXe P w) 9 a.Iq a.Ir ["_law_script"] (hsp (WW K a) 1 Cf):=
 lL (ms:=l4) T.tf.F Yx rfl rfl rfl λcdv A outer s H E hr=>
  (yV (hse 1 Yx.nd (hp (FM.em (VY (Ux T) (rm hr) rfl T.qz.g T.qz.k T.qz.b yx (za (ev 0) (za (EM.weak ei) (za (EM.weak (zt zQ zR ei (zt zG zH (ec (qH T) hr T.y2 yx (za (ev 0) (za (EM.weak ei) (za (EM.weak ei) ze)))) ei))) ze)))))))
   (yV (hse 2 Yx.nd (hp (FM.em (VY (n_ T) (rm hr) rfl T.vQ.g T.vQ.k T.vQ.b yx (za (ev 0) (za (EM.weak ei) (za (ev 1) ze)))))))
   (yV (hse 3 Yx.nd (hp (FM.em (VY (c6 T) (rm hr) rfl T.qW.g T.qW.k T.qW.b yx (za (ev 1) (za (ev 2) ze))))))
   (yV (hse 4 Yx.nd (hp (FM.em (VY (Ux T) (rm hr) rfl T.qz.g T.qz.k T.qz.b yx (za (ev 0) (za (EM.weak ei) (za (EM.weak (zt zG zH (ec (qH T) hr T.y2 yx (za (ev 0) (za (EM.weak ei) (za (EM.weak ei) ze)))) ei)) ze)))))))
   (yV (hse 5 Yx.nd (hp (FM.em (VY (iw T) (rm hr) rfl T.ki.g T.ki.k T.ki.b yx (za (ev 0) (za (EM.weak ei) (za (ev 4) (za (ev 1) (za (ev 3) ze)))))))))
   (yV (hse 6 Yx.nd (hp (FM.em (kI rfl rfl T.Qf (za (ev 5) ze)))))
   (yV (DH (S:=Pg) (fr:=false) [true] (z0 ⟨rfl,rfl⟩) rfl (KI rfl T.YS (za (zt zG zH (ec (qH T) hr T.y2 yx (za (ev 0) (za (EM.weak ei) (za (EM.weak ei) ze)))) ei) ze)) (sj (i:=7) Yx.nd rfl (.inl rfl))
    (ZS (hse 6 Yx.nd (hp (ec (fE T) hr T.Zs yx (za (ev 0) (za (EM.weak (zt zQ zR ei (zt ZL ZM ei (ev 7)))) (za (ev 6) (za (ev 1) (za (ev 3) ze))))))))))
   (yV (DG (MY (S:=Pg) (fr:=false) [true,false,false,false,false,false,true] (TWM.tm (XB (ZP hr.units (zt zG zH (ec (qH T) hr T.y2 yx (za (ev 0) (za (EM.weak ei) (za (EM.weak ei) ze)))) ei) ei) (VX (ej hr.units (ev 6) (FM.em (jG ze)))))))
    (ZS (hse 6 Yx.nd (hp (Vc (zt ZL ZM (ev 6) ei) KG (KH ei)))))
    ia)
   (yV (hse 8 Yx.nd (hp (FM.em (Dh (c:=12) T.AE (fH T) (rm hr) rfl T.il T.fi yx (za (EM.weak (FM.em (kI rfl rfl T.Qf (za (ev 1) ze)))) (za (EM.weak (FM.em (kI rfl rfl T.Qf (za (ev 2) ze)))) ze))))))
   (yV (hse 9 Yx.nd (hf (kI rfl rfl T.Qf (za (ev 6) ze))))
   (yV (hse 10 Yx.nd (sf (Ws T) (rm hr) rfl T.qB.g T.qB.k T.qB.b yx (YJ (Yu (pv 8)) (YJ (Yu (pv 9)) eO)) (QS (QS lK))))
   (yV (DG (MY (S:=Pg) (fr:=false) [false,true,false,true,false,false,true,false,false,true,true] (TWM.tm (XE (pT (XF (ec (iu T) hr T.YT yx (za (zr (pv 10)) (za (ec (tF T) hr T.Vq yx (za (ev 6) (za (ev 1) (za (ev 3) ze)))) ze))))) (XE (ej hr.units (ev 9) (ev 6)) (XA (ej hr.units (qx (z_ (v:=.int 40) rfl T.Zp ⟨_,rfl⟩)) ei))))))
    (ZS (bb (hp (Xy Xq))))
    ia)
   (yV (DG (Ha hr.units (sf (Ws T) (rm hr) rfl T.qB.g T.qB.k T.qB.b yx (YJ (Yu (pv 8)) (YJ (hf (kI rfl rfl T.Qf (za (ev 5) ze))) eO)) (QS (QS lK))) (hp (qN (za (yE yF) ze))))
    (ZS (bb (hp (Xy Xq))))
    ia)
   (ZS (bb (G_ hr.units (Au rfl T.Vp (YJ (Av (tab:=[(11,jc)]) (An (c:=11) T.l3 (VC T) (rm hr) rfl T.cS T.Wm yx (YJ (Yu (pv 8)) (YJ (hf (kI rfl rfl T.Qf (za (ev 5) ze))) eO)) (λρ G xs G' e=>a0e (·+1) ((QS (QS lK)) ρ G xs G' e))) (λK sp ⟨q,hq,e1,e2⟩=>by
    simp only[List.mem_cons,List.not_mem_nil,or_false]at hq;rcases hq with rfl<;>subst e1 e2
    .exact⟨_,_,_,_,T.YU,T.aj,aw T,(rm hr),T.cU⟩) yx) eO)) (hf (As rfl T.Vp (za (ev 4) ze)))))))))))))))))))
def zw(ha:a ρ=.ok x)(hb:b ρ=.ok y)(h:f x y=.ok z):mOp f a b ρ=.ok z:=by unfold mOp;rw[ha,okb,hb,okb,h]
def zK(h:ms ρ=.ok xs)(h2:f xs=.ok x):zj f ms ρ=.ok x:=by unfold zj;rw[h,okb,h2]
def zS(ha:a ρ=.ok x)(h:ms ρ=.ok xs):zb a ms ρ=.ok (x::xs):=by unfold zb;rw[ha,okb,h,okb]
def fI(h:ms ρ=.ok xs)(hl:xs.length<=sizeLine):QM ms ρ=.ok (.l xs):=by unfold QM;rw[h,okb,if_pos hl]
def kW(ha:a ρ=.ok (.i x))(hn:0<n):mOp zX a (mC (.i n)) ρ=.ok (.i (x % n)):=zw ha rfl (kg hn)
def oa(ha:a ρ=.ok (.i x))(hn:0<n)(h2:n<1073741824):mOp QE a (mC (.i n)) ρ=.ok (.i (x / n)):=zw ha rfl (BC hn h2)
def D9(h:ρ[i]?=some (some (.i x)))(hd:0<d)(d2:d<1073741824)(hn:0<n):mOp zX (mOp QE (zc i) (mC (.i d))) (mC (.i n)) ρ=.ok (.i (x / d % n)):=
 kW (oa (by unfold zc;rw[h]) hd d2) hn
def bx(ha:a ρ=.ok (.i x)):yi (mOp (jq false) a (mC (.i n))) ρ=.ok (decide (x=n)):=by unfold yi;rw[zw (z:=.b (decide (x=n))) ha rfl (GC.trans (by rw[a0H]))];rfl
def Wt(ha:a ρ=.ok (.i x)):yi (mOp pGt a (mC (.i n))) ρ=.ok (decide (x>n)):=by unfold yi;rw[zw (z:=.b (decide (x>n))) ha rfl rfl];rfl
def J8(ha:a ρ=.ok x)(hb:b ρ=.ok y):eh a b ρ=.ok (x&&y):=by
 unfold eh;rw[ha,okb];cases x
 .rfl
 .rw[if_pos rfl,hb];rfl
def vP(h:c ρ=.ok x):sIf c a b ρ=if x=true then a ρ else b ρ:=by unfold sIf;rw[h,okb]
def Uy(h:m ρ=.ok x):jH m ρ=.ok (.rt x):=by unfold jH;rw[h,okb]
def tH(ha:a ρ=.ok (.i x)):yi (mOp pLt a (mC (.i n))) ρ=.ok (decide (x<n)):=by unfold yi;rw[zw (z:=.b (decide (x<n))) ha rfl rfl];rfl
def yP(h:m ρ=.ok (.b b)):yi m ρ=.ok b:=by unfold yi;rw[h];rfl
def V9(ha:a ρ=.ok x)(hb:b ρ=.ok y):mOr a b ρ=.ok (x||y):=by
 unfold mOr;rw[ha,okb];cases x
 .rw[if_neg P5,hb];rfl
 .rfl
def Cg(ha:a ρ=.ok x):Br a ρ=.ok (!x):=by unfold Br;rw[ha,okb]
def D_(ha:a ρ=.ok (.b x))(hb:b ρ=.ok (.b y)):xC a b ρ=.ok (.b (x&&y)):=by
 unfold xC;rw[ha,okb];show(Out.ok x).bind _=_;rw[okb];cases x
 .rfl
 .rw[if_pos rfl,hb];rfl
def Mo(ha:a ρ=.ok (.i x))(hb:b ρ=.ok (.i y))(hc:c ρ=.ok (.i z)):d_ pLe pLe a b c ρ=.ok (.b (decide (x<=y)&&decide (y<=z))):=by
 unfold d_;rw[ha,okb,hb,okb,show pLe (.i x) (.i y)=.ok (.b (decide (x<=y)))from rfl,okb];show(Out.ok (decide (x<=y))).bind _=_;rw[okb];cases decide (x<=y)
 .rfl
 .rw[if_pos rfl,hc,okb];rfl
def sz5{z:Str}(h:z.length<=100000):z.length<=sizeLine:=P7 h (by decide)
def signs_at(h:m ρ=.ok (.s z)):bc m ρ=.ok (z.cps.toList.map λc=>PV.s ⟨#[c]⟩):=by unfold bc;rw[h,okb];rfl
def Uz(h:ms ρ=.ok xs)(hl:xs.length<=sizeLine):YC ms ρ=.ok (.t xs):=by unfold YC;rw[h,okb,if_pos hl]
def tI(ha:a ρ=.ok false):eh a b ρ=.ok false:=by unfold eh;rw[ha,okb];rfl
def qD(h:p ρ G=.nx ρ' G')(h2:q ρ' G'=o):K5 p q ρ G=o:=by unfold K5;rw[h];exact h2
def Ea(h:p ρ G=.rt x G'):K5 p q ρ G=.rt x G':=by unfold K5;rw[h]
def Eb(h:c ρ G=.ok false G'):hIf c p q ρ G=q ρ G':=by unfold hIf;rw[h];rfl
def Mp(h:c ρ G=.ok true G'):hIf c p q ρ G=p ρ G':=by unfold hIf;rw[h];rfl
def HP(h0:Wj bs ρ=some r)(h2:m r=.ok b):hPT bs m ρ G=.ok b G:=by unfold hPT;rw[h0];dsimp only;rw[h2]
def Ec(h0:Wj bs ρ=none)(h1:KN G bs ρ=some r)(h2:m r=.ok b):hPT bs m ρ G=.ok b G:=by unfold hPT;rw[h0,h1];dsimp only;rw[h2]
def og(h0:Wj bs ρ=some r)(h2:m r=.ok x):hP bs m ρ G=.ok (.v x) G:=by unfold hP;rw[h0];dsimp only;rw[h2]
def Zf(h:m ρ G=.ok x G'):eS i m ρ G=.nx (ρ.set i (some x)) G':=by unfold eS;rw[h];rfl
def c7(h:m ρ G=.ok x G'):oG m ρ G=.rt x G':=by unfold oG;rw[h];rfl
def EZ:KN G bs []=some []:=by cases bs<;>rfl
def Mq(h:KN G [] ρ=some r):KN G [] (a::ρ)=some (none::r):=by show(KN G [] ρ).map _=_;rw[h];rfl
def oh(h:KN G bs ρ=some r):KN G (false::bs) (a::ρ)=some (none::r):=by show(KN G bs ρ).map _=_;rw[h];rfl
def oI(hx:YD G 8 x=some y)(h:KN G bs ρ=some r):KN G (true::bs) (some x::ρ)=some (some y::r):=by show(YD G 8 x).bind _=_;rw[hx,h];rfl
def IT(h:a.length+b.length<=n)(hn:n<=100000):zW (.s a) (.s b)=.ok (.s (a++b)):=by have:a.length+b.length<=sizeLine:=P7 (P7 h hn) (by decide);unfold zW;simp only[this,if_true]
def iy(h0:0<=i)(h1:i<xs.length):pIx (.l xs) (.i i)=.ok (xs[i.toNat]'(by omega)):=by rw[LW,rP h0,P0 (by omega)];rfl
def aV{xs:Ob}{i:Int}(h0:0<=i)(h1:i<xs.length):∃y∈xs,pIx (.l (xs.map .s)) (.i i)=.ok (.s y):=
 ⟨xs[i.toNat]'(by omega),a0A _,by rw[iy h0 (by rw[u8];exact h1),a0z]⟩
def tJ{xs:OB}{i:Int}(h0:0<=i)(h1:i<xs.length):∃y∈xs,pIx (.l (xs.map .i)) (.i i)=.ok (.i y):=
 ⟨xs[i.toNat]'(by omega),a0A _,by rw[iy h0 (by rw[u8];exact h1),a0z]⟩
def any_map{κ α β:Type}[DecidableEq κ]{f:α->β}{kvs:List (κ×α)}{k:κ}:(kvs.map λp=>(p.1,f p.2)).any (λkv=>decide (kv.1=k))=kvs.any (λkv=>decide (kv.1=k)):=by rw[List.any_map];rfl
def l5{κ α β:Type}[DecidableEq κ]{f:α->β}{kvs:List (κ×α)}{k:κ}{x:α}:dput (kvs.map λp=>(p.1,f p.2)) k (f x)=(dput kvs k x).map λp=>(p.1,f p.2):=by
 unfold dput;rw[any_map];split
 .rw[a0y,a0y];refine a08 λp _=>?_;show(if p.1=k then(p.1,f x)else(p.1,f p.2))=((if p.1=k then(p.1,x)else p).1,f (if p.1=k then(p.1,x)else p).2);split<;>rfl
 .rw[T1];rfl
def fJ{κ α β:Type}[DecidableEq κ]{f:α->β}:∀{kvs:List (κ×α)}{k:κ},yq (kvs.map λp=>(p.1,f p.2)) k=(yq kvs k).map f
 |[],_=>rfl
 | (j,u)::kvs,k=>by rw[O8,yM,yM,fJ];split<;>rfl
abbrev Wy:=Str×Str×Int
abbrev Ht:=List (Key×Int)
abbrev sk(z:Str):Key:=Sum.inr z
def wP(w:Wy):PV:=.t [.s w.1,.s w.2.1,.i w.2.2]
def hD(h:Ht):List (Key×PV):=h.map λp=>(p.1,.i p.2)
def tK:yq (hD h) k=(yq h k).map .i:=fJ
def HQ:dput (hD h) k (.i v)=hD (dput h k v):=l5
def HU:(hD h).length=h.length:=u8 _
def rlx(u:Ht×Bool)(w:Wy):Ht×Bool:=
 match yq u.1 (sk w.1)with
 |none=>u
 |some x=>match yq u.1 (sk w.2.1)with
  |none=>(dput u.1 (sk w.2.1) (x+w.2.2),true)
  |some y=>if x+w.2.2<y then(dput u.1 (sk w.2.1) (x+w.2.2),true)else u
def Ed(h:Ht):Nat:=(h.map λp=>p.2.toNat).sum
def Sup(V:List Wy)(o:Str)(h:Ht):Prop:=∀g y,yq h g=some y->g=sk o\/∃w∈V,sk w.2.1=g/\∃x,yq h (sk w.1)=some x/\x+w.2.2<=y
structure oi(V:List Wy)(K:OR)(o:Str)(h:Ht):Prop where
 sup:Sup V o h
 nd:(h.map (·.1)).Nodup
 sub:∀k∈h.map (·.1),k∈K
 pos:∀k x,yq h k=some x->0<=x
 own:yq h (sk o)=some 0
def Xm(h:Ht)(w:Wy):Prop:=∀x,yq h (sk w.1)=some x->∃y,yq h (sk w.2.1)=some y/\y<=x+w.2.2
def Ee(K:OR)(h' h:Ht):Prop:=Prod.Lex (·<·) (·<·) (K.length-h'.length,Ed h') (K.length-h.length,Ed h)
def UA{κ:Type}[DecidableEq κ]:∀{a b:List κ},a.Nodup->(∀x∈a,x∈b)->a.length<=b.length
 |[],b,_,_=>T6 _
 |x::a,b,nd,h=>by have hx:=h x O1;obtain⟨h1,h2⟩:=a0U.mp nd;have:=UA (a:=a) (b:=b.erase x) h2 λy hy=>(List.mem_erase_of_ne (show y≠x from λe=>h1 (e▸hy))).mpr (h y (O3 _ hy));rw[List.length_erase_of_mem hx]at this;have hb:0<b.length:=List.length_pos_of_mem hx;rw[N9];omega
def oi.len{V:List Wy}{K:OR}{o:Str}{h:Ht}(i:oi V K o h):h.length<=K.length:=by
 have:=UA i.nd i.sub
 rwa [u8]at this
def tL{k:Key}{v:Int}:∀{h:Ht}{y:Int},(h.map (·.1)).Nodup->yq h k=some y->v.toNat<y.toNat->Ed (h.map λkv=>if kv.1=k then(kv.1,v)else kv)<Ed h
 |[],y,_,e,_=>by cases e
 | (j,x)::h,y,nd,e,hv=>by
  rw[yM]at e;obtain⟨n1,n2⟩:=a0U.mp nd;by_cases c:j=k
  .subst c;rw[if_pos rfl]at e;cases e;have:(h.map λkv=>if kv.1=j then(kv.1,v)else kv)=h:=by
    conv=>rhs;rw[<- List.map_id h]
    refine a08 λp hp=>?_;rw[if_neg (show ¬p.1=j from λz=>n1 (a0s.mpr ⟨p,hp,z⟩))];rfl
   unfold Ed;rw[O8,this,if_pos rfl,O8,O8,a1P,a1P];exact Nat.add_lt_add_right hv _
  .rw[if_neg c]at e;have:=tL n2 e hv;unfold Ed at this ⊢;rw[O8,if_neg c,O8,O8,a1P,a1P];exact Nat.add_lt_add_left this _
def Sup.put{V:List Wy}{o:Str}{h:Ht}{w:Wy}{x:Int}(i:Sup V o h)(hw:w∈V)(hm:1<=w.2.2)(e1:yq h (sk w.1)=some x)(e2:∀y,yq h (sk w.2.1)=some y->x+w.2.2<y):Sup V o (dput h (sk w.2.1) (x+w.2.2)):=by
 have ne:¬sk w.2.1=sk w.1:=λc=>by rw[<- c]at e1;have:=e2 x e1;omega
 intro g y e;rw[Zo]at e;split at e
 .rename_i c;cases e;refine .inr ⟨w,hw,c,x,?_,a0N _⟩;rw[Zo,if_neg ne];exact e1
 .rcases i g y e with r|⟨w',hw',eg,x',ex,le⟩
  .exact .inl r
  .refine .inr ⟨w',hw',eg,?_⟩;rw[Zo];split
   .rename_i c;rw[<- c]at ex;have:=e2 x' ex;exact⟨_,rfl,by omega⟩
   .exact⟨x',ex,le⟩
def Ci{V:List Wy}{K:OR}{o:Str}{u:Ht×Bool}{w:Wy}(i:oi V K o u.1)(hv:w∈V)(hg:sk w.2.1∈K)(hm:1<=w.2.2):oi V K o (rlx u w).1/\((rlx u w=u/\Xm u.1 w)\/((rlx u w).2=true/\Ee K (rlx u w).1 u.1)):=by
 unfold rlx;cases e1:yq u.1 (sk w.1)with
 |none=>exact⟨i,.inl ⟨rfl,λx e=>by rw[e1]at e;cases e⟩⟩
 |some x=>
  have x0:=i.pos _ _ e1;dsimp only;cases e2:yq u.1 (sk w.2.1)with
  |none=>
   have i2:oi V K o (dput u.1 (sk w.2.1) (x+w.2.2)):=by
    refine⟨i.sup.put hv hm e1 (λy e=>by rw[e2]at e;cases e),bq i.nd,λk hk=>?_,λk y e=>?_,?_⟩
    .rw[Vj,e2]at hk;rcases T9.mp hk with hk|hk
     .exact i.sub k hk
     .rw[S0.mp hk];exact hg
    .rw[Zo]at e;split at e
     .cases e;omega
     .exact i.pos k y e
    .rw[Zo];split
     .rename_i z;rw[z]at e2;rw[i.own]at e2;cases e2
     .exact i.own
   refine⟨i2,.inr ⟨rfl,.left _ _ ?_⟩⟩;have hl:=i2.len;have:(dput u.1 (sk w.2.1) (x+w.2.2)).length=u.1.length+1:=by have:=a0e List.length (Vj (a:=u.1) (k:=sk w.2.1) (v:=x+w.2.2));rw[e2,u8]at this;rw[this];simp
   dsimp only at hl ⊢;omega
  |some y=>
   dsimp only;by_cases c:x+w.2.2<y
   .rw[if_pos c];have hk:(yq u.1 (sk w.2.1)).isSome=true:=by rw[e2];rfl
    have i2:oi V K o (dput u.1 (sk w.2.1) (x+w.2.2)):=by
     refine⟨i.sup.put hv hm e1 (λz e=>by rw[e2]at e;cases e;exact c),bq i.nd,λk hk2=>?_,λk z e=>?_,?_⟩
     .rw[Vj,if_pos hk]at hk2;exact i.sub k hk2
     .rw[Zo]at e;split at e
      .cases e;omega
      .exact i.pos k z e
     .rw[Zo];split
      .rename_i z;rw[z,i.own]at e2;cases e2;omega
      .exact i.own
    refine⟨i2,.inr ⟨rfl,?_⟩⟩;have e3:dput u.1 (sk w.2.1) (x+w.2.2)=u.1.map λkv=>if kv.1=sk w.2.1 then(kv.1,x+w.2.2)else kv:=by unfold dput;rw[Zn,if_pos hk]
    have hs:=tL (v:=x+w.2.2) i.nd e2 (by omega);unfold Ee;dsimp only;rw[e3,u8];exact .right _ hs
   .rw[if_neg c];exact⟨i,.inl ⟨rfl,λz e=>by rw[e1]at e;cases e;exact⟨y,e2,by omega⟩⟩⟩
def oj(h1:Ee K a b)(h2:Ee K b c):Ee K a c:=by unfold Ee at *;rw[Prod.lex_def]at *;dsimp only at *;omega
def l6{V:List Wy}{K:OR}{o:Str}:∀{W:List Wy}{u:Ht×Bool},oi V K o u.1->(∀w∈W,w∈V/\sk w.2.1∈K/\1<=w.2.2)->oi V K o (W.foldl rlx u).1/\((W.foldl rlx u=u/\∀w∈W,Xm u.1 w)\/((W.foldl rlx u).2=true/\Ee K (W.foldl rlx u).1 u.1))
 |[],u,i,_=>⟨i,.inl ⟨rfl,λw h=>by cases h⟩⟩
 |w::W,u,i,hW=>by
  obtain⟨v,g,m⟩:=hW w O1;obtain⟨i1,h1⟩:=Ci (u:=u) (w:=w) i v g m;obtain⟨i2,h2⟩:=l6 (W:=W) (u:=rlx u w) i1 λw' h=>hW w' (O3 _ h);refine⟨i2,?_⟩;rw[a0W];rcases h1 with⟨e1,c1⟩|⟨t1,l1⟩
  .rw[e1]at h2 ⊢;rcases h2 with⟨e2,c2⟩|h2
   .refine .inl ⟨e2,λw' h=>?_⟩;rcases P8.mp h with rfl|h
    .exact c1
    .exact c2 w' h
   .exact .inr h2
  .rcases h2 with⟨e2,c2⟩|⟨t2,l2⟩
   .rw[e2];exact .inr ⟨t1,l1⟩
   .exact .inr ⟨t2,oj l2 l1⟩
def Ef(r:Pb):Prop:=∃a b c d,r=[a,b,c,d]
abbrev hSt(o:Str)(W:List Wy)(h:Ht)(b:Bool)(r:Pb):Sto:=[some (.s o),some (.l (W.map wP)),some (.d (hD h)),some (.b b)]++r
def tM(ha:a ρ=.ok (.s z))(hi:zc i ρ=.ok (.d (hD h))):yi (mOp (pIn n) a (zc i)) ρ=.ok (xor n (yq h (sk z)).isSome):=by refine yP (zw ha hi ?_);show Out.ok (PV.b (xor n (yq (hD h) (sk z)).isSome))=_;rw[tK,a1g]
def Cj(ha:a ρ=.ok (.s z))(hi:zc i ρ=.ok (.d (hD h)))(hx:yq h (sk z)=some x):mOp pIx (zc i) a ρ=.ok (.i x):=by refine zw hi ha ?_;show Yt (yq (hD h) (sk z))=_;rw[tK,hx];rfl
def HW(ha:a ρ=.ok true):mOr a b ρ=.ok true:=by unfold mOr;rw[ha,okb];rfl
def Eg{o:Str}{W:List Wy}{h:Ht}{b:Bool}{w:Wy}{a7:OK}(hl:h.length<100000):∃a7',jg [some (.s o),some (.l (W.map wP)),some (.d (hD h)),some (.b b),some (.s w.1),some (.s w.2.1),some (.i w.2.2),a7]=.ok (.nx [some (.s o),some (.l (W.map wP)),some (.d (hD (rlx (h,b) w).1)),some (.b (rlx (h,b) w).2),some (.s w.1),some (.s w.2.1),some (.i w.2.2),a7']):=by
 have e1:=vP (ρ:=[some (.s o),some (.l (W.map wP)),some (.d (hD h)),some (.b b),some (.s w.1),some (.s w.2.1),some (.i w.2.2),a7]) (a:=yf (y8 7 (mOp zW (mOp pIx (zc 2) (zc 4)) (zc 6))) (sIf (mOr (yi (mOp (pIn true) (zc 5) (zc 2))) (yi (mOp pLt (zc 7) (mOp pIx (zc 2) (zc 5))))) (yf (Dl 2 (zc 5) (zc 7)) (y8 3 (mC (.b true)))) yc)) (b:=yc) (tM (n:=false) (a:=zc 4) (i:=2) rfl rfl);unfold rlx;dsimp only;cases c1:yq h (sk w.1)with
 |none=>rw[c1]at e1;exact⟨a7,e1⟩
 |some x=>
  rw[c1]at e1;have put:∀{ρ:Sto},ρ=[some (.s o),some (.l (W.map wP)),some (.d (hD h)),some (.b b),some (.s w.1),some (.s w.2.1),some (.i w.2.2),some (.i (x+w.2.2))]->yf (Dl 2 (zc 5) (zc 7)) (y8 3 (mC (.b true))) ρ=.ok (.nx [some (.s o),some (.l (W.map wP)),some (.d (hD (dput h (sk w.2.1) (x+w.2.2)))),some (.b true),some (.s w.1),some (.s w.2.1),some (.i w.2.2),some (.i (x+w.2.2))]):=λ{ρ} hρ=>by subst hρ;refine zd ⟨[some (.s o),some (.l (W.map wP)),some (.d (hD (dput h (sk w.2.1) (x+w.2.2)))),some (.b true),some (.s w.1),some (.s w.2.1),some (.i w.2.2),some (.i (x+w.2.2))].set 3 (some (.b b)),?_,rfl⟩;show(if(hD h).length<sizeLine then Out.ok (Fw.nx [some (.s o),some (.l (W.map wP)),some (.d (dput (hD h) (sk w.2.1) (.i (x+w.2.2)))),some (.b b),some (.s w.1),some (.s w.2.1),some (.i w.2.2),some (.i (x+w.2.2))])else .wall)=_;rw[if_pos (by rw[HU];exact P4 hl (by decide)),HQ];rfl
  have s7:y8 7 (mOp zW (mOp pIx (zc 2) (zc 4)) (zc 6)) [some (.s o),some (.l (W.map wP)),some (.d (hD h)),some (.b b),some (.s w.1),some (.s w.2.1),some (.i w.2.2),a7]=.ok (.nx [some (.s o),some (.l (W.map wP)),some (.d (hD h)),some (.b b),some (.s w.1),some (.s w.2.1),some (.i w.2.2),some (.i (x+w.2.2))]):=yr (zw (Cj rfl rfl c1) rfl rfl);refine⟨some (.i (x+w.2.2)),e1.trans ?_⟩;show yf _ _ _=_;refine zd ⟨_,s7,?_⟩;cases c2:yq h (sk w.2.1)with
  |none=>refine(vP (HW ((tM (n:=true) (a:=zc 5) (i:=2) rfl rfl).trans (by rw[c2];rfl)))).trans ?_;exact put rfl
  |some y=>
   dsimp only;have t:=vP (ρ:=[some (.s o),some (.l (W.map wP)),some (.d (hD h)),some (.b b),some (.s w.1),some (.s w.2.1),some (.i w.2.2),some (.i (x+w.2.2))]) (a:=yf (Dl 2 (zc 5) (zc 7)) (y8 3 (mC (.b true)))) (b:=yc) (V9 (x:=false) ((tM (n:=true) (a:=zc 5) (i:=2) rfl rfl).trans (by rw[c2];rfl)) (yP (m:=mOp pLt (zc 7) (mOp pIx (zc 2) (zc 5))) (b:=decide (x+w.2.2<y)) (zw rfl (Cj rfl rfl c2) rfl)));refine t.trans ?_;by_cases c:x+w.2.2<y
   .rw[if_pos c,O4 c];exact put rfl
   .rw[if_neg c,O6 c];rfl
def l7{K:OR}{o:Str}{W:List Wy}(hK:K.length<=1000)(hW:∀w∈W,sk w.2.1∈K/\1<=w.2.2):∀{V:List Wy}{u:Ht×Bool}{r:Pb},(∀w∈V,w∈W)->oi W K o u.1->Ef r->∃r',Ef r'/\QG Qh jg (V.map wP) (hSt o W u.1 u.2 r)=.ok (.nx (hSt o W (V.foldl rlx u).1 (V.foldl rlx u).2 r'))
 |[],u,r,_,_,hr=>⟨r,hr,rfl⟩
 |w::V,u,r,hV,i,hr=>by obtain⟨a4,a5,a6,a7,rfl⟩:=hr;obtain⟨a7',e⟩:=Eg (o:=o) (W:=W) (h:=u.1) (b:=u.2) (w:=w) (a7:=a7) (a1c (P7 i.len hK) (by decide));obtain⟨g,m⟩:=hW w (hV w O1);obtain⟨i1,_⟩:=Ci (u:=u) (w:=w) i (hV w O1) g m;obtain⟨r',hr',e2⟩:=l7 hK hW (V:=V) (u:=rlx u w) (r:=[some (.s w.1),some (.s w.2.1),some (.i w.2.2),a7']) (λw' h=>hV w' (O3 _ h)) i1 ⟨_,_,_,_,rfl⟩;refine⟨r',hr',?_⟩;rw[a0W,<- e2];show(jg [some (.s o),some (.l (W.map wP)),some (.d (hD u.1)),some (.b u.2),some (.s w.1),some (.s w.2.1),some (.i w.2.2),a7]).bind _=_;rw[e];rfl
def Ck(hK:K.length<=1000)(hW:∀w∈W,sk w.2.1∈K/\1<=w.2.2)(h:Ht)(i:oi W K o h)(r:Pb)(hr:Ef r):∃n h' r',oi W K o h'/\(∀w∈W,Xm h' w)/\kf jh y9 n (hSt o W h true r)=.ok (.nx (hSt o W h' false r')):=by
 obtain⟨r1,hr1,e1⟩:=l7 (o:=o) hK hW (V:=W) (u:=(h,false)) (λw h=>h) i hr;obtain⟨i1,c1⟩:=l6 (W:=W) (u:=(h,false)) i λw h=>⟨h,hW w h⟩;have eb:y9 (hSt o W h true r)=.ok (.nx (hSt o W (W.foldl rlx (h,false)).1 (W.foldl rlx (h,false)).2 r1)):=zd ⟨hSt o W h false r,rfl,qR (qq rfl) e1⟩;have one:∀{n o'},kf jh y9 n (hSt o W (W.foldl rlx (h,false)).1 (W.foldl rlx (h,false)).2 r1)=o'->kf jh y9 (n+1) (hSt o W h true r)=o':=λ{n o'} e=>by show(y9 (hSt o W h true r)).bind _=_;rw[eb];exact e
 rcases c1 with⟨e2,cl⟩|⟨t2,less⟩
 .refine⟨2,h,r1,i,cl,one ?_⟩;rw[e2];rfl
 .obtain⟨n,h',r',i',cl,e⟩:=Ck hK hW (W.foldl rlx (h,false)).1 i1 r1 hr1;refine⟨n+1,h',r',i',cl,one ?_⟩;rw[t2];exact e
termination_by (K.length-h.length,Ed h)
decreasing_by exact less
def c8(o:Str)(W:List Wy)(h:Ht):Prop:=oi W (sk o::W.map λw=>sk w.2.1) o h/\∀w∈W,Xm h w
def bz(hl:W.length<=100)(hm:∀w∈W,1<=w.2.2):∃h,c8 o W h/\yW [.s o,.l (W.map wP)]=.ok (.d (hD h)):=by
 have i0:oi W (sk o::W.map λw=>sk w.2.1) o [(sk o,0)]:=by
  refine⟨λg y e=>?_,a0U.mpr ⟨by simp,a2T⟩,λk hk=>?_,λk x e=>?_,?_⟩
  .rw[yM]at e;split at e
   .rename_i c;exact .inl c.symm
   .cases e
  .rw[S0.mp hk];exact O1
  .rw[yM]at e;split at e
   .cases e;exact a0N _
   .cases e
  .rw[yM,if_pos rfl]
 obtain⟨n,h',r',i',cl,e⟩:=Ck (o:=o) (W:=W) (K:=sk o::W.map λw=>sk w.2.1) (by rw[N9,u8];omega) (λw hw=>⟨O3 _ (a0s.mpr ⟨w,hw,rfl⟩),hm w hw⟩) [(sk o,0)] i0 [none,none,none,none] ⟨_,_,_,_,rfl⟩;refine⟨h',⟨i',cl⟩,yg ?_⟩;exact zd ⟨_,rfl,zd ⟨hSt o W [(sk o,0)] true [none,none,none,none],rfl,zd ⟨_,rQ e (by intro z;cases z),rfl⟩⟩⟩
abbrev signs:Str:="abcdefghijklmnopqrstuvwxyz0123456789"
def UB:signs.length=36:=by decide +kernel
def sgn(r:Int):Str:=⟨#[(signs.cps.toList[r.toNat]?).getD 0]⟩
def HY(h0:0<=r)(h1:r<36):pIx (.s signs) (.i r)=.ok (.s (sgn r)):=by
 unfold pIx;have hs:signs.length<=sizeLine:=by rw[UB];decide
 simp only[hs,if_true];have hl:r.toNat<signs.cps.toList.length:=by have:=UB;unfold Str.length at this;simp;omega
 rw[rP h0];unfold sgn;rw[P0 hl];rfl
def Eh:∀a:Fin 36,∀b:Fin 36,sgn (a.val:Int)=sgn (b.val:Int)->a=b:=by decide +kernel
def Ei(r0:0<=r)(r1:r<36)(s0:0<=s)(s1:s<36)(h:sgn r=sgn s):r=s:=by
 have:=Eh ⟨r.toNat,by omega⟩ ⟨s.toNat,by omega⟩ (by
  show sgn (r.toNat:Int)=sgn (s.toNat:Int);rw[a1t r0,a1t s0];exact h)
 have:=a0e Fin.val this;simp only at this;omega
def str_inj{a b a' b':Str}(hl:a.length=a'.length)(h:a++b=a'++b'):a=a'/\b=b':=by have h1:a.cps++b.cps=a'.cps++b'.cps:=a0e Str.cps h;have:=Array.append_inj h1 hl;obtain⟨x⟩:=a;obtain⟨y⟩:=b;obtain⟨x'⟩:=a';obtain⟨y'⟩:=b';obtain⟨h1,h2⟩:=this;exact⟨a0e Str.mk h1,a0e Str.mk h2⟩
def Sgs(z:Str):Prop:=∀c∈z.cps.toList,c∈signs.cps.toList
def Sgs.app(ha:Sgs a)(hb:Sgs b):Sgs (a++b):=λc hc=>by have e:(a++b).cps.toList=a.cps.toList++b.cps.toList:=Array.toList_append;rw[e]at hc;exact(T9.mp hc).elim (ha c) (hb c)
def Sgs.sgn{r:Int}(h0:0<=r)(h1:r<36):Sgs (sgn r):=λc hc=>by
 have hl:r.toNat<signs.cps.toList.length:=by have:=UB;unfold Str.length at this;simp;omega
 have e:(K21.sgn r).cps.toList=[signs.cps.toList[r.toNat]'hl]:=by show[(signs.cps.toList[r.toNat]?).getD 0]=_;rw[P0 hl];rfl
 rw[e]at hc;rw[S0.mp hc];exact a0A hl
def Nm(z:Str):Prop:=(1<=z.length/\z.length<=12)/\Sgs z
def nodup_range{α:Type}{f:Nat->α}(h:∀j k,j<n->k<n->f j=f k->j=k):((List.range n).map f).Nodup:=by rw[a2l,List.pairwise_map];refine List.Pairwise.imp_of_mem ?_ (a2l.mp List.nodup_range);intro a b ha hb hne e;exact hne (h a b (a0C.mp ha) (a0C.mp hb) e)
def Mr(ha:a ρ=.ok (.i n)):Zj a ρ=.ok (some n):=by unfold Zj;rw[ha];rfl
def WOk(N:Ob)(W:List Wy):Prop:=∀w∈W,w.1∈N/\w.2.1∈N/\1<=w.2.2/\w.2.2<=1000000000
def ZA{α:Type}{f:α->PV}{xs:List α}:QF [.l (xs.map f)]=.ok (.i (xs.length:Int)):=by show Out.ok (PV.i ((xs.map f).length:Int))=_;rw[u8]
def V_{N:Ob}{s:Int}(h:0<N.length):∃z∈N,pIx (.l (N.map .s)) (.i (s % (N.length:Int)))=.ok (.s z):=
 aV (S5 _ (by omega)) (R4 _ (by omega))
def tN{fr:Bool}{n:Nat}{ms:MS}{xs:Ov}{ρ:Sto}(hf:fr=false)(h:ms (xs.map some++List.replicate (n-xs.length) none)=.ok (.nx ρ)):QH fr n ms xs=.ok .n:=by subst hf;unfold QH;rw[h];rfl
def qk(h:m ρ=.ok x):ZQ m ρ=.ok (.nx ρ):=by unfold ZQ;rw[h];rfl
def iz{x:PV}{n:Int}{k:Nat}(h:QF [x]=.ok (.i (k:Int)))(hk:(k:Int)<=n):qf [x,.i n]=.ok .n:=by refine tN rfl ((vP (x:=false) (yP (zw (zK (xs:=[x]) rfl h) rfl ?_))).trans (show _=Out.ok (Fw.nx [some x,some (.i n)])from rfl));show Out.ok (PV.b (decide ((k:Int)>n)))=_;rw[O6 (by omega)]
def iA(h:Nm z):qj [.s z]=.ok (.s z):=by
 obtain⟨⟨l1,l2⟩,hs⟩:=h;have hl:QF [.s z]=.ok (.i z.length):=rO (sz5 (by omega));have loop:∀{cs:Od}{o:OK},(∀c∈cs,c∈signs.cps.toList)->∃o',QG vw yD (cs.map λc=>PV.s ⟨#[c]⟩) [some (.s z),o]=.ok (.nx [some (.s z),o']):=by
  intro cs
  induction cs with
  |nil=>intro o _;exact⟨o,rfl⟩
  |cons c cs ih=>
   intro o hc;obtain⟨o',e⟩:=ih (o:=some (.s ⟨#[c]⟩)) λx hx=>hc x (O3 _ hx);refine⟨o',?_⟩;have eb:yD [some (.s z),some (.s ⟨#[c]⟩)]=.ok (.nx [some (.s z),some (.s ⟨#[c]⟩)]):=by refine(vP (x:=false) (yP (zw (x:=.s ⟨#[c]⟩) (y:=.s signs) rfl rfl ?_))).trans rfl;show Out.ok (PV.b (xor true (!(Builtin.Str.occurrences signs ⟨#[c]⟩ 0 signs.length 1).isEmpty)))=_;rw[StrLaws.found_one,O4 (hc c O1)];rfl
   show(yD [some (.s z),some (.s ⟨#[c]⟩)]).bind _=_;rw[eb];exact e
 obtain⟨o',e⟩:=loop (cs:=z.cps.toList) (o:=none) hs;refine yg (zd ⟨_,(vP (V9 (x:=false) (y:=false) ((tH (x:=(z.length:Int)) (zK (xs:=[.s z]) rfl hl)).trans (by rw[O6 (by omega)])) ((Wt (x:=(z.length:Int)) (zK (xs:=[.s z]) rfl hl)).trans (by rw[O6 (by omega)])))).trans (show _=Out.ok (Fw.nx [some (.s z),none])from rfl),zd ⟨_,qR (signs_at rfl) e,rfl⟩⟩)
def bA(P:Ob):List (Key×PV):=P.map λz=>(sk z,.b true)
def l8(h:z∉P):yq (bA P) (sk z)=none:=by
 cases e:yq (bA P) (sk z)with
 |none=>rfl
 |some x=>have:=JD e;obtain⟨y,hy,e2⟩:=a0s.mp this;cases e2;exact absurd hy h
def tO{N:Ob}(nd:N.Nodup)(hN:∀z∈N,Nm z)(hl:N.length<=12):qJ [.l (N.map .s)]=.ok .n:=by
 have loop:∀{R P:Ob}{o:OK},P++R=N->∃P' o',QG Qk jm (R.map .s) [some (.l (N.map .s)),some (.d (bA P)),o]=.ok (.nx [some (.l (N.map .s)),some (.d (bA P')),o']):=by
  intro R
  induction R with
  |nil=>intro P o _;exact⟨P,o,rfl⟩
  |cons z R ih=>
   intro P o e;obtain⟨P',o',e'⟩:=ih (P:=P++[z]) (o:=some (.s z)) (by rw[a0m];exact e);refine⟨P',o',?_⟩;have hz:z∉P:=λh=>by rw[<- e]at nd;exact(a02.mp nd).2.2 z h z O1 rfl
   have hm:z∈N:=by rw[<- e];exact R7 _ O1
   have hp:(bA P).length<=12:=by have:=a0e List.length e;rw[O9]at this;unfold bA;rw[u8];omega
   have en:yh [.s z,.d (bA P)]=.ok (.s z):=by refine yg (zd ⟨_,qk (zK (xs:=[.s z]) rfl (iA (hN z hm))),zd ⟨_,(vP (x:=false) (yP (zw (x:=.s z) (y:=.d (bA P)) rfl rfl ?_))).trans (show _=Out.ok (Fw.nx [some (.s z),some (.d (bA P))])from rfl),rfl⟩⟩);show Out.ok (PV.b (xor false (yq (bA P) (sk z)).isSome))=_;rw[l8 hz];rfl
   have ed:dput (bA P) (sk z) (.b true)=bA (P++[z]):=by unfold dput;rw[Zn,l8 hz];unfold bA;rw[T1];rfl
   have eb:jm [some (.l (N.map .s)),some (.d (bA P)),some (.s z)]=.ok (.nx [some (.l (N.map .s)),some (.d (bA (P++[z]))),some (.s z)]):=by refine zd ⟨_,qk (zK (xs:=[.s z,.d (bA P)]) rfl en),?_⟩;show(if(bA P).length<sizeLine then Out.ok (Fw.nx [some (.l (N.map .s)),some (.d (dput (bA P) (sk z) (.b true))),some (.s z)])else .wall)=_;rw[if_pos (a1c hp (by decide)),ed]
   show(jm [some (.l (N.map .s)),some (.d (bA P)),some (.s z)]).bind _=_;rw[eb];exact e'
 obtain⟨P',o',e⟩:=loop (R:=N) (P:=[]) (o:=none) rfl;exact tN rfl (zd ⟨[some (.l (N.map .s)),some (.d (bA [])),none],rfl,qR (qq rfl) e⟩)
def HZ{z:Str}:∀{N:Ob},inP (.str z) (N.map .s)=some (decide (z∈N))
 |[]=>by rw[O6 (by simp)];rfl
 |y::N=>by
  show(match some (V.str y),inP (.str z) (N.map .s)with|some u,some b=>some (eqV u (.str z)||b)|_,_=>none)=_;rw[HZ (N:=N)];show some ((y==z)||decide (z∈N))=_;congr 1;by_cases c:y=z
  .subst c;rw[a05,O4 O1];rfl
  .rw[a0d.mpr c,Bool.false_or];by_cases h:z∈N
   .rw[O4 h,O4 (O3 _ h)]
   .rw[O6 h,O6 λq=>(P8.mp q).elim (λe=>c e.symm) h]
def tQ{z:Str}{N:Ob}{n:Bool}:pIn n (.s z) (.l (N.map .s))=.ok (.b (xor n (decide (z∈N)))):=by show Yt ((inP (.str z) (N.map .s)).map λb=>PV.b (xor n b))=_;rw[HZ];rfl
def vL{z:Str}{N:Ob}(h:z∈N):yI [.s z,.l (N.map .s)]=.ok .n:=
 tN rfl ((vP (x:=false) (yP (zw (x:=.s z) (y:=.l (N.map .s)) rfl rfl (tQ.trans (by rw[O4 h];rfl))))).trans (show _=Out.ok (Fw.nx [some (.s z),some (.l (N.map .s))])from rfl))
def tR(h1:1<=m)(h2:m<=1000000000):zT [.i m,.i 1]=.ok (.i m):=by refine yg (zd ⟨_,(vP (V9 (x:=false) (y:=false) (yP (zw (x:=.i m) (y:=.i 1) rfl rfl ?_)) ((Wt (x:=m) rfl).trans (by rw[O6 (by omega)])))).trans (show _=Out.ok (Fw.nx [some (.i m),some (.i 1)])from rfl),rfl⟩);show Out.ok (PV.b (decide (m<1)))=_;rw[O6 (by omega)]
def AF(h:WOk N W):jB [.l (N.map .s),.l (W.map wP)]=.ok .n:=by
 have loop:∀{V:List Wy}{a b c:OK},(∀w∈V,w∈W)->∃a' b' c',QG JY kN (V.map wP) [some (.l (N.map .s)),some (.l (W.map wP)),a,b,c]=.ok (.nx [some (.l (N.map .s)),some (.l (W.map wP)),a',b',c']):=by
  intro V
  induction V with
  |nil=>intro a b c _;exact⟨a,b,c,rfl⟩
  |cons w V ih=>
   intro a b c hV;obtain⟨h1,h2,h3,h4⟩:=h w (hV w O1);obtain⟨a',b',c',e⟩:=ih (a:=some (.s w.1)) (b:=some (.s w.2.1)) (c:=some (.i w.2.2)) λx hx=>hV x (O3 _ hx);refine⟨a',b',c',?_⟩;have eb:kN [some (.l (N.map .s)),some (.l (W.map wP)),some (.s w.1),some (.s w.2.1),some (.i w.2.2)]=.ok (.nx [some (.l (N.map .s)),some (.l (W.map wP)),some (.s w.1),some (.s w.2.1),some (.i w.2.2)]):=
    zd ⟨_,qk (zK (xs:=[.s w.1,.l (N.map .s)]) rfl (vL h1)),zd ⟨_,qk (zK (xs:=[.s w.2.1,.l (N.map .s)]) rfl (vL h2)),qk (zK (xs:=[.i w.2.2,.i 1]) rfl (tR h3 h4))⟩⟩
   show(kN [some (.l (N.map .s)),some (.l (W.map wP)),some (.s w.1),some (.s w.2.1),some (.i w.2.2)]).bind _=_;rw[eb];exact e
 obtain⟨a',b',c',e⟩:=loop (V:=W) (a:=none) (b:=none) (c:=none) λw h=>h;exact tN rfl (qR (qq rfl) e)
def gk(N:Ob)(F:Str->Ht):List (Key×PV):=N.map λz=>(sk z,.d (hD (F z)))
def roP(N:Ob)(W:List Wy)(F:Str->Ht):PV:=.o 12 [("places",.l (N.map .s)),("ways",.l (W.map wP)),("lengths",.d (gk N F))]
def AG:∀{acc:Oz},((acc++es).map (·.1)).Nodup->es.foldl (λacc kv=>dput acc kv.1 kv.2) acc=acc++es:=by
 induction es with
 |nil=>intro acc _;rw[R8];rfl
 |cons e es ih=>
  intro acc nd;have hn:yq acc e.1=none:=by
   cases h:yq acc e.1 with
   |none=>rfl
   |some x=>have hm:e.1∈acc.map (·.1):=a0s.mpr ⟨_,JD h,rfl⟩;rw[T1,O8]at nd;exact absurd rfl ((a02.mp nd).2.2 e.1 hm e.1 O1)
  have ed:dput acc e.1 e.2=acc++[e]:=by unfold dput;rw[Zn,hn];rfl
  rw[a0W,ed,ih (by rw[a0m];exact nd),a0m];rfl
def AI(nd:N.Nodup):((gk N F).map (·.1)).Nodup:=by unfold gk;rw[a0y];exact List.Pairwise.map _ (λa b h e=>h (a1e e)) nd
def Ej(h:o∈N):yq (gk N F) (sk o)=some (.d (hD (F o))):=by
 induction N with
 |nil=>cases h
 |cons z N ih=>
  unfold gk;rw[O8,yM];by_cases c:sk z=sk o
  .rw[if_pos c];rw[a1e c]
  .rw[if_neg c];exact ih ((P8.mp h).resolve_left λe=>c (by rw[e]))
def l9{F:Str->Ht}:∀{N:Ob},Dz (N.map λz=>.t [.s z,.d (hD (F z))])=some (gk N F)
 |[]=>rfl
 |z::N=>by show(Dz (N.map λz=>.t [.s z,.d (hD (F z))])).map ((sk z,PV.d (hD (F z)))::·)=_;rw[l9 (N:=N)];rfl
def tT(h:m (some (.o 12 fs)::r)=.ok v)(hl:fs.length<1000):gZ 0 [12] f m (some (.o 12 fs)::r)=.ok (.nx (some (.o 12 (uE fs f v))::r)):=by unfold gZ;rw[h];show(if 12∈[12]/\fs.length<1000 then Out.ok (Fw.nx (some (PV.o 12 (uE fs f v))::r))else .wall)=_;rw[if_pos ⟨O1,hl⟩]
structure ROk(N:Ob)(W:List Wy):Prop where
 len:N.length<=12
 nd:N.Nodup
 nm:∀z∈N,Nm z
 wl:W.length<=60
 ok:WOk N W
def iB(R:ROk N W):∃F:Str->Ht,∀z,c8 z W (F z)/\yW [.s z,.l (W.map wP)]=.ok (.d (hD (F z))):=
 ⟨λz=>Classical.choose (bz (o:=z) (W:=W) (by have:=R.wl;omega) λw hw=>(R.ok w hw).2.2.1),λz=>T7 (bz (o:=z) (W:=W) (by have:=R.wl;omega) λw hw=>(R.ok w hw).2.2.1)⟩
def Ek(R:ROk N W)(hF:∀z,yW [.s z,.l (W.map wP)]=.ok (.d (hD (F z)))):qV [.l (N.map .s),.l (W.map wP)]=.ok (roP N W F):=by
 have hl:=R.len;have hw:=R.wl;have ec:lcP Jb Jc Jd (N.map .s) [none,some (.l (W.map wP))] []=.ok (.l (N.map λz=>.t [.s z,.d (hD (F z))])):=by refine XQ PV.s (λz=>.t [.s z,.d (hD (F z))]) (λρ=>∃o,ρ=[o,some (.l (W.map wP))]) N [none,some (.l (W.map wP))] ⟨none,rfl⟩ (λz hz ρ ⟨o,ho⟩=>?_) (by omega);subst ho;exact⟨_,rfl,⟨_,rfl⟩,Uz (zS rfl (zS (zK (xs:=[.s z,.l (W.map wP)]) rfl (hF z)) rfl)) (O7 rfl)⟩
 have ed:eN [.l (N.map λz=>.t [.s z,.d (hD (F z))])]=.ok (.d (gk N F)):=by show Yt ((Dz (N.map λz=>.t [.s z,.d (hD (F z))])).map λes=>PV.d (lG es))=_;rw[l9];show Out.ok (PV.d (lG (gk N F)))=_;unfold lG;rw[AG (acc:=[]) (by rw[a1v];exact AI R.nd)];rfl
 have e:Zw [some (.o 12 []),some (.l (N.map .s)),some (.l (W.map wP))]=.ok (.nx [some (roP N W F),some (.l (N.map .s)),some (.l (W.map wP))]):=by refine zd ⟨_,qk (zK (xs:=[.l (N.map .s),.i 12]) rfl (iz ZA (by omega))),zd ⟨_,qk (zK (xs:=[.l (W.map wP),.i 60]) rfl (iz ZA (by omega))),zd ⟨_,qk (zK (xs:=[.l (N.map .s)]) rfl (tO R.nd R.nm hl)),zd ⟨_,qk (zK (xs:=[.l (N.map .s),.l (W.map wP)]) rfl (AF R.ok)),zd ⟨_,tT (v:=.l (N.map .s)) rfl (by decide),zd ⟨_,tT (v:=.l (W.map wP)) rfl (O7 rfl),(tT (v:=.d (gk N F)) (zK (zS (nF (qq rfl) ec) rfl) ed) (O7 rfl)).trans ?_⟩⟩⟩⟩⟩⟩;rw[cw,XN (by decide +kernel),cw,XN (by decide +kernel),XN (by decide +kernel),cw];rfl
 show(match Zw [some (.o 12 []),some (.l (N.map .s)),some (.l (W.map wP))]with | .ok (.nx ρ)=>(match ρ[0]? with|some (some x)=>Out.ok x|_=>.wall) | .ok (.rt _)=>.wall | .ok (.bk _)=>.wall | .ok (.ct _)=>.wall | .exc c fs=>.exc c fs | .wall=>.wall)=_;rw[e];rfl
def c_(h:m ρ=.ok (roP N W F)):ny [12] "places" m ρ=.ok (.l (N.map .s))/\ny [12] "lengths" m ρ=.ok (.d (gk N F)):=by
 constructor
 .unfold ny;rw[h,okb];show(if 12∈[12]then Yt (List.lookup ("places":Str) [("places",PV.l (N.map .s)),("ways",.l (W.map wP)),("lengths",.d (gk N F))])else .wall)=_;rw[if_pos O1,lD];rfl
 .unfold ny;rw[h,okb];show(if 12∈[12]then Yt (List.lookup ("lengths":Str) [("places",PV.l (N.map .s)),("ways",.l (W.map wP)),("lengths",.d (gk N F))])else .wall)=_;rw[if_pos O1,vZ (by decide +kernel),vZ (by decide +kernel),lD];rfl
def c8.El(g:c8 o W h)(e:yq h (sk z)=some y)(hz:z≠o):∃w∈W,w.2.1=z/\∃x,yq h (sk w.1)=some x/\x+w.2.2=y:=by
 rcases g.1.sup _ _ e with c|⟨w,hw,eg,x,ex,le⟩
 .exact absurd (a1e c) hz
 .have eg:=a1e eg;obtain⟨y',ey,le'⟩:=g.2 w hw x ex;rw[eg,e]at ey;cases ey;exact⟨w,hw,eg,x,ex,by omega⟩
def E1:Option Int->PV
 |none=>.n
 |some x=>.i x
def H_(ha:a ρ=.ok (.d (hD h)))(hb:b ρ=.ok (.s z)):IJ a b ρ=.ok (E1 (yq h (sk z))):=by unfold IJ;rw[ha,okb];show(b ρ).bind (DN (hD h))=_;rw[hb,okb];show Out.ok ((yq (hD h) (sk z)).getD .n)=_;rw[tK];cases yq h (sk z)<;>rfl
def NX(ha:a ρ=.ok (.d (gk N F)))(hb:b ρ=.ok (.s o))(ho:o∈N):mOp pIx a b ρ=.ok (.d (hD (F o))):=by refine zw ha hb ?_;show Yt (yq (gk N F) (sk o))=_;rw[Ej ho];rfl
def om(ho:o∈N)(hg:g∈N):yJ [roP N W F,.s o,.s g]=.ok (E1 (yq (F o) (sk g))):=by have q:=c_ (m:=zc 0) (ρ:=[some (roP N W F),some (.s o),some (.s g)]) (N:=N) (W:=W) (F:=F) rfl;exact yg (zd ⟨_,qk (zK (xs:=[.s o,.l (N.map .s)]) (zS rfl (zS q.1 rfl)) (vL ho)),zd ⟨_,qk (zK (xs:=[.s g,.l (N.map .s)]) (zS rfl (zS q.1 rfl)) (vL hg)),Uy (H_ (NX q.2 rfl ho) rfl)⟩⟩)
def AJ(ha:a ρ=.ok (roP N W F))(hm:ms ρ=.ok xs)(h1:(nm==("places":Str))=false)(h2:(nm==("ways":Str))=false)(h3:(nm==("lengths":Str))=false)(h:f (roP N W F::xs)=.ok x):nB [(12,f)] nm a ms ρ=.ok x:=by unfold nB;rw[ha,okb];show(if(List.lookup nm [("places",PV.l (N.map .s)),("ways",.l (W.map wP)),("lengths",.d (gk N F))]).isSome=true then Out.wall else(ms ρ).bind λxs=>f (roP N W F::xs))=_;rw[vZ h1,vZ h2,vZ h3,GF,if_neg (by intro z;cases z),hm,okb];exact h
def UC(h1:ms ρ=.ok [.s x,.s y])(h2:m ρ=.ok (.dt L)):yi (gh n ms m) ρ=.ok (xor n (yq L [sk x,sk y]).isSome):=by refine yP ?_;unfold gh;rw[h1];show(m ρ).bind (inT n [sk x,sk y])=_;rw[h2];rfl
def bB(h2:m ρ=.ok (.dt L))(h1:ms ρ=.ok [.s x,.s y])(e:yq L [sk x,sk y]=some v):lM m ms ρ=.ok (.i v):=by unfold lM;rw[h2,okb,h1,okb];show Yt ((yq L [sk x,sk y]).map PV.i)=_;rw[e];rfl
abbrev Lst:=List (List Key×Int)
def Qb(h:0<=k):∃x:Int,zY [.sc ns,.i k]=.ok (.i x):=by
 suffices h:∃x:Int,Y_ [some (.sc ns),some (.i k)]=.ok (.rt (.i x))from h.imp λ_ e=>yg e
 have t:=vP (ρ:=[some (.sc ns),some (.i k)]) (a:=jH (mOp pIx (zc 0) (zc 1))) (b:=yc) (yP (m:=mOp pLt (zc 1) (zj QF (zb (zc 0) zm))) (b:=decide (k<(ns.length:Int))) (zw rfl (zK (xs:=[.sc ns]) rfl rfl) rfl));by_cases c:k<ns.length
 .rw[O4 c]at t;have e:pIx (.sc ns) (.i k)=.ok (.i (ns[k.toNat]'(by omega))):=by show Yt ((atI ns k).map PV.i)=_;rw[rP h,P0 (by omega)];rfl
  exact⟨_,kh (t.trans (Uy (zw rfl rfl e)))⟩
 .rw[O6 c]at t;exact⟨0,zd ⟨_,t,rfl⟩⟩
def vx(h:0<=k)(hp:0<p):∃x:Int,0<=x/\zJ [.sc ns,.i k,.i p]=.ok (.i x):=by obtain⟨c,e⟩:=Qb (ns:=ns) h;have a0:=S5 c (show(1000000007:Int)≠0 by decide);have a1:=R4 c (show(0:Int)<1000000007 by decide);have e1:mOp zX (zj zY (zb (zc 0) (zb (zc 1) zm))) (mC (.i 1000000007)) [some (.sc ns),some (.i k),some (.i p)]=.ok (.i (c % 1000000007)):=kW (zK (xs:=[.sc ns,.i k]) rfl e) (by decide);exact⟨_,S5 _ (by omega),yg (Uy (zw (zw e1 rfl (XM (by omega) (by omega))) rfl (kg hp)))⟩
def l_(r:OB):Str:=⟨(r.map λi=>(signs.cps.toList[i.toNat]?).getD 0).toArray⟩
def VD:(l_ r).length=r.length:=by show((r.map λi=>(signs.cps.toList[i.toNat]?).getD 0).toArray).size=_;rw[P9,u8]
def Jf:l_ (i::r)=sgn i++l_ r:=by show(⟨((signs.cps.toList[i.toNat]?).getD 0::r.map λi=>(signs.cps.toList[i.toNat]?).getD 0).toArray⟩:Str)=⟨#[(signs.cps.toList[i.toNat]?).getD 0]++(r.map λi=>(signs.cps.toList[i.toNat]?).getD 0).toArray⟩;rw[List.toArray_cons]
def mf:∀{r r':OB},(∀i∈r,0<=i/\i<36)->(∀i∈r',0<=i/\i<36)->l_ r=l_ r'->r=r'
 |[],[],_,_,_=>rfl
 |[],_::_,_,_,h=>by have:=a0e Str.length h;rw[VD,VD]at this;cases this
 |_::_,[],_,_,h=>by have:=a0e Str.length h;rw[VD,VD]at this;cases this
 |i::r,j::r',h1,h2,h=>by rw[Jf,Jf]at h;obtain⟨a,b⟩:=str_inj (a:=sgn i) (a':=sgn j) rfl h;have hi:=h1 i O1;have hj:=h2 j O1;rw[Ei hi.1 hi.2 hj.1 hj.2 a,mf (λx hx=>h1 x (O3 _ hx)) (λx hx=>h2 x (O3 _ hx)) b]
def mj:∀{r:OB},(∀i∈r,0<=i/\i<36)->Sgs (l_ r)
 |[],_=>λc hc=>by have:(l_ []).cps.toList=[]:=rfl;rw[this]at hc;cases hc
 |i::r,h=>by rw[Jf];have hi:=h i O1;exact(Sgs.sgn hi.1 hi.2).app (mj λx hx=>h x (O3 _ hx))
def fK:∀(r:OB)(a:OQ),(r.map sgn).foldl (λacc p=>acc++(Str.ofString "").cps++p.cps) a=a++(l_ r).cps
 |[],a=>by show a=a++#[];rw[a3k]
 |i::r,a=>by rw[O8,a0W,fK r,Jf];show a++#[]++(sgn i).cps++(l_ r).cps=a++((sgn i).cps++(l_ r).cps);rw[a3k,a29]
def AK:Txt.join "" (r.map sgn)=l_ r:=by
 cases r with
 |nil=>rfl
 |cons i r=>show(⟨(r.map sgn).foldl (λacc p=>acc++(Str.ofString "").cps++p.cps) (sgn i).cps⟩:Str)=_;rw[fK,Jf];rfl
def mq:∀{r:OB},((r.map sgn).map (λt:Str=>t.length)).sum=r.length
 |[]=>rfl
 |i::r=>by rw[O8,O8,a1P,mq,N9];show 1+_=_;omega
def Em(h:m ρ=.ok (.l ((r.map sgn).map .s)))(hl:r.length<=1000):Ma eU (mC (.s "")) m ρ=.ok (.s (l_ r)):=by
 show(m ρ).bind (eU "")=_;rw[h,okb];show(match nO ((r.map sgn).map .s)with
  |some (ys:Ob)=>if(ys.map (λt:Str=>t.length)).sum+ys.length*("":Str).length<=16777216 then Out.ok (PV.s (Txt.join "" ys))else .wall
  |none=>.wall)=_
 rw[cF];show(if _ then _ else _)=_;have z:("":Str).length=0:=rfl;rw[if_pos (by rw[mq,z];omega),AK]
def fL{α:Type}{xs:List α}(h:0<=i):eC xs none (some i)=xs.take i.toNat:=by
 unfold eC;show List.take ((if i<0 then(i+(xs.length:Int)).toNat else min i.toNat xs.length)-0) (xs.drop 0)=_;rw[if_neg (by omega),Nat.sub_zero,List.drop_zero];by_cases c:i.toNat<=xs.length
 .rw[Nat.min_eq_left c]
 .rw[Nat.min_eq_right (by omega),a1M (O2 _),a1M (by omega)]
def mr{α:Type}{xs:List α}{i:Int}(h:0<=i)(h2:i<=xs.length):eC xs (some i) none=xs.drop i.toNat:=by unfold eC;show List.take (xs.length-(if i<0 then(i+(xs.length:Int)).toNat else min i.toNat xs.length)) (xs.drop (if i<0 then(i+(xs.length:Int)).toNat else min i.toNat xs.length))=_;rw[if_neg (by omega),Nat.min_eq_left (by omega),a1M (by rw[a0K];omega)]
def ZC(sg:OB)(c:Int)(k:Nat):List Int:=sg.take (1+c % 11).toNat++if k % 2=1 then sg.drop 11 else[]
def En(sg:OB)(c w:Int)(k:Nat):List Int:=(ZC sg c k).set (w / 4 % ((ZC sg c k).length:Int)).toNat ((((ZC sg c k)[(w / 4 % ((ZC sg c k).length:Int)).toNat]?).getD 0+k) % 36)
def rowOf(sg:OB)(c w:Int)(n k:Nat):List Int:=
 if w % 4=1/\n<=12 then sg.take (1+k)else if w % 4=2/\n<=12 then sg.take (n-k)else En sg c w k
def Xn(h:sg.length=12):((ZC sg c k).length:Int)=1+c % 11+(k % 2:Nat):=by
 have a0:=S5 c (show(11:Int)≠0 by decide);have a1:=R4 c (show(0:Int)<11 by decide);unfold ZC;rw[O9,a0f,h];have:k % 2=0\/k % 2=1:=by omega
 rcases this with e|e
 .rw[if_neg (by omega)];show((min _ 12+0:Nat):Int)=_;omega
 .rw[if_pos e,a0K,h];omega
def AL(h:i∈ZC sg c k):i∈sg:=by
 unfold ZC at h;rcases T9.mp h with h|h
 .exact a03 h
 .split at h
  .exact a23 h
  .cases h
def AN(h:j % 2=k % 2):ZC sg c j=ZC sg c k:=by unfold ZC;rw[h]
def mw(h:∀i∈sg,0<=i/\i<36):∀i∈rowOf sg c w n k,0<=i/\i<36:=λi hi=>by
 unfold rowOf at hi;split at hi
 .exact h i (a03 hi)
 .split at hi
  .exact h i (a03 hi)
  .rcases List.mem_or_eq_of_mem_set hi with q|q
   .exact h i (AL q)
   .rw[q];exact⟨S5 _ (by decide),R4 _ (by decide)⟩
def tU(h:sg.length=12)(hk:k<n):1<=(rowOf sg c w n k).length/\(rowOf sg c w n k).length<=12:=by
 have a0:=S5 c (show(11:Int)≠0 by decide);have a1:=R4 c (show(0:Int)<11 by decide);have:=Xn (c:=c) (k:=k) h;unfold rowOf;split
 .rw[a0f,h];omega
 .split
  .rw[a0f,h];omega
  .unfold En;rw[T5];omega
def Eo(h:sg.length=12)(hn:n<=16)(hj:j<n)(hk:k<n)(e:rowOf sg c w n j=rowOf sg c w n k):j=k:=by
 have a0:=S5 c (show(11:Int)≠0 by decide);have a1:=R4 c (show(0:Int)<11 by decide);have l1:=Xn (c:=c) (k:=j) h;have l2:=Xn (c:=c) (k:=k) h;unfold rowOf at e;have el:=a0e List.length e;by_cases c1:w % 4=1/\n<=12
 .rw[if_pos c1,if_pos c1,a0f,a0f,h]at el;omega
 .rw[if_neg c1,if_neg c1]at el e;by_cases c2:w % 4=2/\n<=12
  .rw[if_pos c2,if_pos c2,a0f,a0f,h]at el;omega
  .rw[if_neg c2,if_neg c2]at el e;unfold En at el e;rw[T5,T5]at el;have p:j % 2=k % 2:=by omega
   rw[AN (sg:=sg) (c:=c) p]at e l1;have s0:=S5 (w / 4) (show((ZC sg c k).length:Int)≠0 by omega);have s1:=R4 (w / 4) (show(0:Int)<((ZC sg c k).length:Int) by omega);have hs:(w / 4 % ((ZC sg c k).length:Int)).toNat<(ZC sg c k).length:=by omega
   generalize(w / 4 % ((ZC sg c k).length:Int)).toNat=s at e hs;have e2:=a0e (λl:List Int=>l[s]?) e;replace e2:((ZC sg c k).set s ((((ZC sg c k)[s]?).getD 0+(j:Int)) % 36))[s]?=((ZC sg c k).set s ((((ZC sg c k)[s]?).getD 0+(k:Int)) % 36))[s]?:=e2;rw[S6 hs,S6 hs]at e2;have e3:=T4 e2;omega
def iC(sg:OB)(c w:Int)(n k:Nat):List Str:=(List.range k).map λk=>l_ (rowOf sg c w n k)
def mulL(h0:0<=b)(h1:b<=1)(hl:xs.length<=100):Ys (.l xs) (.i b)=.ok (.l (List.replicate b.toNat xs).flatten):=by
 have:b.toNat=0\/b.toNat=1:=by omega
 exact if_pos ⟨by omega,by omega,P7 (m:=100) (by rcases this with e|e<;>rw[e]<;>omega) (by decide)⟩
def mx(h:ρ[i]?=some (some (.l xs)))(hm:m ρ=.ok y)(hl:xs.length<100000):rj i m ρ=.ok (.nx (ρ.set i (some (.l (xs++[y]))))):=by unfold rj;rw[h];show(m ρ).bind _=_;rw[hm,okb,if_pos (P4 hl (by decide))]
abbrev nSt(ns:OB)(a:Int)(n:Nat)(c w:Int)(sg:OB)(k:Nat)(x y z:OK):Sto:=[some (.sc ns),some (.i a),some (.i (n:Int)),some (.s signs),some (.i c),some (.l (sg.map .i)),some (.i w),some (.l ((iC sg c w n k).map .s)),x,y,z]
def AO(h:sg.length=12)(hs:∀i∈sg,0<=i/\i<36)(hk:k<n)(hn:n<=16):∃x' y' z',Qa (nSt ns a n c w sg k (some (.i (k:Int))) y z)=.ok (.nx (nSt ns a n c w sg (k+1) x' y' z')):=by
 have a0:=S5 c (show(11:Int)≠0 by decide);have a1:=R4 c (show(0:Int)<11 by decide);have lB:=Xn (c:=c) (k:=k) h
 -- the row
 have e1:y8 9 (mOp xR (zj jI (zb (mSl pSl (zc 5) aX (Zj (mOp zW (mC (.i 1)) (mOp zX (zc 4) (mC (.i 11)))))) zm)) (mOp Ys (mSl pSl (zc 5) (Zj (mC (.i 11))) aX) (mOp zX (zc 8) (mC (.i 2))))) (nSt ns a n c w sg k (some (.i (k:Int))) y z)=.ok (.nx (nSt ns a n c w sg k (some (.i (k:Int))) (some (.l ((ZC sg c k).map .i))) z)):=by
  have x1:mSl pSl (zc 5) aX (Zj (mOp zW (mC (.i 1)) (mOp zX (zc 4) (mC (.i 11))))) (nSt ns a n c w sg k (some (.i (k:Int))) y z)=.ok (.l ((sg.take (1+c % 11).toNat).map .i)):=by unfold mSl;rw[show zc 5 (nSt ns a n c w sg k (some (.i (k:Int))) y z)=.ok (.l (sg.map .i))from rfl,okb,show aX (nSt ns a n c w sg k (some (.i (k:Int))) y z)=.ok none from rfl,okb,Mr (zw rfl (kW rfl (by decide)) rfl),okb];show Out.ok (PV.l (eC (sg.map PV.i) none (some (1+c % 11))))=_;rw[fL (by omega),a1s]
  have x2:mSl pSl (zc 5) (Zj (mC (.i 11))) aX (nSt ns a n c w sg k (some (.i (k:Int))) y z)=.ok (.l ((sg.drop 11).map .i)):=by show Out.ok (PV.l (eC (sg.map PV.i) (some 11) none))=_;rw[mr (by decide) (by rw[u8];omega),a24];rfl
  refine yr (zw (zK (zS x1 rfl) rfl) (zw x2 (kW rfl (by decide)) (z:=.l ((if k % 2=1 then sg.drop 11 else[]).map .i)) ?_) ?_)
  .have:k % 2=0\/k % 2=1:=by omega
   rw[mulL (by omega) (by omega) (by rw[u8,a0K];omega)];rcases this with e|e
   .rw[if_neg (by omega),show((k:Int) % 2).toNat=0 by omega];rfl
   .rw[if_pos e,show((k:Int) % 2).toNat=1 by omega];show Out.ok (PV.l ((sg.drop 11).map PV.i++[]))=_;rw[R8]
  .show(if _ then _ else _)=_;have l2:(if k % 2=1 then sg.drop 11 else[]).length<=1:=by
    split
    .rw[a0K];omega
    .exact T6 _
   rw[if_pos (P7 (m:=100) (by rw[u8,u8,a0f];omega) (by decide)),<- T1];rfl
 have s0:=S5 (w / 4) (show((ZC sg c k).length:Int)≠0 by omega);have s1:=R4 (w / 4) (show(0:Int)<((ZC sg c k).length:Int) by omega);have hs':(w / 4 % ((ZC sg c k).length:Int)).toNat<(ZC sg c k).length:=by omega
 have e3:rn 9 (zc 10) (mOp zX (mOp zW (mOp pIx (zc 9) (zc 10)) (zc 8)) (mC (.i 36))) (nSt ns a n c w sg k (some (.i (k:Int))) (some (.l ((ZC sg c k).map .i))) (some (.i (w / 4 % ((ZC sg c k).length:Int)))))=.ok (.nx (nSt ns a n c w sg k (some (.i (k:Int))) (some (.l ((En sg c w k).map .i))) (some (.i (w / 4 % ((ZC sg c k).length:Int)))))):=by
  have x1:mOp pIx (zc 9) (zc 10) (nSt ns a n c w sg k (some (.i (k:Int))) (some (.l ((ZC sg c k).map .i))) (some (.i (w / 4 % ((ZC sg c k).length:Int)))))=.ok (.i (((ZC sg c k)[(w / 4 % ((ZC sg c k).length:Int)).toNat]?).getD 0)):=by refine zw rfl rfl ((iy s0 (by rw[u8];exact s1)).trans ?_);rw[a0z,P0 hs'];rfl
  unfold rn;rw[kW (zw x1 rfl rfl) (by decide),okb];show(match ixN ((ZC sg c k).map PV.i).length (w / 4 % ((ZC sg c k).length:Int))with
   |some j=>Out.ok (Fw.nx _)
   |none=>.wall)=_
  rw[show ixN ((ZC sg c k).map PV.i).length (w / 4 % ((ZC sg c k).length:Int))=some (w / 4 % ((ZC sg c k).length:Int)).toNat by unfold ixN;rw[u8,if_pos s0,if_pos s1]];show Out.ok (Fw.nx (nSt ns a n c w sg k (some (.i (k:Int))) (some (.l (((ZC sg c k).map PV.i).set _ (PV.i _)))) _))=_;rw[<- List.map_set];rfl
 have t1:sIf (eh (yi (mOp (jq false) (mOp zX (zc 6) (mC (.i 4))) (mC (.i 1)))) (yi (mOp pLe (zc 2) (mC (.i 12))))) (y8 9 (mSl Di (zc 5) aX (Zj (mOp zW (mC (.i 1)) (zc 8))))) yc (nSt ns a n c w sg k (some (.i (k:Int))) (some (.l ((En sg c w k).map .i))) (some (.i (w / 4 % ((ZC sg c k).length:Int)))))=.ok (.nx (nSt ns a n c w sg k (some (.i (k:Int))) (some (.l ((if w % 4=1/\n<=12 then sg.take (1+k)else En sg c w k).map .i))) (some (.i (w / 4 % ((ZC sg c k).length:Int)))))):=by
  refine(vP (x:=decide (w % 4=1)&&decide ((n:Int)<=12)) (J8 (bx (kW rfl (by decide))) (yP (zw rfl rfl rfl)))).trans ?_;by_cases c1:w % 4=1/\n<=12
  .rw[if_pos (by rw[O4 c1.1,O4 (show(n:Int)<=12 by omega)];rfl),if_pos c1];refine(yr (x:=.l ((sg.take (1+k)).map .i)) ?_);show Out.ok (PV.l (eC (sg.map PV.i) none (some (1+(k:Int)))))=_;rw[fL (by omega),a1s,show(1+(k:Int)).toNat=1+k by omega]
  .rw[if_neg (λq=>c1 (by obtain⟨x,y⟩:=(a04 _ _).mp q;exact⟨a0g x,by have:=a0g y;omega⟩)),if_neg c1];rfl
 have t2:sIf (eh (yi (mOp (jq false) (mOp zX (zc 6) (mC (.i 4))) (mC (.i 2)))) (yi (mOp pLe (zc 2) (mC (.i 12))))) (y8 9 (mSl Di (zc 5) aX (Zj (mOp gO (zc 2) (zc 8))))) yc (nSt ns a n c w sg k (some (.i (k:Int))) (some (.l ((if w % 4=1/\n<=12 then sg.take (1+k)else En sg c w k).map .i))) (some (.i (w / 4 % ((ZC sg c k).length:Int)))))=.ok (.nx (nSt ns a n c w sg k (some (.i (k:Int))) (some (.l ((rowOf sg c w n k).map .i))) (some (.i (w / 4 % ((ZC sg c k).length:Int)))))):=by
  refine(vP (x:=decide (w % 4=2)&&decide ((n:Int)<=12)) (J8 (bx (kW rfl (by decide))) (yP (zw rfl rfl rfl)))).trans ?_;unfold rowOf;by_cases c1:w % 4=2/\n<=12
  .rw[if_pos (by rw[O4 c1.1,O4 (show(n:Int)<=12 by omega)];rfl),if_neg (show ¬(w % 4=1/\n<=12) by omega),if_neg (show ¬(w % 4=1/\n<=12) by omega),if_pos c1];refine(yr (x:=.l ((sg.take (n-k)).map .i)) ?_);show Out.ok (PV.l (eC (sg.map PV.i) none (some ((n:Int)-(k:Int)))))=_;rw[fL (by omega),a1s,show((n:Int)-(k:Int)).toNat=n-k by omega]
  .rw[if_neg (λq=>c1 (by obtain⟨x,y⟩:=(a04 _ _).mp q;exact⟨a0g x,by have:=a0g y;omega⟩)),if_neg c1];rfl
 have rl:=tU (c:=c) (w:=w) h hk;have ri:=mw (c:=c) (w:=w) (n:=n) (k:=k) hs;have e6:lcP Yc Yd Ye ((rowOf sg c w n k).map .i) [none,some (.s signs)] []=.ok (.l (((rowOf sg c w n k).map sgn).map .s)):=by rw[a0y];refine XQ (λi:Int=>PV.i i) (λi:Int=>PV.s (sgn i)) (λρ=>∃o,ρ=[o,some (.s signs)]) _ _ ⟨none,rfl⟩ (λi hi ρ ⟨o,ho⟩=>?_) (by omega);subst ho;exact⟨_,rfl,⟨_,rfl⟩,zw rfl rfl (HY (ri i hi).1 (ri i hi).2)⟩
 have e7:(iC sg c w n k).map PV.s++[PV.s (l_ (rowOf sg c w n k))]=(iC sg c w n (k+1)).map .s:=by unfold iC;rw[List.range_succ,T1,T1];rfl
 have e8:=mx (i:=7) (ρ:=nSt ns a n c w sg k (some (.i (k:Int))) (some (.l ((rowOf sg c w n k).map .i))) (some (.i (w / 4 % ((ZC sg c k).length:Int))))) rfl (Em (r:=rowOf sg c w n k) (nF (mi:=qa (zc 9)) (fr:=[none,some 3]) (g:=Yc) (c:=Yd) (e:=Ye) (qq rfl) e6) (by omega)) (by rw[u8,iC,u8,a0b];omega);rw[e7]at e8;exact⟨_,_,_,zd ⟨_,e1,zd ⟨_,yr (zw (oa rfl (by decide) (by decide)) (zK (xs:=[.l ((ZC sg c k).map .i)]) rfl ZA) (kg (by omega))),zd ⟨_,e3,zd ⟨_,t1,zd ⟨_,t2,e8⟩⟩⟩⟩⟩⟩
def fO(ha:0<=a)(hn:n<=16):∃N:List Str,N.length=n/\N.Nodup/\(∀z∈N,Nm z)/\ju [.sc ns,.i a,.i (n:Int)]=.ok (.l (N.map .s)):=by
 obtain⟨cl,ec⟩:=Qb (ns:=ns) ha;obtain⟨w,w0,ew⟩:=vx (ns:=ns) (k:=a+1) (p:=65537) (by omega) (by decide);have c0:=S5 cl (show(1000000007:Int)≠0 by decide);have c1:=R4 cl (show(0:Int)<1000000007 by decide);have e4:y8 4 (mOp zX (zj zY (zb (zc 0) (zb (zc 1) zm))) (mC (.i 1000000007))) [some (.sc ns),some (.i a),some (.i (n:Int)),some (.s signs),none,none,none,none,none,none,none]=.ok (.nx [some (.sc ns),some (.i a),some (.i (n:Int)),some (.s signs),some (.i (cl % 1000000007)),none,none,none,none,none,none]):=yr (kW (zK (xs:=[.sc ns,.i a]) rfl ec) (by decide));generalize cl % 1000000007=c at c0 c1 e4;have hsg:∀i∈(List.range 12).map (λj:Nat=>(c*16807+7919*(j:Int)*j) % 65521 % 36),0<=i/\i<36:=λi hi=>by obtain⟨j,_,rfl⟩:=a0s.mp hi;exact⟨S5 _ (by decide),R4 _ (by decide)⟩
 have e5:y8 5 (mLC (YI (zb (mC (.i 12)) zm)) [none,some 4] JU JV JW) [some (.sc ns),some (.i a),some (.i (n:Int)),some (.s signs),some (.i c),none,none,none,none,none,none]=.ok (.nx [some (.sc ns),some (.i a),some (.i (n:Int)),some (.s signs),some (.i c),some (.l (((List.range 12).map (λj:Nat=>(c*16807+7919*(j:Int)*j) % 65521 % 36)).map .i)),none,none,none,none,none]):=by refine yr (nF (eK (n:=12) rfl (by decide)) ?_);rw[Xf,a0y];refine XQ (λk:Nat=>PV.i (k:Int)) (λj:Nat=>PV.i ((c*16807+7919*(j:Int)*j) % 65521 % 36)) (λρ=>∃o,ρ=[o,some (.i c)]) _ _ ⟨none,rfl⟩ (λj hj ρ ⟨o,ho⟩=>?_) (by decide);subst ho;have hj:=a0C.mp hj;exact⟨_,rfl,⟨_,rfl⟩,kW (kW (zw (zw rfl rfl (XM (by omega) (by omega))) (zw (zw rfl rfl (XM (by decide) (by decide))) rfl (XM (by omega) (by omega))) rfl) (by decide)) (by decide)⟩
 have l12:((List.range 12).map (λj:Nat=>(c*16807+7919*(j:Int)*j) % 65521 % 36)).length=12:=by rw[u8,a0b]
 generalize(List.range 12).map (λj:Nat=>(c*16807+7919*(j:Int)*j) % 65521 % 36)=sg at e5 hsg l12;obtain⟨ρ',⟨x,y,z,hρ⟩,ef⟩:=Xg (g:=Vy) (b:=Qa) (λk ρ=>∃x y z,ρ=nSt ns a n c w sg k x y z) n (nSt ns a n c w sg 0 none none none) ⟨_,_,_,rfl⟩ (λk hk ρ ⟨x,y,z,hρ⟩=>by
  subst hρ;obtain⟨x',y',z',e⟩:=AO (ns:=ns) (a:=a) (c:=c) (w:=w) (y:=y) (z:=z) l12 hsg hk hn;exact⟨_,rfl,_,⟨_,_,_,rfl⟩,.inl e⟩)
 subst hρ;refine⟨iC sg c w n n,by unfold iC;rw[u8,a0b],nodup_range λj k hj hk e=>Eo l12 hn hj hk (mf (mw hsg) (mw hsg) e),λs hs=>?_,yg (zd ⟨_,rfl,zd ⟨_,e4,zd ⟨_,e5,zd ⟨_,yr (zK (xs:=[.sc ns,.i (a+1),.i 65537]) rfl ew),zd ⟨_,rfl,zd ⟨_,qR (eK (n:=n) rfl (by omega)) ef,rfl⟩⟩⟩⟩⟩⟩)⟩;obtain⟨k,hk,rfl⟩:=a0s.mp hs;have hk:=a0C.mp hk;have:=tU (c:=c) (w:=w) l12 hk;exact⟨by rw[VD];exact this,mj (mw hsg)⟩
def WS(N:Ob)(W:List Wy):Prop:=∀w∈W,w.1∈N/\w.2.1∈N/\1<=w.2.2/\w.2.2<=200000000
def WS.ok(h:WS N W):WOk N W:=λw hw=>by obtain⟨a,b,c,d⟩:=h w hw;exact⟨a,b,c,by omega⟩
def WS.app(h:WS N W)(ha:a∈N)(hg:g∈N)(h1:1<=m)(h2:m<=200000000):WS N (W++[(a,g,m)]):=λw hw=>by
 rcases T9.mp hw with hw|hw
 .exact h w hw
 .rw[S0.mp hw];exact⟨ha,hg,h1,h2⟩
abbrev wSt(ns:OB)(a:Int)(N:Ob)(f:Int)(W:List Wy)(x y:OK):Sto:=[some (.sc ns),some (.i a),some (.l (N.map .s)),some (.i (N.length:Int)),some (.i f),some (.l (W.map wP)),x,y]
def tV(h:m (wSt ns a N f W x y)=.ok (.t [.s o,.s g,.i n]))(hl:W.length<1000):rj 5 m (wSt ns a N f W x y)=.ok (.nx (wSt ns a N f (W++[(o,g,n)]) x y)):=by refine(mx rfl h (by rw[u8];omega)).trans ?_;show Out.ok (Fw.nx [some (.sc ns),some (.i a),some (.l (N.map .s)),some (.i (N.length:Int)),some (.i f),some (.l (W.map wP++[wP (o,g,n)])),x,y])=_;rw[show W.map wP++[wP (o,g,n)]=(W++[(o,g,n)]).map wP by rw[T1];rfl]
def AQ(ha:0<=a)(h0:0<N.length)(h1:N.length<=12):∃W:List Wy,W.length<=N.length+8/\WS N W/\vS [.sc ns,.i a,.l (N.map .s)]=.ok (.l (W.map wP)):=by
 obtain⟨u,u0,eu⟩:=vx (ns:=ns) (k:=a) (p:=65521) ha (by decide);obtain⟨v,v0,ev⟩:=vx (ns:=ns) (k:=a+1) (p:=65519) (by omega) (by decide);obtain⟨r,r0,er⟩:=vx (ns:=ns) (k:=a+2) (p:=65479) (by omega) (by decide);obtain⟨f,hf,ef⟩:=tJ (xs:=[60,60,3,200000000]) (i:=u % 4) (S5 _ (by decide)) (R4 _ (by decide));have hf:1<=f/\f<=200000000:=by simp only[List.mem_cons,List.not_mem_nil,or_false]at hf;omega
 have F0:=λx:Int=>S5 x (show f≠0 by omega);have F1:=λx:Int=>R4 x (show(0:Int)<f by omega);obtain⟨W1,x1,y1,l1,g1,q1⟩:∃(W:List Wy)(x y:OK),W.length<=N.length/\WS N W/\sIf (yi (mOp pGt (mOp zX (zj zJ (zb (zc 0) (zb (mOp zW (zc 1) (mC (.i 1))) (zb (mC (.i 65519)) zm)))) (mC (.i 3))) (mC (.i 0)))) (VZ (YI (zb (zc 3) zm)) Zt Zu) yc (wSt ns a N f [] none none)=.ok (.nx (wSt ns a N f W x y)):=by
  have t:=vP (ρ:=wSt ns a N f [] none none) (a:=VZ (YI (zb (zc 3) zm)) Zt Zu) (b:=yc) (Wt (a:=mOp zX (zj zJ (zb (zc 0) (zb (mOp zW (zc 1) (mC (.i 1))) (zb (mC (.i 65519)) zm)))) (mC (.i 3))) (n:=0) (kW (zK (xs:=[.sc ns,.i (a+1),.i 65519]) rfl ev) (by decide)));generalize decide (v % 3>0)=d at t;cases d with
  |false=>exact⟨[],none,none,T6 _,λw hw=>(nomatch hw),t⟩
  |true=>
   obtain⟨ρ',⟨W,x,y,lW,gW,hρ⟩,e⟩:=Xg (g:=Zt) (b:=Zu) (λk ρ=>∃W x y,W.length=k/\WS N W/\ρ=wSt ns a N f W x y) N.length (wSt ns a N f [] none none) ⟨[],none,none,rfl,λw hw=>(nomatch hw),rfl⟩ (λk hk ρ ⟨W,x,y,lW,gW,hρ⟩=>by
    subst hρ;obtain⟨o,ho,eo⟩:=aV (xs:=N) (i:=(k:Int)) (by omega) (by omega);obtain⟨g,hg,eg⟩:=V_ (N:=N) (s:=(k:Int)+1) h0;obtain⟨s,_,es⟩:=vx (ns:=ns) (k:=a+k) (p:=65497) (by omega) (by decide);have:=F0 s;have:=F1 s;refine⟨_,rfl,_,⟨W++[(o,g,1+s % f)],some (.i (k:Int)),y,by rw[O9,lW];rfl,gW.app ho hg (by omega) (by omega),rfl⟩,.inl (tV (Uz (zS (zw rfl rfl eo) (zS (zw rfl (zw (zw rfl rfl rfl) rfl (kg (by omega))) eg) (zS (zw rfl (zw (zK (xs:=[.sc ns,.i (a+k),.i 65497]) rfl es) rfl (kg (by omega))) rfl) rfl))) (O7 rfl)) (by omega))⟩)
   subst hρ;exact⟨W,x,y,by omega,gW,t.trans (qR (eK (n:=N.length) rfl (by omega)) e)⟩
 have R0:=S5 r (show(9:Int)≠0 by decide);have R1:=R4 r (show(0:Int)<9 by decide);have er2:zb (mOp zX (zj zJ (zb (zc 0) (zb (mOp zW (zc 1) (mC (.i 2))) (zb (mC (.i 65479)) zm)))) (mC (.i 9))) zm (wSt ns a N f W1 x1 y1)=.ok [.i (r % 9)]:=zS (kW (zK (xs:=[.sc ns,.i (a+2),.i 65479]) rfl er) (by decide)) rfl;generalize r % 9=m at R0 R1 er2;obtain⟨ρ',⟨W,x,y,lW,gW,hρ⟩,e⟩:=Xg (g:=Wn) (b:=Wo) (λk ρ=>∃W x y,W.length<=W1.length+k/\WS N W/\ρ=wSt ns a N f W x y) m.toNat (wSt ns a N f W1 x1 y1) ⟨W1,x1,y1,O2 _,g1,rfl⟩ (λk hk ρ ⟨W,x,y,lW,gW,hρ⟩=>by
  subst hρ;obtain⟨s,es⟩:=Qb (ns:=ns) (k:=a+k) (by omega);obtain⟨o,ho,eo⟩:=V_ (N:=N) (s:=s) h0;obtain⟨g,hg,eg⟩:=V_ (N:=N) (s:=s / (N.length:Int)) h0;have:=F0 (s / 25);have:=F1 (s / 25);refine⟨_,rfl,_,⟨W++[(o,g,1+s / 25 % f)],some (.i (k:Int)),some (.i s),by rw[O9];show W.length+1<=_;omega,gW.app ho hg (by omega) (by omega),rfl⟩,.inl (zd ⟨wSt ns a N f W (some (.i (k:Int))) (some (.i s)),yr (zK (xs:=[.sc ns,.i (a+k)]) rfl es),tV (Uz (zS (zw rfl (zw rfl rfl (kg (by omega))) eo) (zS (zw rfl (zw (zw rfl rfl (BC (by omega) (by omega))) rfl (kg (by omega))) eg) (zS (zw rfl (zw (oa rfl (by decide) (by decide)) rfl (kg (by omega))) rfl) rfl))) (O7 rfl)) (by omega)⟩)⟩)
 subst hρ;exact⟨W,by omega,gW,yg (zd ⟨_,yr (zK (xs:=[.l (N.map .s)]) rfl ZA),zd ⟨_,yr (zw (fI (xs:=[.i 60,.i 60,.i 3,.i 200000000]) rfl (O7 rfl)) (kW (zK (xs:=[.sc ns,.i a,.i 65521]) rfl eu) (by decide)) ef),zd ⟨_,rfl,zd ⟨_,q1,zd ⟨_,qR (hU er2 R0 (by omega)) e,rfl⟩⟩⟩⟩⟩)⟩
def tW(h:m ρ=.ok (.dt L))(h1:ms ρ=.ok [.s x,.s y])(h2:md ρ=.ok (.i n)):nQ m ms md ρ=.ok (.i ((yq L [sk x,sk y]).getD n)):=by unfold nQ;rw[h,okb];show(ms ρ).bind _=_;rw[h1,okb];show(md ρ).bind (Mh L [sk x,sk y])=_;rw[h2,okb];rfl
def iD(h:ρ[i]?=some (some (.dt L)))(h1:ms ρ=.ok [.s x,.s y])(h2:mv ρ=.ok (.i n))(hl:L.length<100000):eV i ms mv ρ=.ok (.nx (ρ.set i (some (.dt (dput L [sk x,sk y] n))))):=by unfold eV;rw[h2,okb,h,h1];show(if _ then _ else _)=_;exact if_pos (P4 hl (by decide))
def my{κ α:Type}[DecidableEq κ]{L:List (κ×α)}{k:κ}{v:α}:(dput L k v).length<=L.length+1:=by
 unfold dput;split
 .rw[u8];omega
 .rw[O9];exact O2 _
def Ia:([sk a,sk b]=[sk c,sk d])↔(a=c/\b=d):=by
 constructor
 .intro h;injection h with h1 h2
  injection h2 with h2 _
  exact⟨a1e h1,a1e h2⟩
 .rintro ⟨rfl,rfl⟩;rfl
inductive WkM(N:Ob)(W:List Wy)(M:Ob):Str->Str->Int->Prop
 |nil {a}:a∈N->WkM N W M a a 0
 |edge {w:Wy}:w∈W->WkM N W M w.1 w.2.1 w.2.2
 |via {a m b u v}:m∈M->WkM N W M a m u->WkM N W M m b v->WkM N W M a b (u+v)
section
variable {N M:Ob}{W:List Wy}{L L' L0:Lst}{a b m:Str}{u v:Int}
def WkM.nn(hW:WS N W)(h:WkM N W M a b v):0<=v:=by
 induction h with
 |nil _=>exact a0N _
 |edge hw=>have:=(hW _ hw).2.2.1;omega
 |via _ _ _ i j=>omega
def WkM.ends(hW:WS N W)(h:WkM N W M a b v):a∈N/\b∈N:=by
 induction h with
 |nil h=>exact⟨h,h⟩
 |edge hw=>exact⟨(hW _ hw).1,(hW _ hw).2.1⟩
 |via _ _ _ i j=>exact⟨i.1,j.2⟩
def WkM.split(hM:∀z∈M',z∈M\/z=x)(hW:WS N W)(h:WkM N W M' a b v):(∃u,u<=v/\WkM N W M a b u)\/∃s t,s+t<=v/\WkM N W M a x s/\WkM N W M x b t:=by
 induction h with
 |nil h=>exact .inl ⟨_,a0N _,.nil h⟩
 |edge hw=>exact .inl ⟨_,a0N _,.edge hw⟩
 |via hm _ _ i j=>
  rcases hM _ hm with hm|rfl
  .rcases i with⟨u1,l1,w1⟩|⟨s1,t1,l1,p1,q1⟩<;>rcases j with⟨u2,l2,w2⟩|⟨s2,t2,l2,p2,q2⟩
   .exact .inl ⟨_,by omega,.via hm w1 w2⟩
   .exact .inr ⟨_,_,by omega,.via hm w1 p2,q2⟩
   .exact .inr ⟨_,_,by omega,p1,.via hm q1 w2⟩
   .have:=q1.nn hW;have:=p2.nn hW;exact .inr ⟨_,_,by omega,p1,q2⟩
  .rcases i with⟨u1,l1,w1⟩|⟨s1,t1,l1,p1,q1⟩<;>rcases j with⟨u2,l2,w2⟩|⟨s2,t2,l2,p2,q2⟩
   .exact .inr ⟨_,_,by omega,w1,w2⟩
   .have:=p2.nn hW;exact .inr ⟨_,_,by omega,w1,q2⟩
   .have:=q1.nn hW;exact .inr ⟨_,_,by omega,p1,w2⟩
   .have:=q1.nn hW;have:=p2.nn hW;exact .inr ⟨_,_,by omega,p1,q2⟩
def at2(L:Lst)(a b:Str):Option Int:=yq L [sk a,sk b]
def Snd(N:Ob)(W:List Wy)(L:Lst):Prop:=∀a b v,at2 L a b=some v->WkM N W N a b v
def qp(L:Lst)(a b:Str)(v:Int):Prop:=∃u,u<=v/\at2 L a b=some u
def Dwn(L L':Lst):Prop:=∀a b v,at2 L a b=some v->qp L' a b v
def Cmp(N:Ob)(W:List Wy)(M:Ob)(L:Lst):Prop:=∀a b v,WkM N W M a b v->qp L a b v
def Dwn.refl:Dwn L L:=λ_ _ v h=>⟨v,a0N _,h⟩
def qp.dwn(h:qp L a b v)(d:Dwn L L'):qp L' a b v:=by obtain⟨u,l,e⟩:=h;obtain⟨w,l',e'⟩:=d _ _ _ e;exact⟨w,by omega,e'⟩
def Dwn.trans(d:Dwn L L')(d':Dwn L' L''):Dwn L L'':=λa b v h=>(d a b v h).dwn d'
def AR(L:Lst)(a b:Str)(v:Int):Lst:=dput L [sk a,sk b] (min v ((yq L [sk a,sk b]).getD v))
def UD:at2 (dput L [sk a,sk b] v) c d=if a=c/\b=d then some v else at2 L c d:=by
 unfold at2;rw[Zo];by_cases h:a=c/\b=d
 .rw[if_pos h,if_pos (Ia.mpr h)]
 .rw[if_neg h,if_neg λe=>h (Ia.mp e)]
def de:Dwn L (AR L a b v):=λc d w h=>by
 unfold AR qp;rw[UD];by_cases q:a=c/\b=d
 .obtain⟨rfl,rfl⟩:=q;rw[if_pos ⟨rfl,rfl⟩];unfold at2 at h;rw[h];exact⟨_,Int.min_le_right _ _,rfl⟩
 .rw[if_neg q];exact⟨w,a0N _,h⟩
def tX:qp (AR L a b v) a b v:=by unfold AR qp;rw[UD,if_pos ⟨rfl,rfl⟩];exact⟨_,Int.min_le_left _ _,rfl⟩
def mz(h:Snd N W L)(hw:WkM N W N a b v):Snd N W (AR L a b v):=λc d w e=>by
 unfold AR at e;rw[UD]at e;split at e
 .rename_i q;obtain⟨rfl,rfl⟩:=q;cases e;cases hq:yq L [sk a,sk b]with
  |none=>rw[Option.getD_none,Int.min_self];exact hw
  |some x=>
   rw[Option.getD_some];rcases Int.le_total v x with l|l
   .rw[Int.min_eq_left l];exact hw
   .rw[Int.min_eq_right l];exact h _ _ _ hq
 .exact h _ _ _ e
def mB:(AR L a b v).length<=L.length+1:=my
abbrev lSt(N:Ob)(W:List Wy)(L:Lst)(p q r s t z:OK):Sto:=[some (.l (N.map .s)),some (.l (W.map wP)),some (.dt L),p,q,r,s,t,z]
variable {p q r s t z:OK}
def Ms(hl:N.length<=12):∃L p,L.length<=N.length/\Snd N W L/\(∀x∈N,qp L x x 0)/\QG wZ w4 (N.map .s) (lSt N W [] none q r s t z)=.ok (.nx (lSt N W L p q r s t z)):=by
 obtain⟨ρ',⟨L,p,l,hs,hc,rfl⟩,e⟩:=V0 (g:=wZ) (b:=w4) PV.s (λk ρ=>∃L p,L.length<=k/\Snd N W L/\(∀x∈N.take k,qp L x x 0)/\ρ=lSt N W L p q r s t z) N (lSt N W [] none q r s t z) ⟨[],none,O2 _,λ_ _ _ e=>(nomatch(show(none:OV)=some _ from e)),λx hx=>(nomatch hx),rfl⟩ (λk hk ρ ⟨L,p,l,hs,hc,hρ⟩=>by
  subst hρ;refine⟨_,rfl,_,⟨dput L [sk N[k],sk N[k]] 0,some (.s N[k]),P7 my (by omega),λc d w e=>?_,λx hx=>?_,rfl⟩,.inl (iD rfl rfl rfl (by omega))⟩
  .rw[UD]at e;split at e
   .rename_i h;obtain⟨rfl,rfl⟩:=h;cases e;exact .nil (a0A _)
   .exact hs _ _ _ e
  .unfold qp;rw[UD];by_cases h:N[k]=x/\N[k]=x
   .rw[if_pos h];exact⟨0,a0N _,rfl⟩
   .rw[if_neg h];rw[a0j hk]at hx;rcases T9.mp hx with hx|hx
    .exact hc x hx
    .have:=S0.mp hx;exact absurd ⟨this.symm,this.symm⟩ h)
 exact⟨L,p,l,hs,λx hx=>hc x (by rw[a0L];exact hx),e⟩
def Mu(hl:L0.length<=12)(hW:W.length<=60)(h0:Snd N W L0):∃L q r s,L.length<=L0.length+W.length/\Snd N W L/\Dwn L0 L/\(∀w∈W,qp L w.1 w.2.1 w.2.2)/\QG w6 w8 (W.map wP) (lSt N W L0 p none none none t z)=.ok (.nx (lSt N W L p q r s t z)):=by
 obtain⟨ρ',⟨L,q,r,s,l,hs,hd,hc,rfl⟩,e⟩:=V0 (g:=w6) (b:=w8) wP (λk ρ=>∃L q r s,L.length<=L0.length+k/\Snd N W L/\Dwn L0 L/\(∀w∈W.take k,qp L w.1 w.2.1 w.2.2)/\ρ=lSt N W L p q r s t z) W (lSt N W L0 p none none none t z) ⟨L0,none,none,none,O2 _,h0,Dwn.refl,λx hx=>(nomatch hx),rfl⟩ (λk hk ρ ⟨L,q,r,s,l,hs,hd,hc,hρ⟩=>by
  subst hρ;refine⟨_,rfl,_,⟨AR L W[k].1 W[k].2.1 W[k].2.2,some (.s W[k].1),some (.s W[k].2.1),some (.i W[k].2.2),P7 mB (by omega),mz hs (.edge (a0A _)),hd.trans de,λx hx=>?_,rfl⟩,.inl (iD rfl rfl (zK (zS rfl (zS (tW rfl rfl rfl) rfl)) rfl) (by omega))⟩;rw[a0j hk]at hx;rcases T9.mp hx with hx|hx
  .exact(hc x hx).dwn de
  .rw[S0.mp hx];exact tX)
 exact⟨L,q,r,s,l,hs,hd,λx hx=>hc x (by rw[a0L];exact hx),e⟩
end
section
variable {N M:Ob}{W:List Wy}{L L' L0:Lst}{a b m:Str}{u v:Int}{p q r s t z:OK}
def Ep(h:Snd N W L)(hm:m∈N)(hl:L.length<100000):∃L' z',L'.length<=L.length+1/\Snd N W L'/\Dwn L L'/\(∀x y,qp L a m x->qp L m b y->qp L' a b (x+y))/\jW (lSt N W L p (some (.s a)) (some (.s b)) s (some (.s m)) z)=.ok (.nx (lSt N W L' p (some (.s a)) (some (.s b)) s (some (.s m)) z')):=by
 have e:=vP (ρ:=lSt N W L p (some (.s a)) (some (.s b)) s (some (.s m)) z) (a:=yf (y8 8 (mOp zW (lM (zc 2) (zb (zc 4) (zb (zc 7) zm))) (lM (zc 2) (zb (zc 7) (zb (zc 5) zm))))) (eV 2 (zb (zc 4) (zb (zc 5) zm)) (zj gX (zb (zc 8) (zb (nQ (zc 2) (zb (zc 4) (zb (zc 5) zm)) (zc 8)) zm))))) (b:=yc) (J8 (UC (n:=false) (ms:=zb (zc 4) (zb (zc 7) zm)) (m:=zc 2) (x:=a) (y:=m) (L:=L) rfl rfl) (UC (n:=false) (ms:=zb (zc 7) (zb (zc 5) zm)) (m:=zc 2) (x:=m) (y:=b) (L:=L) rfl rfl));cases e1:yq L [sk a,sk m]with
 |none=>rw[e1]at e;exact⟨L,z,a0w _,h,Dwn.refl,λx y ⟨_,_,q⟩ _=>(nomatch(e1.symm.trans q)),e⟩
 |some x=>
  cases e2:yq L [sk m,sk b]with
  |none=>rw[e1,e2]at e;exact⟨L,z,a0w _,h,Dwn.refl,λx y _ ⟨_,_,q⟩=>(nomatch(e2.symm.trans q)),e⟩
  |some y=>rw[e1,e2]at e;refine⟨AR L a b (x+y),some (.i (x+y)),mB,mz h (.via hm (h _ _ _ e1) (h _ _ _ e2)),de,λx' y' ⟨x1,l1,q1⟩ ⟨y1,l2,q2⟩=>?_,e.trans (zd ⟨lSt N W L p (some (.s a)) (some (.s b)) s (some (.s m)) (some (.i (x+y))),yr (zw (bB rfl rfl e1) (bB rfl rfl e2) rfl),iD rfl rfl (zK (zS rfl (zS (tW rfl rfl rfl) rfl)) rfl) hl⟩)⟩;obtain⟨w,lw,ew⟩:=tX (L:=L) (a:=a) (b:=b) (v:=x+y);cases(e1.symm.trans q1:some x=some x1);cases(e2.symm.trans q2:some y=some y1);exact⟨w,by omega,ew⟩
def Mv(h0:Snd N W L0)(hm:m∈N)(hn:N.length<=12)(hl:L0.length<=10000):∃L r' z',L.length<=L0.length+N.length/\Snd N W L/\Dwn L0 L/\(∀b∈N,∀x y,qp L0 a m x->qp L0 m b y->qp L a b (x+y))/\QG w_ jW (N.map .s) (lSt N W L0 p (some (.s a)) r s (some (.s m)) z)=.ok (.nx (lSt N W L p (some (.s a)) r' s (some (.s m)) z')):=by
 obtain⟨ρ',⟨L,r',z',l,hs,hd,hc,rfl⟩,e⟩:=V0 (g:=w_) (b:=jW) PV.s (λk ρ=>∃L r' z',L.length<=L0.length+k/\Snd N W L/\Dwn L0 L/\(∀b∈N.take k,∀x y,qp L0 a m x->qp L0 m b y->qp L a b (x+y))/\ρ=lSt N W L p (some (.s a)) r' s (some (.s m)) z') N (lSt N W L0 p (some (.s a)) r s (some (.s m)) z) ⟨L0,r,z,O2 _,h0,Dwn.refl,λx hx=>(nomatch hx),rfl⟩ (λk hk ρ ⟨L,r',z',l,hs,hd,hc,hρ⟩=>by
  subst hρ;obtain⟨L2,z2,l2,s2,d2,c2,e2⟩:=Ep (a:=a) (b:=N[k]) (p:=p) (s:=s) (z:=z') hs hm (by omega);refine⟨_,rfl,_,⟨L2,some (.s N[k]),z2,by omega,s2,hd.trans d2,λb hb x y hx hy=>?_,rfl⟩,.inl e2⟩;rw[a0j hk]at hb;rcases T9.mp hb with hb|hb
  .exact(hc b hb x y hx hy).dwn d2
  .rw[S0.mp hb]at hy ⊢;exact c2 x y (hx.dwn hd) (hy.dwn hd))
 exact⟨L,r',z',l,hs,hd,λx hx=>hc x (by rw[a0L];exact hx),e⟩
def Mw(h0:Snd N W L0)(hm:m∈N)(hn:N.length<=12)(hl:L0.length<=5000):∃L q' r' z',L.length<=L0.length+N.length*12/\Snd N W L/\Dwn L0 L/\(∀a∈N,∀b∈N,∀x y,qp L0 a m x->qp L0 m b y->qp L a b (x+y))/\QG Za Zb (N.map .s) (lSt N W L0 p q r s (some (.s m)) z)=.ok (.nx (lSt N W L p q' r' s (some (.s m)) z')):=by
 obtain⟨ρ',⟨L,q',r',z',l,hs,hd,hc,rfl⟩,e⟩:=V0 (g:=Za) (b:=Zb) PV.s (λk ρ=>∃L q' r' z',L.length<=L0.length+k*12/\Snd N W L/\Dwn L0 L/\(∀a∈N.take k,∀b∈N,∀x y,qp L0 a m x->qp L0 m b y->qp L a b (x+y))/\ρ=lSt N W L p q' r' s (some (.s m)) z') N (lSt N W L0 p q r s (some (.s m)) z) ⟨L0,q,r,z,O2 _,h0,Dwn.refl,λx hx=>(nomatch hx),rfl⟩ (λk hk ρ ⟨L,q',r',z',l,hs,hd,hc,hρ⟩=>by
  subst hρ;obtain⟨L2,r2,z2,l2,s2,d2,c2,e2⟩:=Mv (a:=N[k]) (p:=p) (r:=r') (s:=s) (z:=z') hs hm hn (by omega);refine⟨_,rfl,_,⟨L2,some (.s N[k]),r2,z2,by omega,s2,hd.trans d2,λa ha b hb x y hx hy=>?_,rfl⟩,.inl (qR (qq rfl) e2)⟩;rw[a0j hk]at ha;rcases T9.mp ha with ha|ha
  .exact(hc a ha b hb x y hx hy).dwn d2
  .rw[S0.mp ha]at hx ⊢;exact c2 b hb x y (hx.dwn hd) (hy.dwn hd))
 exact⟨L,q',r',z',l,hs,hd,λx hx=>hc x (by rw[a0L];exact hx),e⟩
def Mx(h0:Snd N W L0)(hW:WS N W)(hn:N.length<=12)(hl:L0.length<=100)(h1:Cmp N W [] L0):∃L q' r' t' z',L.length<=5000/\Snd N W L/\Cmp N W N L/\QG Zc Zd (N.map .s) (lSt N W L0 p q r s t z)=.ok (.nx (lSt N W L p q' r' s t' z')):=by
 obtain⟨ρ',⟨L,q',r',t',z',l,hs,hc,rfl⟩,e⟩:=V0 (g:=Zc) (b:=Zd) PV.s (λk ρ=>∃L q' r' t' z',L.length<=100+k*144/\Snd N W L/\Cmp N W (N.take k) L/\ρ=lSt N W L p q' r' s t' z') N (lSt N W L0 p q r s t z) ⟨L0,q,r,t,z,by omega,h0,h1,rfl⟩ (λk hk ρ ⟨L,q',r',t',z',l,hs,hc,hρ⟩=>by
  subst hρ;obtain⟨L2,q2,r2,z2,l2,s2,d2,c2,e2⟩:=Mw (m:=N[k]) (p:=p) (q:=q') (r:=r') (s:=s) (z:=z') hs (a0A _) hn (by omega);refine⟨_,rfl,_,⟨L2,q2,r2,some (.s N[k]),z2,by omega,s2,λa b v h=>?_,rfl⟩,.inl (qR (qq rfl) e2)⟩;obtain⟨ha,hb⟩:=h.ends hW;rw[a0j hk]at h;rcases h.split (M:=N.take k) (x:=N[k]) (λz hz=>(T9.mp hz).imp id S0.mp) hW with⟨u,lu,w⟩|⟨s',t',le,w1,w2⟩
  .obtain⟨u',lu',e'⟩:=(hc _ _ _ w).dwn d2;exact⟨u',by omega,e'⟩
  .obtain⟨u',lu',e'⟩:=c2 a ha b hb s' t' (hc _ _ _ w1) (hc _ _ _ w2);exact⟨u',by omega,e'⟩)
 rw[a0L]at hc;exact⟨L,q',r',t',z',by omega,hs,hc,e⟩
def LOk(N:Ob)(L:Lst)(F:Str->Ht):Prop:=(∀a∈N,∀b∈N,yq L [sk a,sk b]=yq (F a) (sk b))
def tY(hW:WS N W)(g:c8 o W F)(h:WkM N W N a b v):∀x,yq F (sk a)=some x->∃y,y<=x+v/\yq F (sk b)=some y:=by
 induction h with
 |nil _=>intro x e;exact⟨x,by omega,e⟩
 |edge hw=>intro x e;obtain⟨y,e',l⟩:=g.2 _ hw x e;exact⟨y,l,e'⟩
 |via _ _ _ i j=>intro x e;obtain⟨y,l,e'⟩:=i x e;obtain⟨y',l',e''⟩:=j y e';exact⟨y',by omega,e''⟩
def fP(hW:WS N W)(g:c8 o W F)(ho:o∈N):∀(n:Nat){z:Str}{y:Int},y.toNat<=n->yq F (sk z)=some y->WkM N W N o z y:=by
 intro n
 induction n with
 |zero=>
  intro z y hn e;by_cases hz:z=o
  .subst hz;cases(g.1.own.symm.trans e);exact .nil ho
  .obtain⟨w,hw,_,x,ex,exy⟩:=g.El e hz;have:=(hW w hw).2.2.1;have:=g.1.pos _ _ ex;omega
 |succ n ih=>
  intro z y hn e;by_cases hz:z=o
  .subst hz;cases(g.1.own.symm.trans e);exact .nil ho
  .obtain⟨w,hw,rfl,x,ex,exy⟩:=g.El e hz;have h1:=hW w hw;have:=g.1.pos _ _ ex;rw[<- exy];exact .via h1.1 (ih (by omega) ex) (.edge hw)
def iE(hW:WS N W)(hn:N.length<=12)(hl:W.length<=60)(gF:∀z,c8 z W (F z)):∃L,LOk N L F/\qX [.l (N.map .s),.l (W.map wP)]=.ok (.dt L):=by
 obtain⟨L1,p1,a1,s1,n1,e1⟩:=Ms (N:=N) (W:=W) (q:=none) (r:=none) (s:=none) (t:=none) (z:=none) hn;obtain⟨L2,q2,r2,s2',a2,s2,d2,n2,e2⟩:=Mu (N:=N) (W:=W) (L0:=L1) (p:=p1) (t:=none) (z:=none) (by omega) hl s1;have c0:Cmp N W [] L2:=λa b v h=>by
  cases h with
  |nil h=>exact(n1 _ h).dwn d2
  |edge hw=>exact n2 _ hw
  |via h _ _=>cases h
 obtain⟨L,q3,r3,t3,z3,_,s3,c3,e3⟩:=Mx (p:=p1) (q:=q2) (r:=r2) (s:=s2') (t:=none) (z:=none) s2 hW hn (by omega) c0;refine⟨L,λa ha b hb=>?_,yg (zd ⟨_,rfl,zd ⟨_,qR (qq rfl) e1,zd ⟨_,qR (qq rfl) e2,zd ⟨_,qR (qq rfl) e3,rfl⟩⟩⟩⟩)⟩;cases e:yq L [sk a,sk b]with
 |none=>
  cases e':yq (F a) (sk b)with
  |none=>rfl
  |some y=>obtain⟨u,_,q⟩:=c3 _ _ _ (fP hW (gF a) ha _ (O2 _) e');cases(e.symm.trans q)
 |some v=>obtain⟨y,l,e'⟩:=tY hW (gF a) (s3 _ _ _ e) 0 (gF a).1.own;obtain⟨u,l',q⟩:=c3 _ _ _ (fP hW (gF a) ha _ (O2 _) e');cases(e.symm.trans q);rw[e',show y=v by omega]
def below(h:Ht)(y:Int):Nat:=(h.filter λp=>decide (p.2<y)).length
def mD{x y:Int}(l:x<=y):∀{h:Ht},below h x<=below h y
 |[]=>O2 _
 |p::h=>by
  have i:=mD l (h:=h);unfold below at i ⊢;rw[a1o,a1o];by_cases c:p.2<x
  .rw[if_pos (O4 c),if_pos (O4 (show p.2<y by omega))];exact a1p i
  .rw[if_neg (by rw[O6 c];decide)];split
   .exact a1J i
   .exact i
def mE{x y:Int}(l:x<y):∀{h:Ht}{k:Key},(k,x)∈h->below h x+1<=below h y
 |[],_,e=>by cases e
 |p::h,k,e=>by
  unfold below;rw[a1o,a1o];rcases P8.mp e with e|e
  .subst e;rw[if_neg (by rw[O6 (show ¬x<x by omega)];decide),if_pos (O4 l)];exact a1p (mD (Int.le_of_lt l))
  .have i:=mE l e;unfold below at i;by_cases c:p.2<x
   .rw[if_pos (O4 c),if_pos (O4 (show p.2<y by omega))];exact a1p i
   .rw[if_neg (by rw[O6 c];decide)];split
    .exact a1J i
    .exact i
def fQ{y:Int}:∀{h:Ht}{k:Key},(k,y)∈h->below h y+1<=h.length
 |[],_,e=>by cases e
 |p::h,k,e=>by
  unfold below;rw[a1o];rcases P8.mp e with e|e
  .subst e;rw[if_neg (by rw[O6 (show ¬y<y by omega)];decide),N9];exact a1p (a2X _ _)
  .have i:=fQ e;unfold below at i;split
   .exact a1p i
   .exact a1J i
def fR(hW:WS N W)(g:c8 o W F):∀(n:Nat){z:Str}{y:Int},y.toNat<=n->yq F (sk z)=some y->y<=200000000*(below F y:Int):=by
 intro n
 induction n with
 |zero=>intro z y hn e;have:=g.1.pos _ _ e;omega
 |succ n ih=>
  intro z y hn e;by_cases hz:z=o
  .subst hz;cases(g.1.own.symm.trans e);omega
  .obtain⟨w,hw,rfl,x,ex,exy⟩:=g.El e hz;have h1:=hW w hw;have:=g.1.pos _ _ ex;have i:=ih (y:=x) (by omega) ex;have j:=mE (x:=x) (y:=y) (by omega) (JD ex);omega
def oq{F:Ht}{o:Str}(hW:WS N W)(g:c8 o W F)(ho:o∈N){z:Str}{y:Int}(e:yq F (sk z)=some y):0<=y/\y+200000000<=200000000*(N.length:Int):=by
 have a:=fR hW g _ (O2 _) e;have b:=fQ (JD e);have c:F.length<=N.length:=by
  have:=UA (a:=F.map (·.1)) (b:=N.map sk) g.1.nd (λk hk=>by
   rcases P8.mp (g.1.sub k hk)with rfl|hk
   .exact a1u ho
   .obtain⟨w,hw,rfl⟩:=a0s.mp hk;exact a1u (hW w hw).2.1)
  rw[u8,u8]at this;exact this
 have:=g.1.pos _ _ e;omega
end
abbrev Tp:=Str×Str×Str×Int×Int×Int
def tP(t:Tp):PV:=.t [.s t.1,.s t.2.1,.s t.2.2.1,.i t.2.2.2.1,.i t.2.2.2.2.1,.i t.2.2.2.2.2]
structure TOk(N:Ob)(F:Str->Ht)(t:Tp):Prop where
 org:t.2.1∈N
 goal:t.2.2.1∈N
 len:∃y,yq (F t.2.1) (sk t.2.2.1)=some y/\y<=t.2.2.2.2.1-t.2.2.2.1
 st:0<=t.2.2.2.1
 fw:t.2.2.2.1<t.2.2.2.2.1
 fin:t.2.2.2.2.1<=1000000000
 MC:0<=t.2.2.2.2.2/\t.2.2.2.2.2<=1000000000
def aP:Option Tp->PV
 |none=>.n
 |some t=>tP t
abbrev tSt(ns:OB)(a:Int)(nm:Str)(P:Ob)(L:Lst)(ah:Option Tp)(r:Sto):Sto:=[some (.sc ns),some (.i a),some (.s nm),some (.l (P.map .s)),some (.dt L),some (aP ah)]++r
def Er(ha:0<=a)(h0:0<P.length)(hL:LOk P L F)(hF:∀o∈P,∀z y,yq (F o) (sk z)=some y->0<=y/\y<=800000000)(hO:∀o∈P,yq (F o) (sk o)=some 0)(hA:∀t,ah=some t->TOk P F t):∃t,t.1=nm/\TOk P F t/\kD [.sc ns,.i a,.s nm,.l (P.map .s),.dt L,aP ah]=.ok (tP t):=by
 obtain⟨c1,e1⟩:=Qb (ns:=ns) (k:=a) ha;obtain⟨c2,e2⟩:=Qb (ns:=ns) (k:=a+1) (by omega);obtain⟨c3,e3⟩:=Qb (ns:=ns) (k:=a+2) (by omega);obtain⟨o,ho,eo⟩:=V_ (N:=P) (s:=c1) h0;obtain⟨g0,hg0,eg0⟩:=V_ (N:=P) (s:=c1 / 5) h0;obtain⟨g,y,hg,ey,q10⟩:∃g y,g∈P/\yq L [sk o,sk g]=some y/\sIf (yi (gh true (zb (zc 9) (zb (zc 10) zm)) (zc 4))) (y8 10 (zc 9)) yc (tSt ns a nm P L ah [some (.i c1),some (.i c2),some (.i c3),some (.s o),some (.s g0),none,none,none])=.ok (.nx (tSt ns a nm P L ah [some (.i c1),some (.i c2),some (.i c3),some (.s o),some (.s g),none,none,none])):=by
  have t:=vP (ρ:=tSt ns a nm P L ah [some (.i c1),some (.i c2),some (.i c3),some (.s o),some (.s g0),none,none,none]) (a:=y8 10 (zc 9)) (b:=yc) (UC (n:=true) (ms:=zb (zc 9) (zb (zc 10) zm)) (m:=zc 4) (x:=o) (y:=g0) (L:=L) rfl rfl);cases e:yq L [sk o,sk g0]with
  |none=>rw[e]at t;exact⟨o,0,ho,(hL o ho o ho).trans (hO o ho),t⟩
  |some y=>rw[e]at t;exact⟨g0,y,hg0,e,t⟩
 have ey':=(hL o ho g hg).symm.trans ey;have yb:=hF o ho g y ey';obtain⟨mo,hmo,emo⟩:=tJ (xs:=[0,c3 % 60,c2 % 7,c3 % 100000000]) (i:=c1 / 25 % 4) (S5 _ (by decide)) (R4 _ (by decide));have mb:0<=mo/\mo<100000000:=by simp only[List.mem_cons,List.not_mem_nil,or_false]at hmo;omega
 have kb:1<=max 1 (y+mo)/\y<=max 1 (y+mo)/\max 1 (y+mo)<=900000000:=by omega
 obtain⟨s0,hs0,es0⟩:=tJ (xs:=[c2 % 1440,c2 % 200,c2 % 1000000000]) (i:=c1 / 100 % 3) (S5 _ (by decide)) (R4 _ (by decide));have sb:0<=s0:=by simp only[List.mem_cons,List.not_mem_nil,or_false]at hs0;omega
 obtain⟨s1,s1b,q14⟩:∃s1:Int,0<=s1/\sIf (eh (yi (mOp (jq false) (mOp zX (mOp QE (zc 6) (mC (.i 300))) (mC (.i 2))) (mC (.i 1)))) (eh (yi (mOp (Bq true) (zc 5) (mC .n))) (yi (gh false (zb (mOp pIx (zc 5) (mC (.i 2))) (zb (zc 9) zm)) (zc 4))))) (y8 13 (mOp gO (mOp zW (mOp zW (mOp pIx (zc 5) (mC (.i 4))) (lM (zc 4) (zb (mOp pIx (zc 5) (mC (.i 2))) (zb (zc 9) zm)))) (mOp zX (zc 7) (mC (.i 3)))) (mC (.i 1)))) yc (tSt ns a nm P L ah [some (.i c1),some (.i c2),some (.i c3),some (.s o),some (.s g),some (.i mo),some (.i (max 1 (y+mo))),some (.i s0)])=.ok (.nx (tSt ns a nm P L ah [some (.i c1),some (.i c2),some (.i c3),some (.s o),some (.s g),some (.i mo),some (.i (max 1 (y+mo))),some (.i s1)])):=by
  have d1:=bx (ρ:=tSt ns a nm P L ah [some (.i c1),some (.i c2),some (.i c3),some (.s o),some (.s g),some (.i mo),some (.i (max 1 (y+mo))),some (.i s0)]) (a:=mOp zX (mOp QE (zc 6) (mC (.i 300))) (mC (.i 2))) (n:=1) (D9 rfl (by decide) (by decide) (by decide));generalize decide (c1 / 300 % 2=1)=d at d1;cases d with
  |false=>exact⟨s0,sb,vP (tI d1)⟩
  |true=>
   cases ah with
   |none=>exact⟨s0,sb,vP (J8 d1 (tI rfl))⟩
   |some t=>
    have T:=hA t rfl;have i1:=UC (n:=false) (ms:=zb (mOp pIx (zc 5) (mC (.i 2))) (zb (zc 9) zm)) (m:=zc 4) (x:=t.2.2.1) (y:=o) (L:=L) (ρ:=tSt ns a nm P L (some t) [some (.i c1),some (.i c2),some (.i c3),some (.s o),some (.s g),some (.i mo),some (.i (max 1 (y+mo))),some (.i s0)]) rfl rfl;cases e:yq L [sk t.2.2.1,sk o]with
    |none=>rw[e]at i1;exact⟨s0,sb,vP (J8 d1 (J8 (x:=true) rfl i1))⟩
    |some v=>rw[e]at i1;have vb:=hF _ T.goal o v ((hL _ T.goal o ho).symm.trans e);have:=T.fw;have:=T.st;exact⟨t.2.2.2.2.1+v+c2 % 3-1,by omega,(vP (J8 d1 (J8 (x:=true) rfl i1))).trans (yr (zw (zw (zw (x:=.i t.2.2.2.2.1) rfl (bB rfl rfl e) rfl) (kW rfl (by decide)) rfl) rfl rfl))⟩
 have s2b:0<=min s1 (1000000000-(max 1 (y+mo)))/\min s1 (1000000000-(max 1 (y+mo)))+(max 1 (y+mo))<=1000000000:=by omega
 refine⟨(nm,o,g,(min s1 (1000000000-(max 1 (y+mo)))),(min s1 (1000000000-(max 1 (y+mo))))+(max 1 (y+mo)),c3 / 7 % 1000000001),rfl,⟨ho,hg,⟨y,ey',by show y<=(min s1 (1000000000-(max 1 (y+mo))))+(max 1 (y+mo))-(min s1 (1000000000-(max 1 (y+mo))));omega⟩,s2b.1,by show(min s1 (1000000000-(max 1 (y+mo))))<(min s1 (1000000000-(max 1 (y+mo))))+(max 1 (y+mo));omega,s2b.2,⟨S5 _ (by decide),by have:=R4 (c3 / 7) (show(0:Int)<1000000001 by decide);show c3 / 7 % 1000000001<=1000000000;omega⟩⟩,yg (zd ⟨_,yr (zK (xs:=[.sc ns,.i a]) rfl e1),zd ⟨_,yr (zK (xs:=[.sc ns,.i (a+1)]) rfl e2),zd ⟨_,yr (zK (xs:=[.sc ns,.i (a+2)]) rfl e3),zd ⟨_,yr (zw rfl (zw rfl (zK (xs:=[.l (P.map .s)]) rfl ZA) (kg (by omega))) eo),zd ⟨_,yr (zw rfl (zw (oa rfl (by decide) (by decide)) (zK (xs:=[.l (P.map .s)]) rfl ZA) (kg (by omega))) eg0),zd ⟨_,q10,zd ⟨_,yr (zw (fI (zS rfl (zS (kW rfl (by decide)) (zS (kW rfl (by decide)) (zS (zw (y:=.i 100000000) rfl rfl (kg (by decide))) rfl)))) (O7 rfl)) (D9 rfl (by decide) (by decide) (by decide)) emo),zd ⟨_,yr (zK (zS rfl (zS (zw (bB rfl rfl ey) rfl rfl) rfl)) rfl),zd ⟨_,yr (zw (fI (zS (kW rfl (by decide)) (zS (kW rfl (by decide)) (zS (zw (y:=.i 1000000000) rfl rfl (kg (by decide))) rfl))) (O7 rfl)) (D9 rfl (by decide) (by decide) (by decide)) es0),zd ⟨_,q14,zd ⟨_,yr (zK (zS rfl (zS (zw (x:=.i 1000000000) rfl rfl rfl) rfl)) rfl),Uy (Uz (zS rfl (zS rfl (zS rfl (zS rfl (zS (zw rfl rfl rfl) (zS (zw (oa rfl (by decide) (by decide)) (y:=.i 1000000001) rfl (kg (by decide))) rfl)))))) (O7 rfl))⟩⟩⟩⟩⟩⟩⟩⟩⟩⟩⟩)⟩
def AS(ha:0<=a)(hQ:Q.length<=100)(h0:0<P.length)(hL:LOk P L F)(hF:∀o∈P,∀z y,yq (F o) (sk z)=some y->0<=y/\y<=800000000)(hO:∀o∈P,yq (F o) (sk o)=some 0):∃T:List Tp,T.map (·.1)=Q/\(∀t∈T,TOk P F t)/\kE [.sc ns,.i a,.l (Q.map .s),.l (P.map .s),.dt L]=.ok (.l (T.map tP)):=by
 obtain⟨ρ',⟨T,x,y,hT,gT,hρ⟩,e⟩:=Xg (g:=Vz) (b:=VA) (λk ρ=>∃(T:List Tp)(x y:OK),T.map (·.1)=Q.take k/\(∀t∈T,TOk P F t)/\ρ=[some (.sc ns),some (.i a),some (.l (Q.map .s)),some (.l (P.map .s)),some (.dt L),some (.l (T.map tP)),x,y]) Q.length [some (.sc ns),some (.i a),some (.l (Q.map .s)),some (.l (P.map .s)),some (.dt L),some (.l []),none,none] ⟨[],none,none,rfl,λx hx=>(nomatch hx),rfl⟩ (λk hk ρ ⟨T,x,y,hT,gT,hρ⟩=>by
  subst hρ;have lT:T.length=k:=by have:=a0e List.length hT;rw[u8,a0f]at this;omega
  obtain⟨ah,hA,q⟩:∃ah:Option Tp,(∀t,ah=some t->TOk P F t)/\sIf (yi (mOp pGt (zc 6) (mC (.i 0)))) (y8 7 (mOp pIx (zc 5) (mOp zX (zj zJ (zb (zc 0) (zb (mOp zW (mOp zW (zc 1) (mOp Ys (mC (.i 3)) (zc 6))) (mC (.i 1))) (zb (mC (.i 65479)) zm)))) (zc 6)))) yc [some (.sc ns),some (.i a),some (.l (Q.map .s)),some (.l (P.map .s)),some (.dt L),some (.l (T.map tP)),some (.i (k:Int)),some .n]=.ok (.nx [some (.sc ns),some (.i a),some (.l (Q.map .s)),some (.l (P.map .s)),some (.dt L),some (.l (T.map tP)),some (.i (k:Int)),some (aP ah)]):=by
   have t:=vP (ρ:=[some (.sc ns),some (.i a),some (.l (Q.map .s)),some (.l (P.map .s)),some (.dt L),some (.l (T.map tP)),some (.i (k:Int)),some .n]) (a:=y8 7 (mOp pIx (zc 5) (mOp zX (zj zJ (zb (zc 0) (zb (mOp zW (mOp zW (zc 1) (mOp Ys (mC (.i 3)) (zc 6))) (mC (.i 1))) (zb (mC (.i 65479)) zm)))) (zc 6)))) (b:=yc) (Wt (a:=zc 6) (x:=(k:Int)) (n:=0) rfl);by_cases c:(k:Int)>0
   .rw[O4 c]at t;obtain⟨s,_,es⟩:=vx (ns:=ns) (k:=a+3*(k:Int)+1) (p:=65479) (by omega) (by decide);have s0:=S5 s (show(k:Int)≠0 by omega);have s1:=R4 s c;refine⟨some (T[(s % (k:Int)).toNat]'(by omega)),λt ht=>by cases ht;exact gT _ (a0A _),t.trans (yr (zw rfl (zw (zK (xs:=[.sc ns,.i (a+3*(k:Int)+1),.i 65479]) (zS rfl (zS (zw (zw rfl (zw rfl rfl (XM (by decide) (by decide))) rfl) rfl rfl) rfl)) es) rfl (kg c)) ?_))⟩;rw[iy s0 (by rw[u8];omega),a0z];rfl
   .rw[O6 c]at t;exact⟨none,λt ht=>(nomatch ht),t⟩
  obtain⟨t,t1,gt,et⟩:=Er (ns:=ns) (a:=a+3*(k:Int)) (nm:=Q[k]) (ah:=ah) (by omega) h0 hL hF hO hA;have e2:rj 5 (zj kD (zb (zc 0) (zb (mOp zW (zc 1) (mOp Ys (mC (.i 3)) (zc 6))) (zb (mOp pIx (zc 2) (zc 6)) (zb (zc 3) (zb (zc 4) (zb (zc 7) zm))))))) [some (.sc ns),some (.i a),some (.l (Q.map .s)),some (.l (P.map .s)),some (.dt L),some (.l (T.map tP)),some (.i (k:Int)),some (aP ah)]=.ok (.nx [some (.sc ns),some (.i a),some (.l (Q.map .s)),some (.l (P.map .s)),some (.dt L),some (.l ((T++[t]).map tP)),some (.i (k:Int)),some (aP ah)]):=by
   have ix:pIx (.l (Q.map .s)) (.i (k:Int))=.ok (.s Q[k]):=by rw[iy (by omega) (by rw[u8];omega),a0z];rfl
   refine(mx (xs:=T.map tP) rfl (zK (zS rfl (zS (zw rfl (zw rfl rfl (XM (by decide) (by decide))) rfl) (zS (zw rfl rfl ix) rfl))) et) (by rw[u8];omega)).trans ?_;rw[show T.map tP++[tP t]=(T++[t]).map tP by rw[T1];rfl];rfl
  refine⟨_,rfl,_,⟨T++[t],some (.i (k:Int)),some (aP ah),?_,λt' ht=>?_,rfl⟩,.inl (zd ⟨_,rfl,zd ⟨_,q,e2⟩⟩)⟩
  .rw[T1,hT,a0j hk];show _++[t.1]=_;rw[t1]
  .rcases T9.mp ht with h|h
   .exact gT _ h
   .rw[S0.mp h];exact gt)
 subst hρ;rw[a0L]at hT;exact⟨T,hT,gT,yg (zd ⟨_,rfl,zd ⟨_,qR (hU (zS (zK (xs:=[.l (Q.map .s)]) rfl ZA) rfl) (by omega) (by omega)) (by rw[Int.toNat_natCast];exact e),rfl⟩⟩)⟩
def Wu(T:List Tp):List (Key×PV):=T.map λt=>(sk t.1,tP t)
def tZ(h:z∉T.map (·.1)):yq (Wu T) (sk z)=none:=by
 cases e:yq (Wu T) (sk z)with
 |none=>rfl
 |some x=>obtain⟨t,ht,e2⟩:=a0s.mp (JD e);cases e2;exact absurd (a1u ht) h
def ot(hz:Nm z)(hB:yq B (sk z)=none):yh [.s z,.d B]=.ok (.s z):=by refine yg (zd ⟨_,qk (zK (xs:=[.s z]) rfl (iA hz)),zd ⟨_,(vP (x:=false) (yP (zw (x:=.s z) (y:=.d B) rfl rfl ?_))).trans (show _=Out.ok (Fw.nx [some (.s z),some (.d B)])from rfl),rfl⟩⟩);show Out.ok (PV.b (xor false (yq B (sk z)).isSome))=_;rw[hB];rfl
def ou(h1:0<=m)(h2:m<=1000000000):zT [.i m,.i 0]=.ok (.i m):=by refine yg (zd ⟨_,(vP (V9 (x:=false) (y:=false) (yP (zw (x:=.i m) (y:=.i 0) rfl rfl ?_)) ((Wt (x:=m) rfl).trans (by rw[O6 (by omega)])))).trans (show _=Out.ok (Fw.nx [some (.i m),some (.i 0)])from rfl),rfl⟩);show Out.ok (PV.b (decide (m<0)))=_;rw[O6 (by omega)]
section
variable {N:Ob}{W:List Wy}{F:Str->Ht}{t:Tp}{T:List Tp}
def Cm(t:Tp):bh:=(t.2.2.2.1,t.2.2.2.2.1,t.1)
def mF:∀{T:List Tp},cJ zF (T.map tP)=some (T.map Cm)
 |[]=>rfl
 |t::T=>by
  have e:zF [tP t]=.ok (.t [.i t.2.2.2.1,.i t.2.2.2.2.1,.s t.1]):=yg (Uy (Uz rfl (O7 rfl)));show(match zF [tP t]with
   |.ok (.t [.i a,.i b,.s c])=>(cJ zF (T.map tP)).map ((a,b,c)::·)
   |_=>none)=_
  rw[e];show(cJ zF (T.map tP)).map _=_;rw[mF];rfl
def oJ(T:List Tp):List Tp:=(DR (T.map Cm)).map λi=>T.getD i ("","","",0,0,0)
def AU(nd:(T.map (·.1)).Nodup)(hl:T.length<64):Ak zF (T.map tP)=.ok (.l ((oJ T).map tP)):=by
 unfold Ak;rw[if_pos (by rw[u8];exact hl),mF];have nk:(T.map Cm).Nodup:=by
  have:((T.map Cm).map λk=>k.2.2)=T.map (·.1):=by rw[a0y];rfl
  rw[<- this]at nd;exact List.Pairwise.of_map (S:=(·≠·)) (λk:bh=>k.2.2) (λa b h e=>h (by rw[e])) nd
 show(if(T.map Cm).Nodup then _ else _)=_;rw[if_pos nk];unfold oJ;rw[a0y];congr 2;refine a08 λi hi=>?_;have:=a0C.mp ((Xk (T.map Cm)).1.mem_iff.mp hi);rw[u8]at this;show(T.map tP).getD i .n=tP (T.getD i _);rw[a0E,a0E,S4,P0 this];rfl
end
def ga0{α:Type}{A:List α}{x y:α}:(A++[x,y])[A.length]?=some x:=by simp
def ga1{α:Type}{A:List α}{x y:α}:(A++[x,y])[A.length+1]?=some y:=by simp
def sa0{α:Type}{A:List α}{x y z:α}:(A++[x,y]).set A.length z=A++[z,y]:=by simp
def sa1{α:Type}{A:List α}{x y z:α}:(A++[x,y]).set (A.length+1) z=A++[x,z]:=by simp
def Cn{G:AH}{n:Nat}:∀{kvs:Oz},oF (YD G (n+1)) (vK kvs)=some kvs
 |[]=>rfl
 | (k,x)::kvs=>by show((YD G (n+1) (.v x)).bind λy=>(oF (YD G (n+1)) (vK kvs)).map ((k,y)::·))=_;rw[Cn];rfl
def Ng(h0:Wj bs ρ=none)(h1:KN G bs ρ=some r)(h2:m r=.ok x)(hi:imm x=true):hP bs m ρ G=.ok (.v x) G:=by unfold hP;rw[h0,h1];dsimp only;rw[h2];dsimp only;rw[if_pos hi]
def df(h:m ρ G=.ok x G'):XW m ρ G=.nx ρ G':=by unfold XW;rw[h];rfl
def dg(hv:mv ρ G=.ok y G1)(ho:mo ρ G1=.ok (.g k) G2)(hk:G2[k]?=some (.o c fs))(hc:c∈cs)(hl:fs.length<1000):U2 cs f mo mv ρ G=.nx ρ (G2.set k (.o c (X0 f y fs))):=by
 unfold U2;rw[hv];show((mo ρ G1).fw _)=_;rw[ho];show(match G2[k]? with
  |some (.o c fs)=>if c∈cs/\fs.length<1000 then HFw.nx ρ (G2.set k (.o c (X0 f y fs)))else .wall
  |_=>.wall)=_
 rw[hk];dsimp only;rw[if_pos ⟨hc,hl⟩]
def Es(hv:mv ρ G=.ok y G)(ho:mo ρ G=.ok (.g k) G)(hz:mk ρ G=.ok (.v z) G)(hk:G[k]?=some (.d kvs))(hq:pk z=some q)(hl:kvs.length<100000):GZ mo mk mv ρ G=.nx ρ (G.set k (.d (dput kvs q y))):=by
 unfold GZ;rw[hv];show((mo ρ G).fw _)=_;rw[ho];show((mk ρ G).fw _)=_;rw[hz];show(match G[k]?,pk z with
  |some (.d kvs),some q=>if kvs.length<sizeLine then HFw.nx ρ (G.set k (.d (dput kvs q y)))else .wall
  |_,_=>.wall)=_
 rw[hk,hq];dsimp only;rw[if_pos (P4 hl (by decide))]
def Et(h:m ρ G=.ok (.g k) G)(hk:G[k]?=some (.o c fs))(hc:c∈cs)(hf:fs.lookup f=some z):GU cs f m ρ G=.ok z G:=by
 unfold GU;rw[h];show(match G[k]? with
  |some (.o c fs)=>if c∈cs then match fs.lookup f with
   |some z=>HX.ok z G
   |none=>.wall else .wall
  |_=>.wall)=_
 rw[hk];dsimp only;rw[if_pos hc,hf]
def Eu{α:Type}{x:α}{fs:List (Str×α)}:((f,x)::fs).lookup f=some x:=by simp
def Xo{α:Type}{x:α}{fs:List (Str×α)}(h:(f==g)=false):((g,x)::fs).lookup f=fs.lookup f:=by simp[List.lookup,h]
def Nh(h0:Wj bs ρ=none)(h1:KN G bs ρ=some r)(h2:m r=.ok x)(hi:GN x=true)(hc:sd x=some c):hF bs m ρ G=.ok (.g G.length) (G++[c]):=by unfold hF;rw[h0];dsimp only;rw[h1];dsimp only;rw[h2];dsimp only;rw[if_pos hi,hc]
def Ib{G:AH}{n:Nat}:∀{xs:Ov},x8 (YD G (n+1)) (xs.map .v)=some xs
 |[]=>rfl
 |x::xs=>by show((YD G (n+1) (.v x)).bind λy=>(x8 (YD G (n+1)) (xs.map .v)).map (y::·))=_;rw[Ib];rfl
def UE(h:G[k]?=some (.l (xs.map .v))):YD G (n+2) (.g k)=some (.l xs):=by unfold YD;rw[h];show(x8 (YD G (n+1)) (xs.map .v)).map PV.l=_;rw[Ib];rfl
def t_:∀{T:List Tp},uI (T.map λt=>PV.s t.1)=true
 |[]=>rfl
 |t::T=>by show(true&&uI (T.map λt=>PV.s t.1))=true;rw[t_];rfl
def gA{α:Type}{A B:List α}{j:Nat}{x:α}(h:A[j]?=some x):(A++B)[j]?=some x:=by rw[a0h (P6.mp h).1];exact h
section
variable {N:Ob}{W:List Wy}{F:Str->Ht}{A:AH}{T P:List Tp}{ro:PV}{j:Nat}
def tFs(ro:PV)(j:Nat):List (Str×HV):=[("roads",.v ro),("by_name",.g j)]
def tG(A:AH)(ro:PV)(T:List Tp):AH:=A++[.o 11 (tFs ro (A.length+1)),.d (vK (Wu T))]
def mG(h:G[j]?=some (.d (vK (Wu T)))):YD G (n+2) (.g j)=some (.d (Wu T)):=by unfold YD;rw[h];show(oF (YD G (n+1)) (vK (Wu T))).map PV.d=_;rw[Cn];rfl
def Ic:YD (tG A ro T) 8 (.g A.length)=some (.o 11 [("roads",ro),("by_name",.d (Wu T))]):=by unfold YD tG;rw[ga0];show(oF (YD _ 7) (tFs ro (A.length+1))).map (PV.o 11)=_;show(Option.map (PV.o 11) ((YD _ 7 (.v ro)).bind λy=>(((YD _ 7 (.g (A.length+1))).bind λy=>((some []).map ((("by_name":Str),y)::·))).map ((("roads":Str),y)::·))))=_;rw[mG (T:=T) ga1];rfl
def AV(h:t.1∉P.map (·.1)):dput (Wu P) (sk t.1) (tP t)=Wu (P++[t]):=by unfold dput;rw[Zn,tZ h];unfold Wu;rw[T1];rfl
def ua(h:t.1∉P.map (·.1)):dput (vK (Wu P)) (sk t.1) (.v (tP t))=vK (Wu (P++[t])):=by unfold vK;rw[l5,AV h]
def uJ(T:List Tp):List PV:=(oJ T).map λt=>.s t.1
def Ew(T:List Tp):PV:=.l (uJ T)
def Xp(A:AH)(ro:PV)(T:List Tp):AH:=A++[.o 11 [("roads",.v ro),("by_name",.g (A.length+1)),("order",.g (A.length+2))],.d (vK (Wu T)),.l ((uJ T).map .v)]
def Ni(ro:PV)(T:List Tp):PV:=.o 11 [("roads",ro),("by_name",.d (Wu T)),("order",Ew T)]
def ub:(oJ T).length=T.length:=by unfold oJ;rw[u8,(Xk (T.map Cm)).1.length_eq,a0b,u8]
def Ex(h:G[k]?=some (.o 11 [("roads",.v ro),("by_name",.g j),("order",.g i)]))(h2:G[j]?=some (.d (vK (Wu T))))(h3:G[i]?=some (.l ((uJ T).map .v))):YD G (n+3) (.g k)=some (Ni ro T):=by unfold YD;rw[h];show(Option.map (PV.o 11) ((YD _ (n+2) (.v ro)).bind λy=>(((YD _ (n+2) (.g j)).bind λy=>((((YD _ (n+2) (.g i)).bind λy=>((some []).map ((("order":Str),y)::·)))).map ((("by_name":Str),y)::·))).map ((("roads":Str),y)::·))))=_;rw[mG (T:=T) h2,UE (n:=n) h3];rfl
end
def jv(h:p ρ=.exc c fs):yf p q ρ=.exc c fs:=by unfold yf;rw[h];rfl
def y6{fr:Bool}{n:Nat}{ms:MS}{xs:Ov}{c:Nat}{fs:OA}(h:ms (xs.map some++List.replicate (n-xs.length) none)=.exc c fs):QH fr n ms xs=.exc c fs:=by unfold QH;rw[h]
def Ey(h:m ρ=.exc c fs):y8 i m ρ=.exc c fs:=by unfold y8;rw[h];rfl
def ZD(h:m ρ=.exc c fs):ZQ m ρ=.exc c fs:=by unfold ZQ;rw[h];rfl
def J9(h:ms ρ=.ok xs)(h2:f xs=.exc c fs):zj f ms ρ=.exc c fs:=by unfold zj;rw[h,okb,h2]
def aB(h:c ρ=.ok true):sIf c a b ρ=a ρ:=(vP h).trans (if_pos rfl)
def NY(h:c ρ=.ok false):sIf c a b ρ=b ρ:=(vP h).trans (if_neg P5)
def UG(h:c ρ=.ok false):sIf c a yc ρ=.ok (.nx ρ):=NY h
def rfO:Option (Nat×List (Str×PV))->Out PV
 |none=>.ok .n
 |some x=>.exc x.1 x.2
def oob(m:Int):Prop:=m<0\/1000000000<m
instance:DecidablePred oob:=λm=>by unfold oob;infer_instance
open Classical in
def vd(N:Ob)(F:Str->Ht)(S:Ob)(t:Tp):Option (Nat×List (Str×PV)):=
 if ¬Nm t.1 then some (1,[("name",.s t.1)])else
 if t.1∈S then some (5,[("name",.s t.1)])else
 if t.2.1∉N then some (6,[("name",.s t.2.1)])else
 if t.2.2.1∉N then some (6,[("name",.s t.2.2.1)])else
 if oob t.2.2.2.1 then some (2,[("value",.i t.2.2.2.1)])else
 if oob t.2.2.2.2.1 then some (2,[("value",.i t.2.2.2.2.1)])else
 if oob t.2.2.2.2.2 then some (2,[("value",.i t.2.2.2.2.2)])else
 if t.2.2.2.2.1<=t.2.2.2.1 then some (9,[("name",.s t.1)])else
 match yq (F t.2.1) (sk t.2.2.1)with
 |none=>some (7,[("origin",.s t.2.1),("goal",.s t.2.2.1)])
 |some y=>if t.2.2.2.2.1-t.2.2.2.1<y then some (10,[("name",.s t.1)])else none
def uc:pIn n (.s ⟨#[c]⟩) (.s signs)=.ok (.b (xor n (decide (c∈signs.cps.toList)))):=by show Out.ok (PV.b (xor n (!(Builtin.Str.occurrences signs ⟨#[c]⟩ 0 signs.length 1).isEmpty)))=_;rw[StrLaws.found_one]
def Ez(hl:z.length<=1000)(h:¬Nm z):qj [.s z]=.exc 1 [("name",.s z)]:=by
 have pl:QF [.s z]=.ok (.i z.length):=rO (sz5 (by omega));have e1:∀{b c:Bool},decide ((z.length:Int)<1)=b->decide ((z.length:Int)>12)=c->mOr (yi (mOp pLt (zj QF (zb (zc 0) zm)) (mC (.i 1)))) (yi (mOp pGt (zj QF (zb (zc 0) zm)) (mC (.i 12)))) [some (.s z),none]=.ok (b||c):=λhb hc=>V9 ((tH (zK (xs:=[.s z]) rfl pl)).trans (by rw[hb])) ((Wt (zK (xs:=[.s z]) rfl pl)).trans (by rw[hc]));by_cases h1:1<=z.length/\z.length<=12
 .have hs:¬ ∀c∈z.cps.toList,c∈signs.cps.toList:=λq=>h ⟨h1,q⟩;have loop:∀{cs:Od}{o:OK},(¬ ∀c∈cs,c∈signs.cps.toList)->QG vw yD (cs.map λc=>PV.s ⟨#[c]⟩) [some (.s z),o]=.exc 1 [("name",.s z)]:=by
   intro cs
   induction cs with
   |nil=>intro o q;exact absurd (λ_ h=>nomatch h) q
   |cons c cs ih=>
    intro o q;show(yD [some (.s z),some (.s ⟨#[c]⟩)]).bind _=_;by_cases hc:c∈signs.cps.toList
    .rw[show yD [some (.s z),some (.s ⟨#[c]⟩)]=_ from UG (yP (zw (x:=.s ⟨#[c]⟩) (y:=.s signs) rfl rfl (uc.trans (by rw[O4 hc];rfl))))];exact ih λr=>q λx hx=>(P8.mp hx).elim (λe=>e▸hc) (r x)
    .rw[show yD [some (.s z),some (.s ⟨#[c]⟩)]=.exc 1 [("name",.s z)]from aB (yP (zw (x:=.s ⟨#[c]⟩) (y:=.s signs) rfl rfl (uc.trans (by rw[O6 hc];rfl))))];rfl
  exact y6 (zd ⟨_,UG (e1 (O6 (by omega)) (O6 (by omega))),jv (qR (signs_at rfl) (loop hs))⟩)
 .refine y6 (jv ((aB ((e1 rfl rfl).trans ?_)).trans rfl));congr 1;rw[<- a2Y];exact O4 (by omega)
def EA(hl:z.length<=1000):∃b,(b=true↔Nm z)/\kC [.s z]=.ok (.b b):=by
 have pl:QF [.s z]=.ok (.i z.length):=rO (sz5 (by omega));have e1:lcP Vv Vw Vx (z.cps.toList.map λc=>PV.s ⟨#[c]⟩) [none,some (.s signs)] []=.ok (.l (z.cps.toList.map λc=>PV.b (decide (c∈signs.cps.toList)))):=
  XQ (λc=>PV.s ⟨#[c]⟩) (λc=>PV.b (decide (c∈signs.cps.toList))) (λρ=>∃o,ρ=[o,some (.s signs)]) _ _ ⟨_,rfl⟩ (λc _ ρ ⟨o,ho⟩=>by subst ho;exact⟨_,rfl,⟨_,rfl⟩,zw (x:=.s ⟨#[c]⟩) (y:=.s signs) rfl rfl (uc.trans (by rw[a0H]))⟩) (by show z.cps.size<=_;have:z.cps.size<=1000:=hl;omega)
 have e2:Gp [.l (z.cps.toList.map λc=>PV.b (decide (c∈signs.cps.toList)))]=.ok (.b ((z.cps.toList.map λc=>decide (c∈signs.cps.toList)).all id)):=by show Yt (Option.map _ (p7 _))=_;rw[rS];rfl
 refine⟨_,?_,yg (zd ⟨[some (.s z),some (.s signs)],rfl,Uy (D_ (Mo rfl (zK (xs:=[.s z]) rfl pl) rfl) (zK (zS (nF (signs_at rfl) e1) rfl) e2))⟩)⟩;unfold Nm Sgs;simp only[Bool.and_eq_true,decide_eq_true_eq,List.all_map,List.all_eq_true,Function.comp_apply,id_eq];constructor
 .intro⟨⟨a,b⟩,c⟩;exact⟨⟨by omega,by omega⟩,c⟩
 .intro⟨⟨a,b⟩,c⟩;exact⟨⟨by omega,by omega⟩,c⟩
def UH(h:oob m):zT [.i m,.i 0]=.exc 2 [("value",.i m)]:=by refine y6 (jv ((aB ((V9 (yP (zw (x:=.i m) (y:=.i 0) rfl rfl rfl)) (Wt (x:=m) rfl)).trans ?_)).trans rfl));congr 1;rw[<- a2Y];exact O4 h
def YA(h:¬oob m):zT [.i m,.i 0]=.ok (.i m):=ou (by unfold oob at h;omega) (by unfold oob at h;omega)
def mH{z:Str}{N:Ob}(h:z∉N):yI [.s z,.l (N.map .s)]=.exc 6 [("name",.s z)]:=
 y6 ((aB (yP (zw (x:=.s z) (y:=.l (N.map .s)) rfl rfl (tQ.trans (by rw[O6 h];rfl))))).trans rfl)
def ow(h:¬(o∈N/\g∈N)):yJ [roP N W F,.s o,.s g]=.exc 6 [("name",.s (if o∈N then g else o))]:=by
 by_cases ho:o∈N
 .have hg:g∉N:=λq=>h ⟨ho,q⟩;rw[if_pos ho];exact y6 (zd ⟨_,qk (zK (zS rfl (zS (c_ rfl).1 rfl)) (vL ho)),jv (ZD (J9 (zS rfl (zS (c_ rfl).1 rfl)) (mH hg)))⟩)
 .rw[if_neg ho];exact y6 (jv (ZD (J9 (zS rfl (zS (c_ rfl).1 rfl)) (mH ho))))
def ud(ha:a ρ=.ok (roP N W F))(hm:ms ρ=.ok xs)(h1:(nm==("places":Str))=false)(h2:(nm==("ways":Str))=false)(h3:(nm==("lengths":Str))=false)(h:f (roP N W F::xs)=.exc c fs):nB [(12,f)] nm a ms ρ=.exc c fs:=by
 unfold nB;rw[ha,okb];show(match List.lookup 12 [(12,f)]with
  |some g=>if(List.lookup nm [(("places":Str),PV.l (N.map .s)),("ways",.l (W.map wP)),("lengths",.d (gk N F))]).isSome=true then Out.wall else(ms ρ).bind λxs=>g (roP N W F::xs)
  |none=>Out.wall)=_
 rw[vZ h1,vZ h2,vZ h3,hm];exact h
def Ie(hl:t.1.length<=1000)(hB:∀z,(yq B (sk z)).isSome=true↔z∈S):jC [roP N W F,tP t,.d B]=rfO (vd N F S t):=by
 unfold vd;have tw:∀{b:Bool},(yq B (sk t.1)).isSome=b->yi (mOp (pIn false) (zc 0) (zc 1)) [some (.s t.1),some (.d B)]=.ok b:=λhb=>yP (zw (x:=.s t.1) (y:=.d B) rfl rfl (by show Out.ok (PV.b (xor false (yq B (sk t.1)).isSome))=_;rw[hb,a0H]));by_cases h1:Nm t.1
 .rw[if_neg (a0B h1)];by_cases h2:t.1∈S
  .rw[if_pos h2];exact y6 (jv (ZD (J9 (xs:=[.s t.1,.d B]) rfl (y6 (zd ⟨_,qk (zK (xs:=[.s t.1]) rfl (iA h1)),jv ((aB (tw ((hB _).mpr h2))).trans rfl)⟩)))))
  .rw[if_neg h2];have hn:yq B (sk t.1)=none:=by
    cases e:yq B (sk t.1)with
    |none=>rfl
    |some x=>exact absurd ((hB _).mp (by rw[e];rfl)) h2
   have s1:=qk (ρ:=[some (roP N W F),some (tP t),some (.d B),none]) (zK (ms:=zb (mOp pIx (zc 1) (mC (.i 0))) (zb (zc 2) zm)) (xs:=[.s t.1,.d B]) rfl (ot h1 hn));by_cases h3:t.2.1∈N/\t.2.2.1∈N
   .rw[if_neg (a0B h3.1),if_neg (a0B h3.2)];have s2:=yr (i:=3) (ρ:=[some (roP N W F),some (tP t),some (.d B),none]) (AJ (a:=zc 0) (ms:=zb (mOp pIx (zc 1) (mC (.i 1))) (zb (mOp pIx (zc 1) (mC (.i 2))) zm)) (N:=N) (W:=W) (F:=F) rfl (nm:="length") (xs:=[.s t.2.1,.s t.2.2.1]) rfl (by decide +kernel) (by decide +kernel) (by decide +kernel) (om h3.1 h3.2));by_cases h4:oob t.2.2.2.1
    .rw[if_pos h4];exact y6 (zd ⟨_,s1,zd ⟨_,s2,jv (ZD (J9 (xs:=[.i t.2.2.2.1,.i 0]) rfl (UH h4)))⟩⟩)
    .rw[if_neg h4];by_cases h5:oob t.2.2.2.2.1
     .rw[if_pos h5];exact y6 (zd ⟨_,s1,zd ⟨_,s2,zd ⟨_,qk (zK (xs:=[.i t.2.2.2.1,.i 0]) rfl (YA h4)),jv (ZD (J9 (xs:=[.i t.2.2.2.2.1,.i 0]) rfl (UH h5)))⟩⟩⟩)
     .rw[if_neg h5];by_cases h6:oob t.2.2.2.2.2
      .rw[if_pos h6];exact y6 (zd ⟨_,s1,zd ⟨_,s2,zd ⟨_,qk (zK (xs:=[.i t.2.2.2.1,.i 0]) rfl (YA h4)),zd ⟨_,qk (zK (xs:=[.i t.2.2.2.2.1,.i 0]) rfl (YA h5)),jv (ZD (J9 (xs:=[.i t.2.2.2.2.2,.i 0]) rfl (UH h6)))⟩⟩⟩⟩)
      .rw[if_neg h6];have s6:∀{o:Out Fw},(yf (sIf (yi (mOp pLe (mOp pIx (zc 1) (mC (.i 4))) (mOp pIx (zc 1) (mC (.i 3))))) (vX 9 ["name"] (zb (mOp pIx (zc 1) (mC (.i 0))) zm)) yc)
  (yf (sIf (yi (mOp (Bq false) (zc 3) (mC .n))) (vX 7 ["origin","goal"] (zb (mOp pIx (zc 1) (mC (.i 1))) (zb (mOp pIx (zc 1) (mC (.i 2))) zm))) yc)
  (sIf (yi (mOp pLt (mOp gO (mOp pIx (zc 1) (mC (.i 4))) (mOp pIx (zc 1) (mC (.i 3)))) (zc 3))) (vX 10 ["name"] (zb (mOp pIx (zc 1) (mC (.i 0))) zm)) yc))) [some (roP N W F),some (tP t),some (.d B),some (E1 (yq (F t.2.1) (sk t.2.2.1)))]=o->Ja [some (roP N W F),some (tP t),some (.d B),none]=o:=λh=>zd ⟨_,s1,zd ⟨_,s2,zd ⟨_,qk (zK (xs:=[.i t.2.2.2.1,.i 0]) rfl (YA h4)),zd ⟨_,qk (zK (xs:=[.i t.2.2.2.2.1,.i 0]) rfl (YA h5)),zd ⟨_,qk (zK (xs:=[.i t.2.2.2.2.2,.i 0]) rfl (YA h6)),h⟩⟩⟩⟩⟩
       have t7:yi (mOp pLe (mOp pIx (zc 1) (mC (.i 4))) (mOp pIx (zc 1) (mC (.i 3)))) [some (roP N W F),some (tP t),some (.d B),some (E1 (yq (F t.2.1) (sk t.2.2.1)))]=.ok (decide (t.2.2.2.2.1<=t.2.2.2.1)):=yP (zw (x:=.i t.2.2.2.2.1) (y:=.i t.2.2.2.1) rfl rfl rfl);by_cases h7:t.2.2.2.2.1<=t.2.2.2.1
       .rw[if_pos h7];exact y6 (s6 (jv ((aB (t7.trans (by rw[O4 h7]))).trans rfl)))
       .rw[if_neg h7];have s7:=UG (a:=vX 9 ["name"] (zb (mOp pIx (zc 1) (mC (.i 0))) zm)) (t7.trans (by rw[O6 h7]));cases e:yq (F t.2.1) (sk t.2.2.1)with
        |none=>rw[e]at s6 s7;exact y6 (s6 (zd ⟨_,s7,jv ((aB rfl).trans rfl)⟩))
        |some y=>
         rw[e]at s6 s7;have t8:yi (mOp pLt (mOp gO (mOp pIx (zc 1) (mC (.i 4))) (mOp pIx (zc 1) (mC (.i 3)))) (zc 3)) [some (roP N W F),some (tP t),some (.d B),some (.i y)]=.ok (decide (t.2.2.2.2.1-t.2.2.2.1<y)):=yP (zw (x:=.i (t.2.2.2.2.1-t.2.2.2.1)) (y:=.i y) rfl rfl rfl);by_cases h8:t.2.2.2.2.1-t.2.2.2.1<y
         .show _=rfO (if _ then _ else _);rw[if_pos h8];exact y6 (s6 (zd ⟨_,s7,zd ⟨_,UG rfl,(aB (t8.trans (by rw[O4 h8]))).trans rfl⟩⟩))
         .show _=rfO (if _ then _ else _);rw[if_neg h8];exact tN rfl (s6 (zd ⟨_,s7,zd ⟨_,UG rfl,UG (t8.trans (by rw[O6 h8]))⟩⟩))
   .have e:=ud (a:=zc 0) (ms:=zb (mOp pIx (zc 1) (mC (.i 1))) (zb (mOp pIx (zc 1) (mC (.i 2))) zm)) (ρ:=[some (roP N W F),some (tP t),some (.d B),none]) (N:=N) (W:=W) (F:=F) rfl (nm:="length") (xs:=[.s t.2.1,.s t.2.2.1]) rfl (by decide +kernel) (by decide +kernel) (by decide +kernel) (ow h3);refine(y6 (zd ⟨_,s1,jv (Ey e)⟩)).trans ?_;by_cases ho:t.2.1∈N
    .rw[if_neg (a0B ho),if_pos λq=>h3 ⟨ho,q⟩,if_pos ho];rfl
    .rw[if_pos ho,if_neg ho];rfl
 .rw[if_pos h1];exact y6 (jv (ZD (J9 (xs:=[.s t.1,.d B]) rfl (y6 (jv (ZD (J9 (xs:=[.s t.1]) rfl (Ez hl h1))))))))
def cnm:Nat->Str
 |1=>"BadName"|2=>"BadNumber"|4=>"TooMany"|5=>"Twice"|6=>"NoPlace"|7=>"NoWay"|9=>"Backward"|_=>"TooFast"
def wV:Option (Nat×List (Str×PV))->PV
 |none=>.t [.s "taken"]
 |some x=>.t (.s (cnm x.1)::x.2.map (·.2))
section
variable {N:Ob}{F:Str->Ht}{S:Ob}{t:Tp}{L:Lst}
abbrev dS(t:Tp)(S N:Ob)(L:Lst)(a b:OK):Sto:=[some (tP t),some (.l (S.map .s)),some (.l (N.map .s)),some (.dt L),some (.s t.1),some (.s t.2.1),some (.s t.2.2.1),some (.i t.2.2.2.1),some (.i t.2.2.2.2.1),some (.i t.2.2.2.2.2),a,b]
def aC(h:ms ρ=.ok xs)(hl:xs.length<=10):jH (YC ms) ρ=.ok (.rt (.t xs)):=Uy (Uz h (P7 hl (by decide)))
def Ig:∃a',(t.2.1∈N/\t.2.2.1∈N->QG vv yn [.s t.2.1,.s t.2.2.1] (dS t S N L a b)=.ok (.nx (dS t S N L a' b)))/\(¬(t.2.1∈N/\t.2.2.1∈N)->QG vv yn [.s t.2.1,.s t.2.2.1] (dS t S N L a b)=.ok (.rt (.t [.s "NoPlace",.s (if t.2.1∈N then t.2.2.1 else t.2.1)]))):=by
 have st:∀{z:Str}{x:Bool},decide (z∈N)=x->yi (mOp (pIn true) (zc 10) (zc 2)) (dS t S N L (some (.s z)) b)=.ok (!x):=λhx=>yP (zw rfl rfl (tQ.trans (by rw[hx,a1a])));have st1:∀{z:Str},z∈N->yn (dS t S N L (some (.s z)) b)=.ok (.nx (dS t S N L (some (.s z)) b)):=λh=>UG (st (O4 h));have st2:∀{z:Str},z∉N->yn (dS t S N L (some (.s z)) b)=.ok (.rt (.t [.s "NoPlace",.s z])):=λh=>(aB (st (O6 h))).trans (aC rfl (O7 rfl));refine⟨some (.s t.2.2.1),λ⟨h1,h2⟩=>?_,λh=>?_⟩
 .show(yn (dS t S N L (some (.s t.2.1)) b)).bind _=_;rw[st1 h1];show(yn (dS t S N L (some (.s t.2.2.1)) b)).bind _=_;rw[st1 h2];rfl
 .show(yn (dS t S N L (some (.s t.2.1)) b)).bind _=_;by_cases h1:t.2.1∈N
  .rw[st1 h1,if_pos h1];show(yn (dS t S N L (some (.s t.2.2.1)) b)).bind _=_;rw[st2 λq=>h ⟨h1,q⟩];rfl
  .rw[st2 h1,if_neg h1];rfl
def Ih{a:OK}{xs:OB}:∀{b:OK},∃b',((∀m∈xs,¬oob m)->QG jj yo (xs.map .i) (dS t S N L a b)=.ok (.nx (dS t S N L a b')))/\∀m,xs.find? (λm=>decide (oob m))=some m->QG jj yo (xs.map .i) (dS t S N L a b)=.ok (.rt (.t [.s "BadNumber",.i m])):=by
 have st:∀{m:Int},mOr (yi (mOp pLt (zc 11) (mC (.i 0)))) (yi (mOp pGt (zc 11) (mOp VW (mC (.i 10)) (mC (.i 9))))) (dS t S N L a (some (.i m)))=.ok (decide (oob m)):=λ{m}=>by refine(V9 (tH (x:=m) rfl) (yP (zw (x:=.i m) (y:=.i 1000000000) rfl rfl rfl))).trans ?_;congr 1;rw[<- a2Y];exact decide_eq_decide.mpr Iff.rfl
 induction xs with
 |nil=>exact λ{b}=>⟨b,λ_=>rfl,λm h=>nomatch h⟩
 |cons x xs ih=>
  intro b;obtain⟨b',h1,h2⟩:=ih (b:=some (.i x));refine⟨b',λh=>?_,λm h=>?_⟩
  .show(yo (dS t S N L a (some (.i x)))).bind _=_;rw[show yo (dS t S N L a (some (.i x)))=_ from UG (st.trans (by rw[O6 (h x O1)]))];exact h1 λm hm=>h m (O3 _ hm)
  .show(yo (dS t S N L a (some (.i x)))).bind _=_;rw[a0o]at h;by_cases c:oob x
   .rw[O4 c]at h;cases h;rw[show yo (dS t S N L a (some (.i x)))=_ from(aB (st.trans (by rw[O4 c]))).trans (aC (xs:=[.s "BadNumber",.i x]) rfl (O7 rfl))];rfl
   .rw[O6 c]at h;rw[show yo (dS t S N L a (some (.i x)))=_ from UG (st.trans (by rw[O6 c]))];exact h2 m h
def My(hl:t.1.length<=1000)(hL:LOk N L F):qi [tP t,.l (S.map .s),.l (N.map .s),.dt L]=.ok (wV (vd N F S t)):=by
 unfold vd;obtain⟨g,hg,eg⟩:=EA hl;have s0:Dp (gTp 6 (yG (gNm 4) (yG (gNm 5) (yG (gNm 6) (yG (gNm 7) (yG (gNm 8) (yG (gNm 9) cn))))))) (zc 0) [some (tP t),some (.l (S.map .s)),some (.l (N.map .s)),some (.dt L),none,none,none,none,none,none,none,none]=.ok (.nx (dS t S N L none none)):=rfl;have t1:∀{b:Bool},g=b->Br (yi (zj kC (zb (zc 4) zm))) (dS t S N L none none)=.ok (!b):=λe=>Cg (yP (zK (xs:=[.s t.1]) rfl (eg.trans (by rw[e]))));by_cases h1:Nm t.1
 .rw[if_neg (a0B h1)];have s1:=UG (a:=jH (YC (zb (mC (.s "BadName")) (zb (zc 4) zm)))) (t1 (hg.mpr h1));have t2:∀{b:Bool},decide (t.1∈S)=b->yi (mOp (pIn false) (zc 4) (zc 1)) (dS t S N L none none)=.ok b:=λhb=>yP (zw rfl rfl (tQ.trans (by rw[hb,a0H])));by_cases h2:t.1∈S
  .rw[if_pos h2];exact yg (zd ⟨_,s0,zd ⟨_,s1,kh ((aB (t2 (O4 h2))).trans (aC rfl (O7 rfl)))⟩⟩)
  .rw[if_neg h2];have s2:=UG (a:=jH (YC (zb (mC (.s "Twice")) (zb (zc 4) zm)))) (t2 (O6 h2));obtain⟨a',l1,l2⟩:=Ig (N:=N) (S:=S) (t:=t) (L:=L) (a:=none) (b:=none);have i1:qa (QM (zb (zc 5) (zb (zc 6) zm))) (dS t S N L none none)=.ok [.s t.2.1,.s t.2.2.1]:=qq (fI rfl (O7 rfl));by_cases h3:t.2.1∈N/\t.2.2.1∈N
   .rw[if_neg (a0B h3.1),if_neg (a0B h3.2)];have s3:=qR i1 (l1 h3);obtain⟨b',k1,k2⟩:=Ih (N:=N) (S:=S) (t:=t) (L:=L) (a:=a') (b:=none) (xs:=[t.2.2.2.1,t.2.2.2.2.1,t.2.2.2.2.2]);have i2:qa (QM (zb (zc 7) (zb (zc 8) (zb (zc 9) zm)))) (dS t S N L a' none)=.ok [.i t.2.2.2.1,.i t.2.2.2.2.1,.i t.2.2.2.2.2]:=qq (fI rfl (O7 rfl));have bad:∀m,[t.2.2.2.1,t.2.2.2.2.1,t.2.2.2.2.2].find? (λm=>decide (oob m))=some m->qi [tP t,.l (S.map .s),.l (N.map .s),.dt L]=.ok (.t [.s "BadNumber",.i m]):=λm h=>yg (zd ⟨_,s0,zd ⟨_,s1,zd ⟨_,s2,zd ⟨_,s3,kh (qR i2 (k2 m h))⟩⟩⟩⟩);by_cases h4:oob t.2.2.2.1
    .rw[if_pos h4];exact bad _ (by rw[a0o,O4 h4])
    .rw[if_neg h4];by_cases h5:oob t.2.2.2.2.1
     .rw[if_pos h5];exact bad _ (by rw[a0o,O6 h4];show List.find? _ _=_;rw[a0o,O4 h5])
     .rw[if_neg h5];by_cases h6:oob t.2.2.2.2.2
      .rw[if_pos h6];exact bad _ (by rw[a0o,O6 h4];show List.find? _ _=_;rw[a0o,O6 h5];show List.find? _ _=_;rw[a0o,O4 h6])
      .rw[if_neg h6];have s4:=qR i2 (k1 λm hm=>by
        rcases P8.mp hm with rfl|hm
        .exact h4
        rcases P8.mp hm with rfl|hm
        .exact h5
        rcases P8.mp hm with rfl|hm
        .exact h6
        cases hm)
       have t7:∀{x:Bool},decide (t.2.2.2.2.1<=t.2.2.2.1)=x->yi (mOp pLe (zc 8) (zc 7)) (dS t S N L a' b')=.ok x:=λhx=>yP (zw (x:=.i t.2.2.2.2.1) (y:=.i t.2.2.2.1) rfl rfl (by rw[<- hx];rfl));by_cases h7:t.2.2.2.2.1<=t.2.2.2.1
       .rw[if_pos h7];exact yg (zd ⟨_,s0,zd ⟨_,s1,zd ⟨_,s2,zd ⟨_,s3,zd ⟨_,s4,kh ((aB (t7 (O4 h7))).trans (aC rfl (O7 rfl)))⟩⟩⟩⟩⟩)
       .rw[if_neg h7];have s7:=UG (a:=jH (YC (zb (mC (.s "Backward")) (zb (zc 4) zm)))) (t7 (O6 h7));have t8:∀{x:Bool},(yq L [sk t.2.1,sk t.2.2.1]).isSome=x->yi (gh true (zb (zc 5) (zb (zc 6) zm)) (zc 3)) (dS t S N L a' b')=.ok (!x):=λhx=>(UC (x:=t.2.1) (y:=t.2.2.1) rfl rfl).trans (by rw[hx,a1a]);have lk:=hL _ h3.1 _ h3.2;cases e:yq (F t.2.1) (sk t.2.2.1)with
        |none=>rw[e]at lk;exact yg (zd ⟨_,s0,zd ⟨_,s1,zd ⟨_,s2,zd ⟨_,s3,zd ⟨_,s4,zd ⟨_,s7,kh ((aB (t8 (by rw[lk]))).trans (aC rfl (O7 rfl)))⟩⟩⟩⟩⟩⟩)
        |some y=>
         rw[e]at lk;have s8:=UG (a:=jH (YC (zb (mC (.s "NoWay")) (zb (zc 5) (zb (zc 6) zm))))) (t8 (by rw[lk]));have t9:∀{x:Bool},decide (t.2.2.2.2.1-t.2.2.2.1<y)=x->yi (mOp pLt (mOp gO (zc 8) (zc 7)) (lM (zc 3) (zb (zc 5) (zb (zc 6) zm)))) (dS t S N L a' b')=.ok x:=λhx=>yP (zw (x:=.i (t.2.2.2.2.1-t.2.2.2.1)) rfl (bB (x:=t.2.1) (y:=t.2.2.1) rfl rfl lk) (by rw[<- hx];rfl));by_cases h9:t.2.2.2.2.1-t.2.2.2.1<y
         .show _=Out.ok (wV (if _ then _ else _));rw[if_pos h9];exact yg (zd ⟨_,s0,zd ⟨_,s1,zd ⟨_,s2,zd ⟨_,s3,zd ⟨_,s4,zd ⟨_,s7,zd ⟨_,s8,kh ((aB (t9 (O4 h9))).trans (aC rfl (O7 rfl)))⟩⟩⟩⟩⟩⟩⟩)
         .show _=Out.ok (wV (if _ then _ else _));rw[if_neg h9];exact yg (zd ⟨_,s0,zd ⟨_,s1,zd ⟨_,s2,zd ⟨_,s3,zd ⟨_,s4,zd ⟨_,s7,zd ⟨_,s8,zd ⟨_,UG (t9 (O6 h9)),aC rfl (O7 rfl)⟩⟩⟩⟩⟩⟩⟩⟩)
   .have e:=kh (t:=yf (VZ (qa (QM (zb (zc 7) (zb (zc 8) (zb (zc 9) zm))))) jj yo)
  (yf (sIf (yi (mOp pLe (zc 8) (zc 7))) (jH (YC (zb (mC (.s "Backward")) (zb (zc 4) zm)))) yc)
  (yf (sIf (yi (gh true (zb (zc 5) (zb (zc 6) zm)) (zc 3))) (jH (YC (zb (mC (.s "NoWay")) (zb (zc 5) (zb (zc 6) zm))))) yc)
  (yf (sIf (yi (mOp pLt (mOp gO (zc 8) (zc 7)) (lM (zc 3) (zb (zc 5) (zb (zc 6) zm))))) (jH (YC (zb (mC (.s "TooFast")) (zb (zc 4) zm)))) yc)
  (jH (YC (zb (mC (.s "taken")) zm))))))) (qR i1 (l2 h3))
    refine(yg (zd ⟨_,s0,zd ⟨_,s1,zd ⟨_,s2,e⟩⟩⟩)).trans ?_;by_cases ho:t.2.1∈N
    .rw[if_neg (a0B ho),if_pos λq=>h3 ⟨ho,q⟩,if_pos ho];rfl
    .rw[if_pos ho,if_neg ho];rfl
 .rw[if_pos h1];exact yg (zd ⟨_,s0,kh ((aB (t1 (show g=false by cases g with|false=>rfl|true=>exact absurd (hg.mp rfl) h1))).trans (aC rfl (O7 rfl)))⟩)
end
def vds(N:Ob)(F:Str->Ht):List Str->List Tp->Option (Nat×List (Str×PV))
 |_,[]=>none
 |S,t::R=>match vd N F S t with
  |some x=>some x
  |none=>vds N F (S++[t.1]) R
def vdT(N:Ob)(F:Str->Ht)(T:List Tp):Option (Nat×List (Str×PV)):=if 40<T.length then some (4,[("most",.i 40)])else vds N F [] T
inductive Rf:Nat×List (Str×PV)->Prop
 |n1 (z:Str):Rf (1,[("name",.s z)])
 |n5 (z:Str):Rf (5,[("name",.s z)])
 |n6 (z:Str):Rf (6,[("name",.s z)])
 |n9 (z:Str):Rf (9,[("name",.s z)])
 |n10 (z:Str):Rf (10,[("name",.s z)])
 |v (m:Int):Rf (2,[("value",.i m)])
 |w (o g:Str):Rf (7,[("origin",.s o),("goal",.s g)])
 |m:Rf (4,[("most",.i 40)])
section
variable {N:Ob}{F:Str->Ht}{S:Ob}{t:Tp}{L:Lst}{x:OX}{T:List Tp}
def EB(h:vd N F S t=some x):Rf x:=by
 unfold vd at h
 repeat' split at h
 all_goals first|(cases h;constructor)|cases h
def Co:∀{R:List Tp}{S:Ob},vds N F S R=some x->Rf x
 |[],_,h=>nomatch h
 |t::R,S,h=>by
  unfold vds at h;split at h
  .rename_i y e;cases h;exact EB e
  .exact Co h
def ue(h:vdT N F T=some x):Rf x:=by
 unfold vdT at h;split at h
 .cases h;exact .m
 .exact Co h
def Ii:jq true (wV none) (.t [.s "taken"])=.ok (.b false):=rfl
def Mz(h:Rf x):jq true (wV (some x)) (.t [.s "taken"])=.ok (.b true):=by cases h<;>rfl
def EC(h:Rf x):kB [.x x.1 x.2]=.ok (wV (some x)):=by cases h<;>rfl
def NZ:jq true (.s z) (.s z)=.ok (.b false):=by rw[LX,O4 rfl];rfl
def Nj:jq true (.i z) (.i z)=.ok (.b false):=by rw[GC,O4 rfl];rfl
def bC{a b:PV}:∀{xs:Ov}{u v:OK},(∀x∈xs,(∃z,x=.s z)\/∃m,x=.i m)->∃u' v',QG Vu jX (IS xs xs) [some a,some b,u,v]=.ok (.nx [some a,some b,u',v'])
 |[],u,v,_=>⟨u,v,rfl⟩
 |x::xs,u,v,h=>by
  obtain⟨u',v',e⟩:=bC (a:=a) (b:=b) (u:=some x) (v:=some x) λy hy=>h y (O3 _ hy);refine⟨u',v',?_⟩;show(jX [some a,some b,some x,some x]).bind _=_;rcases h x O1 with⟨z,rfl⟩|⟨m,rfl⟩
  .rw[show jX [some a,some b,some (.s z),some (.s z)]=_ from UG (V9 (x:=false) (y:=false) rfl (V9 (x:=false) (y:=false) rfl (yP (zw rfl rfl NZ))))];exact e
  .rw[show jX [some a,some b,some (.i m),some (.i m)]=_ from UG (V9 (x:=false) (y:=false) rfl (V9 (x:=false) (y:=false) rfl (yP (zw rfl rfl Nj))))];exact e
def uf(hx:∀x∈xs,(∃z,x=.s z)\/∃m,x=.i m):qT [.t xs,.t xs]=.ok (.b true):=by obtain⟨u',v',e⟩:=bC (a:=.t xs) (b:=.t xs) (u:=none) (v:=none) hx;refine yg (zd ⟨_,UG (yP (zw (x:=.i xs.length) (y:=.i xs.length) (zK (xs:=[.t xs]) rfl rfl) (zK (xs:=[.t xs]) rfl rfl) Nj)),zd ⟨_,qR rfl e,rfl⟩⟩)
def AW(h:∀x,o=some x->Rf x):qT [wV o,wV o]=.ok (.b true):=by
 cases o with
 |none=>exact uf λx hx=>.inl ⟨_,S0.mp hx⟩
 |some x=>cases h x rfl<;>refine uf λx hx=>?_<;>simp only[List.map_cons,List.map_nil,List.mem_cons,List.not_mem_nil,or_false]at hx<;>first|(rcases hx with rfl|rfl|rfl<;>first|exact .inl ⟨_,rfl⟩|exact .inr ⟨_,rfl⟩)|(rcases hx with rfl|rfl<;>first|exact .inl ⟨_,rfl⟩|exact .inr ⟨_,rfl⟩)
end
section
variable {N:Ob}{W:List Wy}{F:Str->Ht}{S:Ob}{t:Tp}{L:Lst}{x:OX}{T:List Tp}{A:AH}{j:Nat}
def MB(h1:Nm t.1)(h2:t.1∉S)(h:TOk N F t):vd N F S t=none:=by obtain⟨y,ey,ly⟩:=h.len;have a1:=h.st;have a2:=h.fw;have a3:=h.fin;have a4:=h.MC;unfold vd;rw[if_neg (a0B h1),if_neg h2,if_neg (a0B h.org),if_neg (a0B h.goal),if_neg (by unfold oob;omega),if_neg (by unfold oob;omega),if_neg (by unfold oob;omega),if_neg (by omega),ey];exact if_neg (by omega)
def ug(h:vd N F S t=none):Nm t.1/\t.1∉S/\TOk N F t:=by
 unfold vd at h;split at h
 .cases h
 rename_i h1;split at h
 .cases h
 rename_i h2;split at h
 .cases h
 rename_i h3;split at h
 .cases h
 rename_i h4;split at h
 .cases h
 rename_i h5;split at h
 .cases h
 rename_i h6;split at h
 .cases h
 rename_i h7;split at h
 .cases h
 rename_i h8;split at h
 .cases h
 rename_i y ey;split at h
 .cases h
 rename_i h9;unfold oob at h5 h6 h7;exact⟨a1H.mp h1,h2,a1H.mp h3,a1H.mp h4,⟨y,ey,by omega⟩,by omega,by omega,by omega,by omega,by omega⟩
def Cp:∀{R:List Tp}{S:Ob},(∀t∈R,TOk N F t/\Nm t.1)->(S++R.map (·.1)).Nodup->vds N F S R=none
 |[],_,_,_=>rfl
 |t::R,S,h,nd=>by
  unfold vds;obtain⟨a,b⟩:=h t O1;have e:S++(t::R).map (·.1)=S++[t.1]++R.map (·.1):=by rw[O8,a0m];rfl
  rw[e]at nd;rw[MB b (λq=>(a02.mp (a02.mp nd).1).2.2 _ q _ O1 rfl) a];exact Cp (λu hu=>h u (O3 _ hu)) nd
def mI:∀{R:List Tp}{S:Ob},S.Nodup->vds N F S R=none->(S++R.map (·.1)).Nodup
 |[],S,nd,_=>by rw[a2x,R8];exact nd
 |t::R,S,nd,h=>by
  unfold vds at h;split at h
  .cases h
  .rename_i e;have h2:=(ug e).2.1;have:=mI (S:=S++[t.1]) (a02.mpr ⟨nd,a2L _ _,λa ha b hb q=>h2 (by rw[<- S0.mp hb,<- q];exact ha)⟩) h;rw[a0m]at this;exact this
abbrev uS(T:List Tp)(N:Ob)(L:Lst)(S:Ob)(a b:OK):Sto:=[some (.l (T.map tP)),some (.l (N.map .s)),some (.dt L),some (.l (S.map .s)),a,b]
def mJ(hL:LOk N L F):∀{R:List Tp}{S:Ob}{a b:OK},(∀t∈R,t.1.length<=1000)->S.length+R.length<=1000->(vds N F S R=none->∃S' a' b',QG K0 qU (R.map tP) (uS T N L S a b)=.ok (.nx (uS T N L S' a' b')))/\∀x,vds N F S R=some x->QG K0 qU (R.map tP) (uS T N L S a b)=.ok (.rt (wV (some x)))
 |[],S,a,b,_,_=>⟨λ_=>⟨S,a,b,rfl⟩,λx h=>nomatch h⟩
 |t::R,S,a,b,hl,hs=>by
  have e1:=yr (i:=5) (ρ:=uS T N L S (some (tP t)) b) (zK (ms:=zb (zc 4) (zb (zc 3) (zb (zc 1) (zb (zc 2) zm)))) (xs:=[tP t,.l (S.map .s),.l (N.map .s),.dt L]) rfl (My (S:=S) (hl t O1) hL));rw[N9]at hs;obtain⟨i1,i2⟩:=mJ hL (R:=R) (S:=S++[t.1]) (a:=some (tP t)) (b:=some (wV none)) (λu hu=>hl u (O3 _ hu)) (by rw[O9,a0F];omega);unfold vds;cases hv:vd N F S t with
  |some y=>refine⟨(λq=>nomatch q),λx q=>?_⟩;cases q;rw[hv]at e1;show(qU (uS T N L S (some (tP t)) b)).bind _=_;rw[show qU (uS T N L S (some (tP t)) b)=.ok (.rt (wV (some y)))from zd ⟨_,e1,kh ((aB (yP (zw rfl (Uz rfl (O7 rfl)) (Mz (EB hv))))).trans rfl)⟩];rfl
  |none=>
   rw[hv]at e1;have eb:qU (uS T N L S (some (tP t)) b)=.ok (.nx (uS T N L (S++[t.1]) (some (tP t)) (some (wV none)))):=by refine zd ⟨_,e1,zd ⟨_,UG (yP (zw rfl (Uz rfl (O7 rfl)) Ii)),(mx (i:=3) (xs:=S.map .s) (y:=.s t.1) rfl rfl (by rw[u8];omega)).trans ?_⟩⟩;show Out.ok (Fw.nx [some (.l (T.map tP)),some (.l (N.map .s)),some (.dt L),some (.l (S.map .s++[.s t.1])),some (tP t),some (wV none)])=_;unfold uS;rw[T1];rfl
   refine⟨λq=>?_,λx q=>?_⟩
   .obtain⟨S',a',b',e⟩:=i1 q;refine⟨S',a',b',?_⟩;show(qU (uS T N L S (some (tP t)) b)).bind _=_;rw[eb];exact e
   .show(qU (uS T N L S (some (tP t)) b)).bind _=_;rw[eb];exact i2 x q
def N4(hL:LOk N L F)(hl:∀t∈T,t.1.length<=1000):Ze [.l (T.map tP),.l (N.map .s),.dt L]=.ok (wV (vdT N F T)):=by
 have t0:∀{b:Bool},decide ((T.length:Int)>40)=b->yi (mOp pGt (zj QF (zb (zc 0) zm)) (mC (.i 40))) [some (.l (T.map tP)),some (.l (N.map .s)),some (.dt L),none,none,none]=.ok b:=λhb=>(Wt (zK (xs:=[.l (T.map tP)]) rfl ZA)).trans (by rw[hb]);unfold vdT;by_cases c:40<T.length
 .rw[if_pos c];exact yg (kh ((aB (t0 (O4 (by omega)))).trans (aC rfl (O7 rfl))))
 .rw[if_neg c];have s0:=UG (a:=jH (YC (zb (mC (.s "TooMany")) (zb (mC (.i 40)) zm)))) (t0 (O6 (by omega)));obtain⟨i1,i2⟩:=mJ (T:=T) hL (R:=T) (S:=[]) (a:=none) (b:=none) hl (by rw[a0X];omega);cases hv:vds N F [] T with
  |none=>obtain⟨S',a',b',e⟩:=i1 hv;exact yg (zd ⟨_,s0,zd ⟨uS T N L [] none none,rfl,zd ⟨_,qR (qq rfl) e,aC rfl (O7 rfl)⟩⟩⟩)
  |some x=>exact yg (zd ⟨_,s0,zd ⟨uS T N L [] none none,rfl,kh (qR (qq rfl) (i2 x hv))⟩⟩)
end
section
variable {N:Ob}{W:List Wy}{F:Str->Ht}{S:Ob}{t:Tp}{L:Lst}{x:OX}{T:List Tp}{A G G1:AH}{j:Nat}{ro:PV}
def dh(h:p ρ G=.exc c fs G1):K5 p q ρ G=.exc c fs G1:=by unfold K5;rw[h]
def UI(h:m ρ G=.exc c fs G1):XW m ρ G=.exc c fs G1:=by unfold XW;rw[h];rfl
def Nk(h0:Wj bs ρ=none)(h1:KN G bs ρ=some r)(h2:m r=.exc c fs)(hi:x6 fs=true):hP bs m ρ G=.exc c fs G:=by unfold hP;rw[h0];dsimp only;rw[h1];dsimp only;rw[h2];dsimp only;rw[if_pos hi]
def mK(h:hm (xs.map some++List.replicate (n-xs.length) none) G=.exc c fs G1):BH n hm xs G=.exc c fs G1:=by unfold BH;rw[h]
def Ij(h:Rf x):x6 x.2=true:=by cases h<;>rfl
def uh{z:Str}:∀{P:List Tp},(yq (Wu P) (sk z)).isSome=true↔z∈P.map (·.1)
 |[]=>⟨(λh=>nomatch h),λh=>nomatch h⟩
 |t::P=>by
  show(yq ((sk t.1,tP t)::Wu P) (sk z)).isSome=true↔_;rw[yM,O8,P8];by_cases c:t.1=z
  .rw[if_pos (by rw[c])];exact⟨λ_=>.inl c.symm,λ_=>rfl⟩
  .rw[if_neg λe=>c (a1e e),uh];exact⟨.inr,λh=>h.elim (λe=>absurd e.symm c) id⟩
abbrev tS(A:AH)(ro:PV)(j:Nat)(o:Option HV):K4:=[some (.g A.length),some (.v ro),some (.g j),o]
def Ik(hj:A[j]?=some (.l ((T.map tP).map .v)))(hl:T.length<=40)(hn:∀t∈T,t.1.length<=1000):∀{R P:List Tp}{o:Option HV},P++R=T->(vds N F (P.map (·.1)) R=none->∃o',QT j yj zU R.length P.length (tS A (roP N W F) j o) (tG A (roP N W F) P)=.nx (tS A (roP N W F) j o') (tG A (roP N W F) T))/\∀x,vds N F (P.map (·.1)) R=some x->∃B,QT j yj zU R.length P.length (tS A (roP N W F) j o) (tG A (roP N W F) P)=.exc x.1 x.2 (A++B):=by
 intro R
 induction R with
 |nil=>intro P o e;rw[R8]at e;subst e;refine⟨λ_=>⟨o,?_⟩,λx h=>nomatch h⟩;unfold QT;rw[show(tG A (roP N W F) P)[j]?=some (.l ((P.map tP).map .v))from gA hj];dsimp only;rw[a1T (by rw[u8,u8];exact O2 _)]
 |cons t R ih=>
  intro P o e;have ea:P++[t]++R=T:=by rw[a0m];exact e
  obtain⟨i1,i2⟩:=ih (P:=P++[t]) (o:=some (.v (tP t))) ea;rw[O9,T1]at i1 i2;have hp:P.length<=40:=by rw[<- e,O9]at hl;omega
  have ht:t∈T:=by rw[<- e];exact R7 _ O1
  have ef:ny [11] "by_name" (zc 0) [some (.o 11 [("roads",roP N W F),("by_name",.d (Wu P))]),some (roP N W F),none,some (tP t)]=.ok (.d (Wu P)):=by show(if 11∈[11]then Yt (List.lookup ("by_name":Str) [("roads",roP N W F),("by_name",PV.d (Wu P))])else .wall)=_;rw[if_pos O1,vZ (by decide +kernel),lD];rfl
  have ec:=Ie (N:=N) (W:=W) (F:=F) (S:=P.map (·.1)) (hn t ht) λz=>uh (P:=P);have rs:KN (tG A (roP N W F) P) [true,true,false,true] (tS A (roP N W F) j (some (.v (tP t))))=some [some (.o 11 [("roads",roP N W F),("by_name",.d (Wu P))]),some (roP N W F),none,some (tP t)]:=oI Ic (oI rfl (oh (oI rfl EZ)));have ei:((T.map tP).map HV.v)[P.length]?=some (.v (tP t)):=by rw[<- e];simp
  have go:∀{r:HFw},(match zU (tS A (roP N W F) j (some (.v (tP t)))) (tG A (roP N W F) P)with
   |.nx ρ2 G2=>QT j yj zU R.length (P.length+1) ρ2 G2
   |.ct ρ2 G2=>QT j yj zU R.length (P.length+1) ρ2 G2
   |.bk ρ2 G2=>.nx ρ2 G2
   |.rt v G2=>.rt v G2
   |.exc c fs G2=>.exc c fs G2
   |.wall=>.wall)=r->QT j yj zU (t::R).length P.length (tS A (roP N W F) j o) (tG A (roP N W F) P)=r:=λh=>by
   rw[N9];unfold QT;rw[show(tG A (roP N W F) P)[j]?=some (.l ((T.map tP).map .v))from gA hj];dsimp only;rw[ei];exact h
  unfold vds;cases hv:vd N F (P.map (·.1)) t with
  |some y=>rw[hv]at ec;refine⟨(λq=>nomatch q),λx q=>?_⟩;cases q;refine⟨[.o 11 (tFs (roP N W F) (A.length+1)),.d (vK (Wu P))],go ?_⟩;rw[show zU (tS A (roP N W F) j (some (.v (tP t)))) (tG A (roP N W F) P)=.exc y.1 y.2 (tG A (roP N W F) P)from dh (UI (Nk rfl rs (J9 (zS rfl (zS rfl (zS ef rfl))) ec) (Ij (EB hv))))];rfl
  |none=>
   rw[hv]at ec;have hz:=(ug hv).2.1;have e2:GZ (GU [11] "by_name" (JC 0)) (hP [false,false,false,true] (mOp pIx (zc 3) (mC (.i 0)))) (JC 3) (tS A (roP N W F) j (some (.v (tP t)))) (tG A (roP N W F) P)=.nx (tS A (roP N W F) j (some (.v (tP t)))) (tG A (roP N W F) (P++[t])):=by refine(Es (y:=.v (tP t)) (k:=A.length+1) (z:=.s t.1) (q:=sk t.1) rfl (Et rfl ga0 O1 (by unfold tFs;rw[Xo (by decide +kernel),Eu])) (og rfl rfl) ga1 rfl (by unfold vK Wu;rw[u8,u8];omega)).trans ?_;unfold tG;rw[sa1,ua hz]
   have eb:zU (tS A (roP N W F) j (some (.v (tP t)))) (tG A (roP N W F) P)=.nx (tS A (roP N W F) j (some (.v (tP t)))) (tG A (roP N W F) (P++[t])):=qD (df (Ng rfl rs (zK (zS rfl (zS rfl (zS ef rfl))) ec) rfl)) e2;refine⟨λq=>?_,λx q=>?_⟩
   .obtain⟨o',e'⟩:=i1 q;exact⟨o',go (by rw[eb];exact e')⟩
   .obtain⟨G',e'⟩:=i2 x q;exact⟨G',go (by rw[eb];exact e')⟩
end
section
variable {N:Ob}{W:List Wy}{F:Str->Ht}{S:Ob}{t:Tp}{L:Lst}{x:OX}{T:List Tp}{A G G1:AH}{j:Nat}{ro:PV}
def AX{g:Ou}{ms:MA}{ρ:Sto}{xs:Ov}{x:PV}(h:ms ρ=.ok xs)(h2:g xs=.ok x):a_ g ms ρ=.ok x:=by unfold a_ II;rw[h];dsimp only;rw[h2]
def ED{x:PV}{n:Int}{k:Nat}(h:QF [x]=.ok (.i (k:Int)))(hk:n<k):qf [x,.i n]=.exc 4 [("most",.i n)]:=by refine y6 ((aB (yP (zw (zK (xs:=[x]) rfl h) rfl ?_))).trans rfl);show Out.ok (PV.b (decide ((k:Int)>n)))=_;rw[O4 (by omega)]
def Nl(hj:A[j]?=some (.l ((T.map tP).map .v)))(hl:T.length<=40):vN (tS A ro j none) (A++[.o 11 []])=K5 (Ad (JC 2) yj zU) (U2 [11] "order" (JC 0) (hF [false,false,true] (mLC (qa (e9 zF (zb (zc 2) zm))) [none] j3 j4 j5))) (tS A ro j none) (tG A ro []):=by
 have g0:(A++[Cell.o 11 []])[A.length]?=some (.o 11 []):=by simp
 have e2:U2 [11] "roads" (JC 0) (JC 1) (tS A ro j none) (A++[.o 11 []])=.nx (tS A ro j none) (A++[.o 11 [("roads",.v ro)]]):=by refine(dg rfl rfl g0 O1 (by decide)).trans ?_;rw[show(A++[Cell.o 11 []]).set A.length (.o 11 (X0 "roads" (.v ro) []))=A++[.o 11 [("roads",.v ro)]] by simp[X0]]
 have g1:(A++[Cell.o 11 [("roads",.v ro)]]++[.d []])[A.length]?=some (.o 11 [("roads",.v ro)]):=by simp
 have e3:U2 [11] "by_name" (JC 0) (hF [] xS) (tS A ro j none) (A++[.o 11 [("roads",.v ro)]])=.nx (tS A ro j none) (tG A ro []):=by
  refine(dg (y:=.g (A++[Cell.o 11 [("roads",.v ro)]]).length) (G1:=A++[Cell.o 11 [("roads",.v ro)]]++[.d []]) rfl rfl g1 O1 (by show 1<1000;decide)).trans ?_;have e:X0 "by_name" (.g (A++[Cell.o 11 [("roads",.v ro)]]).length) [("roads",.v ro)]=tFs ro (A.length+1):=by rw[O9];show(if(("roads":Str)="by_name")then _ else _)=_;rw[if_neg (by decide +kernel)];rfl
  rw[e,show A++[Cell.o 11 [("roads",.v ro)]]++[.d []]=A++[.o 11 [("roads",.v ro)],.d []] by rw[a0m];rfl,sa0];rfl
 exact qD (df (Ng rfl (oh (oh (oI (UE (n:=6) (gA hj)) (Mq EZ)))) (zK (xs:=[.l (T.map tP),.i 40]) rfl (iz ZA (by omega))) rfl)) (qD e2 (qD e3 rfl))
def mL(hj:A[j]?=some (.l ((T.map tP).map .v)))(h:QT j yj zU T.length 0 (tS A ro j none) (tG A ro [])=r):Ad (JC 2) yj zU (tS A ro j none) (tG A ro [])=r:=by
 show(match(tG A ro [])[j]? with
  |some (.l xs)=>QT j yj zU xs.length 0 (tS A ro j none) (tG A ro [])
  |_=>.wall)=_
 rw[show(tG A ro [])[j]?=some (.l ((T.map tP).map .v))from gA hj];dsimp only;rw[u8,u8];exact h
def Cq(hj:A[j]?=some (.l ((T.map tP).map .v)))(hn:∀t∈T,t.1.length<=1000):(vdT N F T=none->yK [.g A.length,.v (roP N W F),.g j] (A++[.o 11 []])=.ok (.v .n) (Xp A (roP N W F) T))/\∀x,vdT N F T=some x->∃B,yK [.g A.length,.v (roP N W F),.g j] (A++[.o 11 []])=.exc x.1 x.2 (A++B):=by
 unfold vdT;by_cases c:40<T.length
 .rw[if_pos c];refine⟨(λq=>nomatch q),λx q=>?_⟩;cases q;exact⟨_,mK (dh (UI (Nk rfl (oh (oh (oI (UE (n:=6) (gA hj)) (Mq EZ)))) (J9 (xs:=[.l (T.map tP),.i 40]) rfl (ED ZA (by omega))) rfl)))⟩
 .rw[if_neg c];have hl:T.length<=40:=by omega
  obtain⟨i1,i2⟩:=Ik (N:=N) (W:=W) (F:=F) hj hl hn (R:=T) (P:=[]) (o:=none) rfl;refine⟨λq=>?_,λx q=>?_⟩
  .obtain⟨o',e4⟩:=i1 q;have nd:=mI (S:=[]) a2T q;rw[a1v]at nd;have ls:lcP j3 j4 j5 ((oJ T).map tP) [none] []=.ok (Ew T):=
    XQ tP (λt=>PV.s t.1) (λρ=>∃o,ρ=[o]) _ _ ⟨none,rfl⟩ (λt _ ρ ⟨o,ho⟩=>by subst ho;exact⟨_,rfl,⟨_,rfl⟩,zw rfl rfl rfl⟩) (by rw[ub];omega)
   have tl:(tG A (roP N W F) T).length=A.length+2:=by unfold tG;rw[O9];rfl
   have e5:U2 [11] "order" (JC 0) (hF [false,false,true] (mLC (qa (e9 zF (zb (zc 2) zm))) [none] j3 j4 j5)) (tS A (roP N W F) j o') (tG A (roP N W F) T)=.nx (tS A (roP N W F) j o') (Xp A (roP N W F) T):=by
    refine(dg (y:=.g (tG A (roP N W F) T).length) (G1:=tG A (roP N W F) T++[.l ((uJ T).map .v)]) (Nh rfl (oh (oh (oI (UE (n:=6) (xs:=T.map tP) (gA hj)) (Mq EZ)))) (nF (qq (show e9 zF (zb (zc 2) zm) [none,none,some (.l (T.map tP)),none]=_ from AU nd (by omega))) ls) (show GN (Ew T)=true from t_) rfl) rfl (gA ga0) O1 (by show 2<1000;decide)).trans ?_;have e:X0 "order" (.g (tG A (roP N W F) T).length) (tFs (roP N W F) (A.length+1))=([("roads",.v (roP N W F)),("by_name",.g (A.length+1)),("order",.g (A.length+2))]:List (Str×HV)):=by rw[tl];show(if(("roads":Str)="order")then _ else _::(if(("by_name":Str)="order")then _ else _))=_;rw[if_neg (by decide +kernel),if_neg (by decide +kernel)];rfl
    rw[e];unfold Xp;rw[a0m];simp
   show(match vN (tS A (roP N W F) j none) (A++[.o 11 []])with
    |.nx _ G'=>HX.ok (HV.v .n) G'
    |.rt x G'=>.ok x G'
    |.exc c fs G'=>.exc c fs G'
    |_=>.wall)=_
   rw[Nl hj hl,qD (mL hj e4) e5]
  .obtain⟨G',e'⟩:=i2 x q;exact⟨G',mK ((Nl hj hl).trans (dh (mL hj e')))⟩
def Il(hT:∀t∈T,TOk N F t/\Nm t.1)(nd:(T.map (·.1)).Nodup)(hl:T.length<=40):vdT N F T=none:=by unfold vdT;rw[if_neg (by omega)];exact Cp hT nd
def Cr(hj:A[j]?=some (.l ((T.map tP).map .v)))(hn:∀t∈T,t.1.length<=1000):∃B,jE [.v (roP N W F),.g j] A=.ok (.v (wV (vdT N F T))) (A++B):=by
 obtain⟨i1,i2⟩:=Cq (N:=N) (W:=W) (F:=F) hj hn;have em:∀{r:HX HV},(match yK [.g A.length,.v (roP N W F),.g j] (A++[.o 11 []])with
  |.ok (.v .n) G2=>.ok (.g A.length) G2
  |.exc c fs G2=>.exc c fs G2
  |_=>.wall)=r->EY 11 yK (jJ (JC 0) (jJ (JC 1) gf)) [some (.v (roP N W F)),some (.g j),none] A=r:=λh=>h
 cases hv:vdT N F T with
 |none=>
  refine⟨[.o 11 [("roads",.v (roP N W F)),("by_name",.g (A.length+1)),("order",.g (A.length+2))],.d (vK (Wu T)),.l ((uJ T).map .v)],?_⟩;have e1:XW (EY 11 yK (jJ (JC 0) (jJ (JC 1) gf))) [some (.v (roP N W F)),some (.g j),none] A=.nx [some (.v (roP N W F)),some (.g j),none] (Xp A (roP N W F) T):=df (em (by rw[i1 hv]));have e2:jD [some (.v (roP N W F)),some (.g j),none] A=.rt (.v (wV none)) (Xp A (roP N W F) T):=by refine qD (ρ':=[some (.v (roP N W F)),some (.g j),none]) (G':=Xp A (roP N W F) T) ?_ (c7 (og rfl (Uz rfl (O7 rfl))));unfold Hh Ao;rw[e1]
  show(match jD [some (.v (roP N W F)),some (.g j),none] A with
   |.nx _ G'=>HX.ok (HV.v .n) G'
   |.rt x G'=>.ok x G'
   |.exc c fs G'=>.exc c fs G'
   |_=>.wall)=_
  rw[e2];rfl
 |some x=>
  obtain⟨B,e⟩:=i2 x hv;refine⟨B,?_⟩;have e1:XW (EY 11 yK (jJ (JC 0) (jJ (JC 1) gf))) [some (.v (roP N W F)),some (.g j),none] A=.exc x.1 x.2 (A++B):=UI (em (by rw[e]));have hc:x.1∈[1,2,4,5,6,7,9,10]:=by cases ue hv<;>(dsimp only;decide)
  have e2:jD [some (.v (roP N W F)),some (.g j),none] A=.rt (.v (wV (some x))) (A++B):=by refine Ea ?_;unfold Hh Ao;rw[e1];dsimp only;rw[if_pos hc,show oG (hP [false,false,true] (a_ kB (zb (zc 2) zm))) ([some (.v (roP N W F)),some (.g j),none].set 2 (some (.v (.x x.1 x.2)))) (A++B)=.rt (.v (wV (some x))) (A++B)from c7 (og rfl (AX (xs:=[.x x.1 x.2]) rfl (EC (ue hv))))]
  show(match jD [some (.v (roP N W F)),some (.g j),none] A with
   |.nx _ G'=>HX.ok (HV.v .n) G'
   |.rt x G'=>.ok x G'
   |.exc c fs G'=>.exc c fs G'
   |_=>.wall)=_
  rw[e2]
end
def str_len:∀k:Fin 42,(Str.ofString (toString (k.val:Int))).length<=5/\((k.val:Int).natAbs.log2<1920):=by decide +kernel
def UJ{N:Ob}{h:Str}(hn:N.length<=12)(hh:h.length<=20):∃z:Str,z.length<=30/\qh [.l (N.map .s),.s h]=.ok (.s z):=by
 have run:∀{ks:Od}{o:OK},(∀k∈ks,k<42)->(∃z:Str,z.length<=30/\QG vt yC (ks.map λk=>PV.i ((k:Nat):Int)) [some (.l (N.map .s)),some (.s h),o]=.ok (.rt (.s z)))\/∃o',QG vt yC (ks.map λk=>PV.i ((k:Nat):Int)) [some (.l (N.map .s)),some (.s h),o]=.ok (.nx [some (.l (N.map .s)),some (.s h),o']):=by
  intro ks
  induction ks with
  |nil=>exact λ{o} _=>.inr ⟨o,rfl⟩
  |cons k ks ih=>
   intro o hk;obtain⟨a,b⟩:=str_len ⟨k,hk k O1⟩;have e:mOp zW (zc 1) (zj DK (zb (zc 2) zm)) [some (.l (N.map .s)),some (.s h),some (.i (k:Int))]=.ok (.s (h++Str.ofString (toString (k:Int)))):=zw rfl (zK (xs:=[.i (k:Int)]) rfl (if_pos b)) (IT (n:=100) (by have:(Str.ofString (toString (k:Int))).length<=5:=a;omega) (by decide));have t:∀{x:Bool},decide (h++Str.ofString (toString (k:Int))∈N)=x->yi (mOp (pIn true) (mOp zW (zc 1) (zj DK (zb (zc 2) zm))) (zc 0)) [some (.l (N.map .s)),some (.s h),some (.i (k:Int))]=.ok (!x):=λhx=>yP (zw e rfl (tQ.trans (by rw[hx,a1a])));by_cases c:h++Str.ofString (toString (k:Int))∈N
   .have eb:yC [some (.l (N.map .s)),some (.s h),some (.i (k:Int))]=_:=UG (t (O4 c));rcases ih (o:=some (.i (k:Int))) λj hj=>hk j (O3 _ hj)with⟨z,hz,q⟩|⟨o',q⟩
    .refine .inl ⟨z,hz,?_⟩;show(yC [some (.l (N.map .s)),some (.s h),some (.i (k:Int))]).bind _=_;rw[eb];exact q
    .refine .inr ⟨o',?_⟩;show(yC [some (.l (N.map .s)),some (.s h),some (.i (k:Int))]).bind _=_;rw[eb];exact q
   .refine .inl ⟨h++Str.ofString (toString (k:Int)),?_,?_⟩
    rotate_left
    .show(yC [some (.l (N.map .s)),some (.s h),some (.i (k:Int))]).bind _=_;rw[show yC [some (.l (N.map .s)),some (.s h),some (.i (k:Int))]=_ from(aB (t (O6 c))).trans (Uy e)];rfl
    .show(h++Str.ofString (toString (k:Int))).cps.size<=30;have a':(Str.ofString (toString (k:Int))).cps.size<=5:=a;have h':h.cps.size<=20:=hh;show(h.cps++(Str.ofString (toString (k:Int))).cps).size<=30;rw[Array.size_append];omega
 have er:YI (zb (mOp zW (zj QF (zb (zc 0) zm)) (mC (.i 1))) zm) [some (.l (N.map .s)),some (.s h),none]=.ok ((List.range (N.length+1)).map λk=>PV.i ((k:Nat):Int)):=by rw[<- Xf];exact eK (zS (zw (zK (xs:=[.l (N.map .s)]) rfl ZA) rfl rfl) rfl) (by omega)
 rcases run (ks:=List.range (N.length+1)) (o:=none) λk hk=>by have:=a0C.mp hk;omega with⟨z,hz,q⟩|⟨o',q⟩
 .exact⟨z,hz,yg (kh (qR er q))⟩
 .exact⟨"",T6 _,yg (zd ⟨_,qR er q,rfl⟩)⟩
def Im:∃m:Int,kU [.i c]=.ok (.i m):=by
 have t:yi (mOp (jq false) (mOp zX (zc 0) (mC (.i 2))) (mC (.i 1))) [some (.i c)]=.ok (decide (c % 2=1)):=bx (kW rfl (by decide));have d:mOp zX (mOp QE (zc 0) (mC (.i 2))) (mOp VW (mC (.i 10)) (mC (.i 6))) [some (.i c)]=.ok (.i (c / 2 % 1000000)):=zw (oa rfl (by decide) (by decide)) (y:=.i 1000000) rfl (kg (by decide));by_cases h:c % 2=1
 .exact⟨_,yg (kh ((aB (t.trans (by rw[O4 h]))).trans (Uy (zw (x:=.i 1000000001) rfl d rfl))))⟩
 .exact⟨_,yg (zd ⟨_,UG (t.trans (by rw[O6 h])),Uy (zw (x:=.i (-1)) rfl d rfl)⟩)⟩
section
variable {ns:OB}{a p kd mo:Int}{T:List Tp}{N:Ob}{L:Lst}{b:Nat}
abbrev pS(ns:OB)(a:Int)(T:List Tp)(N:Ob)(L:Lst)(p kd mo:Int)(t:Tp):Sto:=[some (.sc ns),some (.i a),some (.l (T.map tP)),some (.l (N.map .s)),some (.dt L),some (.i p),some (.i kd),some (.i mo),some (.s t.1),some (.s t.2.1),some (.s t.2.2.1),some (.i t.2.2.2.1),some (.i t.2.2.2.2.1),some (.i t.2.2.2.2.2)]
def chg{c:MT}{s rest:MS}{t:Tp}{q:Bool}{P:List Tp->Prop}(hb:t.1.length<=b)(hc:c (pS ns a T N L p kd mo t)=.ok q)(hs:q=true->∃t':Tp,t'.1.length<=b/\s (pS ns a T N L p kd mo t)=.ok (.nx (pS ns a T N L p kd mo t')))
  (h:∀t':Tp,t'.1.length<=b->∃T',P T'/\rest (pS ns a T N L p kd mo t')=.ok (.rt (.l (T'.map tP)))):∃T',P T'/\yf (sIf c s yc) rest (pS ns a T N L p kd mo t)=.ok (.rt (.l (T'.map tP))):=by
 cases q with
 |false=>obtain⟨T',h1,h2⟩:=h t hb;exact⟨T',h1,zd ⟨_,UG hc,h2⟩⟩
 |true=>obtain⟨t',hb',e⟩:=hs rfl;obtain⟨T',h1,h2⟩:=h t' hb';exact⟨T',h1,zd ⟨_,(aB hc).trans e,h2⟩⟩
def some_at(h0:0<N.length):∃z:Str,mOp pIx (zc 3) (mOp zX (zc 7) (zj QF (zb (zc 3) zm))) (pS ns a T N L p kd mo t)=.ok (.s z):=by obtain⟨z,_,e⟩:=V_ (N:=N) (s:=mo) h0;exact⟨z,zw rfl (zw rfl (zK (xs:=[.l (N.map .s)]) rfl ZA) (kg (by omega))) e⟩
def ui(ha:0<=a)(h0:0<N.length)(hn:N.length<=12)(hb:∀t∈T,t.1.length<=b)(hb2:b<=500)(hl:T.length<=100):∃T':List Tp,(T'.length=T.length/\∀t∈T',t.1.length<=b+13)/\jA [.sc ns,.i a,.l (T.map tP),.l (N.map .s),.dt L]=.ok (.l (T'.map tP)):=by
 cases hT:T with
 |nil=>exact⟨[],⟨rfl,λ_ h=>nomatch h⟩,rfl⟩
 |cons t0 R=>
  rw[<- hT];have hp:0<T.length:=by rw[hT];exact Nat.zero_lt_succ _
  obtain⟨x,x0,ex⟩:=vx (ns:=ns) (k:=a) (p:=65537) ha (by decide);obtain⟨y,y0,ey⟩:=vx (ns:=ns) (k:=a+1) (p:=65521) (by omega) (by decide);obtain⟨mo,em⟩:=Qb (ns:=ns) (k:=a+2) (by omega);have q0:=S5 x (show(T.length:Int)≠0 by omega);have q1:=R4 x (show(0:Int)<T.length by omega);generalize hq:x % (T.length:Int)=q at q0 q1;have hi:q.toNat<T.length:=by omega
  have e0:yi (mOp (jq false) (zc 2) (QM zm)) [some (.sc ns),some (.i a),some (.l (T.map tP)),some (.l (N.map .s)),some (.dt L),none,none,none,none,none,none,none,none,none]=.ok false:=by rw[hT];rfl
  have e5:=yr (i:=5) (ρ:=[some (.sc ns),some (.i a),some (.l (T.map tP)),some (.l (N.map .s)),some (.dt L),none,none,none,none,none,none,none,none,none]) (zw (a:=zj zJ (zb (zc 0) (zb (zc 1) (zb (mC (.i 65537)) zm)))) (b:=zj QF (zb (zc 2) zm)) (zK (xs:=[.sc ns,.i a,.i 65537]) rfl ex) (zK (xs:=[.l (T.map tP)]) rfl ZA) (kg (by omega)));rw[hq]at e5;have ei:pIx (.l (T.map tP)) (.i q)=.ok (tP T[q.toNat]):=by rw[iy q0 (by rw[u8];exact q1),a0z]
  have open_:∀{P:List Tp->Prop}{rest:MS},(∃T',P T'/\rest (pS ns a T N L q (y % 12) mo T[q.toNat])=.ok (.rt (.l (T'.map tP))))->∃T',P T'/\yf (sIf (yi (mOp (jq false) (zc 2) (QM zm))) (jH (QM zm)) yc) (yf (y8 5 (mOp zX (zj zJ (zb (zc 0) (zb (zc 1) (zb (mC (.i 65537)) zm)))) (zj QF (zb (zc 2) zm)))) (yf (y8 6 (mOp zX (zj zJ (zb (zc 0) (zb (mOp zW (zc 1) (mC (.i 1))) (zb (mC (.i 65521)) zm)))) (mC (.i 12)))) (yf (y8 7 (zj zY (zb (zc 0) (zb (mOp zW (zc 1) (mC (.i 2))) zm)))) (yf (Dp (gTp 6 (yG (gNm 8) (yG (gNm 9) (yG (gNm 10) (yG (gNm 11) (yG (gNm 12) (yG (gNm 13) cn))))))) (mOp pIx (zc 2) (zc 5))) rest)))) [some (.sc ns),some (.i a),some (.l (T.map tP)),some (.l (N.map .s)),some (.dt L),none,none,none,none,none,none,none,none,none]=.ok (.rt (.l (T'.map tP))):=λ⟨T',h1,h2⟩=>⟨T',h1,zd ⟨_,UG e0,zd ⟨_,e5,zd ⟨_,yr (kW (zK (xs:=[.sc ns,.i (a+1),.i 65521]) rfl ey) (by decide)),zd ⟨_,yr (zK (xs:=[.sc ns,.i (a+2)]) rfl em),zd ⟨pS ns a T N L q (y % 12) mo T[q.toNat],by unfold Dp;rw[zw rfl rfl ei];rfl,h2⟩⟩⟩⟩⟩⟩;have kq:∀{t:Tp}{n:Int},yi (mOp (jq false) (zc 6) (mC (.i n))) (pS ns a T N L q (y % 12) mo t)=.ok (decide (y % 12=n)):=bx rfl;have fin:∀t':Tp,t'.1.length<=b+13->∃T':List Tp,(T'.length=T.length/\∀t∈T',t.1.length<=b+13)/\jH (mOp zW (mOp zW (mSl pSl (zc 2) aX (Zj (zc 5))) (QM (zb (YC (zb (zc 8) (zb (zc 9) (zb (zc 10) (zb (zc 11) (zb (zc 12) (zb (zc 13) zm))))))) zm))) (mSl pSl (zc 2) (Zj (mOp zW (zc 5) (mC (.i 1)))) aX)) (pS ns a T N L q (y % 12) mo t')=.ok (.rt (.l (T'.map tP))):=λt' ht'=>by
   refine⟨T.take q.toNat++[t']++T.drop (q+1).toNat,⟨?_,λt ht=>?_⟩,?_⟩
   .rw[O9,O9,a0f,a0K,a0F];omega
   .rcases T9.mp ht with ht|ht
    .rcases T9.mp ht with ht|ht
     .have:=hb t (a03 ht);omega
     .rw[S0.mp ht];exact ht'
    .have:=hb t (a23 ht);omega
   .have s1:mSl pSl (zc 2) aX (Zj (zc 5)) (pS ns a T N L q (y % 12) mo t')=.ok (.l ((T.take q.toNat).map tP)):=by show Out.ok (PV.l (eC (T.map tP) none (some q)))=_;rw[fL q0,a1s]
    have s2:mSl pSl (zc 2) (Zj (mOp zW (zc 5) (mC (.i 1)))) aX (pS ns a T N L q (y % 12) mo t')=.ok (.l ((T.drop (q+1).toNat).map tP)):=by show Out.ok (PV.l (eC (T.map tP) (some (q+1)) none))=_;rw[mr (by omega) (by rw[u8];omega),a24]
    have ad:∀{u v:Ov},u.length<=1000->v.length<=1000->zW (.l u) (.l v)=.ok (.l (u++v)):=λhu hv=>if_pos (P7 (Nat.add_le_add hu hv) (by decide));have l1:(T.take q.toNat).length<=100:=by rw[a0f];omega
    have l2:(T.drop (q+1).toNat).length<=100:=by rw[a0K];omega
    refine Uy ((zw (zw s1 (fI (xs:=[tP t']) (zS (Uz rfl (O7 rfl)) rfl) (O7 rfl)) (ad (by rw[u8];omega) (O7 rfl))) s2 (ad (by rw[O9,u8];show _+1<=_;omega) (by rw[u8];omega))).trans ?_);rw[T1,T1];rfl
  obtain⟨zp,lp,ep⟩:=UJ (N:=N) (h:="p") hn (by decide);obtain⟨zq,lq,eq⟩:=UJ (N:=N) (h:="q") hn (by decide);obtain⟨zo,eo⟩:=Im (c:=mo);have hb0:T[q.toNat].1.length<=b:=hb _ (a0A hi);have c0:∃t':Tp,t'.1.length<=b+13/\y8 8 (mOp pIx (QM (zb (mC (.s "")) (zb (mOp zW (zc 8) (mC (.s "_"))) (zb (mOp zW (zc 8) (mC (.s "0123456789012"))) (zb (mC (.s "A")) (zb (mOp zW (mC (.s " ")) (zc 8)) zm)))))) (mOp zX (zc 7) (mC (.i 5)))) (pS ns a T N L q (y % 12) mo T[q.toNat])=.ok (.nx (pS ns a T N L q (y % 12) mo t')):=by
   have len:∀u v:Str,(u++v).length=u.length+v.length:=λu v=>Array.size_append;generalize T[q.toNat]=t at hb0;have el:QM (zb (mC (.s "")) (zb (mOp zW (zc 8) (mC (.s "_"))) (zb (mOp zW (zc 8) (mC (.s "0123456789012"))) (zb (mC (.s "A")) (zb (mOp zW (mC (.s " ")) (zc 8)) zm))))) (pS ns a T N L q (y % 12) mo t)=.ok (.l ((["",t.1++"_",t.1++"0123456789012","A"," "++t.1]:List Str).map .s)):=
    fI (zS rfl (zS (zw (x:=.s t.1) rfl rfl (IT (n:=600) (by show _+1<=_;omega) (by decide))) (zS (zw (x:=.s t.1) rfl rfl (IT (n:=600) (by show _+13<=_;omega) (by decide))) (zS rfl (zS (zw (y:=.s t.1) rfl rfl (IT (n:=600) (by show 1+_<=_;omega) (by decide))) rfl))))) (O7 rfl)
   obtain⟨z,hz,ez⟩:=aV (xs:=["",t.1++"_",t.1++"0123456789012","A"," "++t.1]) (i:=mo % 5) (S5 _ (by decide)) (R4 _ (by decide));refine⟨(z,t.2),?_,yr (zw el (kW rfl (by decide)) ez)⟩;show z.length<=_;simp only[List.mem_cons,List.not_mem_nil,or_false]at hz;rcases hz with rfl|rfl|rfl|rfl|rfl
   .exact T6 _
   .rw[len];show _+1<=_;omega
   .rw[len];show _+13<=_;omega
   .show 1<=_;omega
   .rw[len];show 1+_<=_;omega
  have c1:∀t:Tp,∃t':Tp,t'.1.length<=b+13/\y8 8 (mOp pIx (mOp pIx (zc 2) (mOp zX (zc 7) (zj QF (zb (zc 2) zm)))) (mC (.i 0))) (pS ns a T N L q (y % 12) mo t)=.ok (.nx (pS ns a T N L q (y % 12) mo t')):=λt=>by
   have r0:=S5 mo (show(T.length:Int)≠0 by omega);have r1:=R4 mo (show(0:Int)<T.length by omega);have er:pIx (.l (T.map tP)) (.i (mo % (T.length:Int)))=.ok (tP (T[(mo % (T.length:Int)).toNat]'(by omega))):=by rw[iy r0 (by rw[u8];exact r1),a0z]
   exact⟨((T[(mo % (T.length:Int)).toNat]'(by omega)).1,t.2),P7 (show(T[(mo % (T.length:Int)).toNat]'(by omega)).1.length<=b from hb _ (a0A _)) (a1R _ _),yr (zw (zw rfl (zw rfl (zK (xs:=[.l (T.map tP)]) rfl ZA) (kg (by omega))) er) rfl rfl)⟩
  have c11:∀t:Tp,∃z:Str,mOp pIx (mOp zW (mLC (qa (zc 3)) [none,some 9,some 4] jY jZ j0) (QM (zb (zc 10) zm))) (mC (.i 0)) (pS ns a T N L q (y % 12) mo t)=.ok (.s z):=λt=>by
   have el:lcP jY jZ j0 (N.map .s) [none,some (.s t.2.1),some (.dt L)] []=.ok (.l ((N.filter λz=>xor true (yq L [sk t.2.1,sk z]).isSome).map .s)):=
    cy .s (λz=>xor true (yq L [sk t.2.1,sk z]).isSome) .s (λρ=>∃o,ρ=[o,some (.s t.2.1),some (.dt L)]) N _ [] ⟨_,rfl⟩ (λz _ ρ ⟨o,ho⟩=>by subst ho;exact⟨_,rfl,⟨_,rfl⟩,UC (x:=t.2.1) (y:=z) rfl rfl,λ_=>rfl⟩) (by rw[a0X];omega)
   have fl:(N.filter λz=>xor true (yq L [sk t.2.1,sk z]).isSome).length<=12:=P7 (a2X _ _) hn;generalize(N.filter λz=>xor true (yq L [sk t.2.1,sk z]).isSome)=M at el fl;have ea:mOp zW (mLC (qa (zc 3)) [none,some 9,some 4] jY jZ j0) (QM (zb (zc 10) zm)) (pS ns a T N L q (y % 12) mo t)=.ok (.l ((M++[t.2.2.1]).map .s)):=by refine(zw (nF (qq rfl) el) (fI (xs:=[.s t.2.2.1]) rfl (O7 rfl)) (if_pos (P7 (show(M.map PV.s).length+1<=100 by rw[u8];omega) (by decide)))).trans ?_;rw[T1];rfl
   obtain⟨z,_,ez⟩:=aV (xs:=M++[t.2.2.1]) (i:=0) (a0N _) (by rw[O9,a0F];omega);exact⟨z,zw ea rfl ez⟩
  have c9:=λt:Tp=>some_at (ns:=ns) (a:=a) (T:=T) (L:=L) (p:=q) (kd:=y % 12) (mo:=mo) (t:=t) h0;have key:∃T':List Tp,(T'.length=T.length/\∀t∈T',t.1.length<=b+13)/\Q_ [some (.sc ns),some (.i a),some (.l (T.map tP)),some (.l (N.map .s)),some (.dt L),none,none,none,none,none,none,none,none,none]=.ok (.rt (.l (T'.map tP))):=open_ (chg (b:=b+13) (P7 hb0 (a1R _ _)) kq (λ_=>c0) λt1 b1=>chg b1 kq (λ_=>c1 t1) λt2 b2=>
   chg b2 kq (λ_=>⟨(t2.1,zp,t2.2.2),b2,yr (zK (xs:=[.l (N.map .s),.s "p"]) rfl ep)⟩) λt3 b3=>
   chg b3 kq (λ_=>⟨(t3.1,t3.2.1,zq,t3.2.2.2),b3,yr (zK (xs:=[.l (N.map .s),.s "q"]) rfl eq)⟩) λt4 b4=>
   chg b4 kq (λ_=>⟨(t4.1,t4.2.1,t4.2.2.1,zo,t4.2.2.2.2),b4,yr (zK (xs:=[.i mo]) rfl eo)⟩) λt5 b5=>
   chg b5 kq (λ_=>⟨(t5.1,t5.2.1,t5.2.2.1,t5.2.2.2.1,zo,t5.2.2.2.2.2),b5,yr (zK (xs:=[.i mo]) rfl eo)⟩) λt6 b6=>
   chg b6 kq (λ_=>⟨(t6.1,t6.2.1,t6.2.2.1,t6.2.2.2.1,t6.2.2.2.2.1,zo),b6,yr (zK (xs:=[.i mo]) rfl eo)⟩) λt7 b7=>
   chg b7 kq (λ_=>⟨(t7.1,t7.2.1,t7.2.2.1,t7.2.2.2.1,t7.2.2.2.1-mo % 3,t7.2.2.2.2.2),b7,yr (zw (x:=.i t7.2.2.2.1) rfl (kW rfl (by decide)) rfl)⟩) λt8 b8=>
   chg b8 (J8 kq (UC (x:=t8.2.1) (y:=t8.2.2.1) rfl rfl)) (λhq=>by
    rw[a04,a0H]at hq;obtain⟨v,ev⟩:=a0q.mp hq.2;exact⟨(t8.1,t8.2.1,t8.2.2.1,t8.2.2.2.1,t8.2.2.2.1+v-1,t8.2.2.2.2.2),b8,yr (zw (zw (x:=.i t8.2.2.2.1) rfl (bB (x:=t8.2.1) (y:=t8.2.2.1) rfl rfl ev) rfl) rfl rfl)⟩) λt9 b9=>
   chg b9 kq (λ_=>let⟨z,ez⟩:=c9 t9;⟨(t9.1,t9.2.1,z,t9.2.2.2),b9,yr ez⟩) λt10 b10=>
   chg b10 kq (λ_=>let⟨z,ez⟩:=c9 t10;⟨(t10.1,z,t10.2.2),b10,yr ez⟩) λt11 b11=>
   chg b11 kq (λ_=>let⟨z,ez⟩:=c11 t11;⟨(t11.1,t11.2.1,z,t11.2.2.2),b11,yr ez⟩) fin)
  obtain⟨T',h1,h2⟩:=key;exact⟨T',h1,yg h2⟩
end
def K1:(∀z:Str,dy n (.s z) (.s z)=some true)/\∀i:Int,dy n (.i i) (.i i)=some true:=by
 constructor
 .intro z;rw[GD,O4 rfl]
 .intro i;cases n<;>(show some (i==i)=_;rw[a05])
def VE{f:OW}:∀{xs:Ov},(∀x∈xs,f x x=some true)->xE f xs xs=some true
 |[],_=>rfl
 |x::xs,h=>by show ID (f x x) (xE f xs xs)=_;rw[h x O1,VE λy hy=>h y (O3 _ hy)];rfl
def EE:dy (n+1) (tP t) (tP t)=some true:=by
 show xE (dy n) [.s t.1,.s t.2.1,.s t.2.2.1,.i t.2.2.2.1,.i t.2.2.2.2.1,.i t.2.2.2.2.2] [.s t.1,.s t.2.1,.s t.2.2.1,.i t.2.2.2.1,.i t.2.2.2.2.1,.i t.2.2.2.2.2]=_;refine VE λx hx=>?_;simp only[List.mem_cons,List.not_mem_nil,or_false]at hx;rcases hx with rfl|rfl|rfl|rfl|rfl|rfl
 .exact K1.1 _
 .exact K1.1 _
 .exact K1.1 _
 .exact K1.2 _
 .exact K1.2 _
 .exact K1.2 _
def N5{T:List Tp}{n:Bool}:jq n (.l (T.map tP)) (.l (T.map tP))=.ok (.b (xor n true)):=by unfold jq;rw[show EU 8 (.l (T.map tP)) (.l (T.map tP))=some true from VE (f:=dy 7) λx hx=>by obtain⟨t,_,rfl⟩:=a0s.mp hx;exact EE]
def N6{N:Ob}{n:Bool}:jq n (.l (N.map .s)) (.l (N.map .s))=.ok (.b (xor n true)):=by unfold jq;rw[show EU 8 (.l (N.map .s)) (.l (N.map .s))=some true from VE (f:=dy 7) λx hx=>by obtain⟨t,_,rfl⟩:=a0s.mp hx;exact K1.1 _]
def AY:(oJ T).Perm T:=by have h:=(Xk (T.map Cm)).1.map λi=>T.getD i ("","","",0,0,0);refine h.trans (.of_eq ?_);rw[u8];refine List.ext_getElem (by rw[u8,a0b]) λi h1 h2=>?_;rw[a0z,a1z];simp[h2]
def VF(h:m ρ G=.ok x G1)(h2:ms ρ G1=.ok xs G2):jJ m ms ρ G=.ok (x::xs) G2:=by unfold jJ;rw[h];show(ms ρ G1).bind _=_;rw[h2];rfl
def Io(h:ms ρ G=.ok xs G1)(hg:g (.g G1.length::xs) (G1++[.o c []])=.ok (.v .n) G2):EX c g ms ρ G=.ok (.g G1.length) G2:=by
 unfold EX;rw[h];show(match g (.g G1.length::xs) (G1++[.o c []])with
  |.ok (.v .n) G2=>HX.ok (HV.g G1.length) G2
  |.exc c fs G2=>.exc c fs G2
  |_=>.wall)=_
 rw[hg]
def IU(h0:Wj bs ρ=some r)(h2:m r=.ok x)(hc:sd x=some c):hF bs m ρ G=.ok (.g G.length) (G++[c]):=by unfold hF;rw[h0];dsimp only;rw[h2];dsimp only;rw[hc]
def mM(h:ms ρ G=.ok xs G1)(h2:f xs G1=.ok x G2):eR f ms ρ G=.ok x G2:=by unfold eR;rw[h];exact h2
def Cs(h1:m1 ρ G=.ok x G1)(h2:m2 ρ G1=.ok y G2)(ha:YD G2 8 x=some a)(hb:YD G2 8 y=some b)(h:p a b=.ok (.b c)):hOp p m1 m2 ρ G=.ok (.v (.b c)) G2:=by unfold hOp;rw[h1];show(m2 ρ G1).bind _=_;rw[h2];show G4 G2 x y p=_;unfold G4;rw[ha,hb];dsimp only;rw[h];rfl
def rok(hW:WS P W)(nd:P.Nodup)(hP:∀z∈P,Nm z)(h1:P.length<=5)(h2:W.length<=13):ROk P W:=by constructor<;>first|exact nd|exact hP|omega|exact hW.ok
abbrev tCl(T:List Tp):Cell:=.l ((T.map tP).map .v)
section
variable {ns:OB}{P Q:Ob}{W:List Wy}{F:Str->Ht}{L:Lst}{T U:List Tp}{G:AH}
abbrev lw(ns:OB)(P:Ob)(W:List Wy)(L:Lst)(Q:Ob)(T U:List Tp)(r:K4):K4:=[some (.v (.sc ns)),some (.v (.l (P.map .s))),some (.v (.l (W.map wP))),some (.v (.dt L)),some (.v (.l (Q.map .s))),some (.v (.l (T.map tP))),some (.v (.l (U.map tP)))]++r
def uj(h0:0<P.length)(hn:P.length<=12):∀{ks:Od}{U:List Tp}{o:Option HV}{b:Nat},(∀t∈U,t.1.length<=b)->b+13*ks.length<=500->U.length<=100->∃(U':List Tp)(o':Option HV),U'.length=U.length/\(∀t∈U',t.1.length<=500)/\nM JL Zy ((ks.map λk=>PV.i ((k:Nat):Int)).map .v) (lw ns P W L Q T U [o,none,none,none]) G=.nx (lw ns P W L Q T U' [o',none,none,none]) G
 |[],U,o,b,hb,hs,_=>⟨U,o,rfl,λt ht=>P7 (hb t ht) (by rw[a0X]at hs;omega),rfl⟩
 |k::ks,U,o,b,hb,hs,hl=>by
  rw[N9]at hs;obtain⟨U1,⟨l1,b1⟩,e1⟩:=ui (ns:=ns) (a:=49+3*(k:Int)) (N:=P) (L:=L) (by omega) h0 hn hb (by omega) hl;obtain⟨U',o',l2,b2,e2⟩:=uj h0 hn (ks:=ks) (U:=U1) (o:=some (.v (.i (k:Int)))) b1 (by omega) (by omega);refine⟨U',o',by omega,b2,?_⟩;show(match Zy (lw ns P W L Q T U [some (.v (.i (k:Int))),none,none,none]) G with
   |.nx ρ2 G2=>nM JL Zy ((ks.map λk=>PV.i ((k:Nat):Int)).map .v) ρ2 G2
   |.ct ρ2 G2=>nM JL Zy ((ks.map λk=>PV.i ((k:Nat):Int)).map .v) ρ2 G2
   |.bk ρ2 G2=>.nx ρ2 G2
   |.rt v G2=>.rt v G2
   |.exc c fs G2=>.exc c fs G2
   |.wall=>.wall)=_
  rw[show Zy (lw ns P W L Q T U [some (.v (.i (k:Int))),none,none,none]) G=.nx (lw ns P W L Q T U1 [some (.v (.i (k:Int))),none,none,none]) G from Zf (og rfl (zK (zS rfl (zS (zw rfl (zw rfl rfl (XM (by decide) (by decide))) rfl) (zS rfl (zS rfl (zS rfl rfl))))) e1))];exact e2
def AZ(A:AH):jc [.g A.length] (Xp A (roP P W F) T)=.ok (.g (A.length+3)) (Xp A (roP P W F) T++[.l ((uJ T).map .v)]):=by
 have g0:(Xp A (roP P W F) T)[A.length]?=some (.o 11 [("roads",.v (roP P W F)),("by_name",.g (A.length+1)),("order",.g (A.length+2))]):=by unfold Xp;simp
 have g1:(Xp A (roP P W F) T)[A.length+1]?=some (.d (vK (Wu T))):=by unfold Xp;simp
 have g2:(Xp A (roP P W F) T)[A.length+2]?=some (.l ((uJ T).map .v)):=by unfold Xp;simp
 have ef:ny [11] "order" (zc 0) [some (Ni (roP P W F) T)]=.ok (Ew T):=by show(if 11∈[11]then Yt (List.lookup ("order":Str) [("roads",roP P W F),("by_name",PV.d (Wu T)),("order",Ew T)])else .wall)=_;rw[if_pos O1,vZ (by decide +kernel),vZ (by decide +kernel),lD];rfl
 have e:=Nh (G:=Xp A (roP P W F) T) (bs:=[true]) (m:=zj jI (zb (ny [11] "order" (zc 0)) zm)) (ρ:=[some (.g A.length)]) (x:=Ew T) (c:=.l ((uJ T).map .v)) rfl (oI (Ex (n:=5) g0 g1 g2) EZ) (zK (zS ef rfl) rfl) (show GN (Ew T)=true from t_) rfl;have l:(Xp A (roP P W F) T).length=A.length+3:=by unfold Xp;rw[O9];rfl
 rw[l]at e;show(match kM [some (.g A.length)] (Xp A (roP P W F) T)with
  |.nx _ G'=>HX.ok (HV.v .n) G'
  |.rt x G'=>.ok x G'
  |.exc c fs G'=>.exc c fs G'
  |_=>.wall)=_
 rw[show kM [some (.g A.length)] (Xp A (roP P W F) T)=_ from c7 e]
end
def A4(h:m ρ G=.ok (.g k) G1)(hk:G1[k]?=some (.o c fs))(hl:fs.lookup mn=none)(hg:g [.g k] G1=.ok x G2):fe [(c,g)] mn m ρ G=.ok x G2:=by
 unfold fe;rw[h];show(match G1[k]? with
  |some (.o c' fs)=>(match[(c,g)].lookup c' with
   |some g=>if(fs.lookup mn).isSome=true then HX.wall else g [.g k] G1
   |none=>.wall)
  |_=>.wall)=_
 rw[hk];show(match[(c,g)].lookup c with
   |some g=>if(fs.lookup mn).isSome=true then HX.wall else g [.g k] G1
   |none=>.wall)=_
 rw[show[(c,g)].lookup c=some g by simp[List.lookup]];dsimp only;rw[hl];exact hg
def A5(h:ms ρ G=.ok [.g k] G1)(hk:G1[k]?=some (.l (ss.map λz=>.v (.s z))))(hl:ss.length<64):fc ms ρ G=.ok (.g G1.length) (G1++[Cell.l ((qS ss).map λz=>.v (.s z))]):=by
 unfold fc;rw[h];show(match G1[k]? with
  |some (Cell.l ys)=>(match BS ys with
   |some ss=>if ss.length<64 then HX.ok (HV.g G1.length) (G1++[Cell.l ((qS ss).map λz=>.v (.s z))])else .wall
   |none=>.wall)
  |_=>.wall)=_
 rw[hk];show(match BS (ss.map λz=>HV.v (.s z))with
   |some ss=>if ss.length<64 then HX.ok (HV.g G1.length) (G1++[Cell.l ((qS ss).map λz=>.v (.s z))])else .wall
   |none=>.wall)=_
 rw[lX];exact if_pos hl
def A6(ns:OB)(_:ns.length<=k):∃G,Cf [.v (.sc ns)] []=.ok (.v (.b true)) G:=by
 obtain⟨m1,p1,e1⟩:=vx (ns:=ns) (k:=2) (p:=65449) (by decide) (by decide);obtain⟨m2,p2,e2⟩:=vx (ns:=ns) (k:=58) (p:=65521) (by decide) (by decide);obtain⟨m3,p3,e3⟩:=vx (ns:=ns) (k:=59) (p:=65537) (by decide) (by decide);obtain⟨m4,p4,e4⟩:=vx (ns:=ns) (k:=60) (p:=65519) (by decide) (by decide);obtain⟨P,lP,ndP,nmP,eP⟩:=fO (ns:=ns) (a:=0) (n:=(2+m1 % 4).toNat) (by decide) (by omega);rw[a1t (by omega)]at eP;obtain⟨W,lW,wsW,eW⟩:=AQ (ns:=ns) (a:=3) (N:=P) (by decide) (by omega) (by omega);have R:=rok wsW ndP nmP (by omega) (by omega);obtain⟨F,kF⟩:=iB R;have gF:=λz=>(kF z).1;obtain⟨L,hL,eL⟩:=iE wsW (by omega) (by omega) gF;obtain⟨Q,lQ,ndQ,hQ,eQ⟩:=fO (ns:=ns) (a:=11) (n:=(m2 % 13).toNat) (by decide) (by omega);rw[a1t (by omega)]at eQ;have far:∀o∈P,∀z y,yq (F o) (sk z)=some y->0<=y/\y<=800000000:=λo ho z y e=>by have:=oq wsW (gF o) ho e;omega
 obtain⟨T,nT,hT,eT⟩:=AS (ns:=ns) (a:=13) (Q:=Q) (P:=P) (by decide) (by omega) (by omega) hL far (λo _=>(gF o).1.own);have lT:T.length<=12:=by
  have:T.length=Q.length:=by rw[<- nT,u8]
  omega
 have ndT:(T.map (·.1)).Nodup:=by rw[nT];exact ndQ
 have hTT:∀t∈T,TOk P F t/\Nm t.1:=λt ht=>⟨hT t ht,hQ _ (by rw[<- nT];exact a1u ht)⟩;have bT:∀t∈T,t.1.length<=12:=λt ht=>(hTT t ht).2.1.2;have vT:vdT P F T=none:=Il hTT ndT (by omega);have i1:=Ek R (λz=>(kF z).2);obtain⟨U1,o1,l1,b1,s7⟩:=uj (ns:=ns) (P:=P) (Q:=Q) (W:=W) (L:=L) (T:=T) (G:=[]) (by omega) (by omega) (ks:=List.range (m3 % 4).toNat) (U:=T) (o:=none) bT (by rw[a0b];omega) (by omega);rw[<- Xf]at s7;have q7:Ab [true] (YI (zb (mOp zX (zj zJ (zb (zc 0) (zb (mC (.i 59)) (zb (mC (.i 65537)) zm)))) (mC (.i 4))) zm)) JL Zy (lw ns P W L Q T T [none,none,none,none]) []=.nx (lw ns P W L Q T U1 [o1,none,none,none]) []:=by
  have er:YI (zb (mOp zX (zj zJ (zb (zc 0) (zb (mC (.i 59)) (zb (mC (.i 65537)) zm)))) (mC (.i 4))) zm) [some (.sc ns),none,none,none,none,none,none,none,none,none,none]=.ok (nC 0 (m3 % 4).toNat):=hU (zS (kW (zK (xs:=[.sc ns,.i 59,.i 65537]) rfl e3) (by decide)) rfl) (by omega) (by omega);show(match YI (zb (mOp zX (zj zJ (zb (zc 0) (zb (mC (.i 59)) (zb (mC (.i 65537)) zm)))) (mC (.i 4))) zm) [some (.sc ns),none,none,none,none,none,none,none,none,none,none]with
   |.ok xs=>nM JL Zy (xs.map .v) (lw ns P W L Q T T [none,none,none,none]) []
   |_=>.wall)=_
  rw[er];exact s7
 obtain⟨U,bU,q8⟩:∃U:List Tp,(∀t∈U,t.1.length<=500)/\hIf (hPT [true,false,false,false,false,false,true] (eh (yi (mOp (jq false) (mOp zX (zj zJ (zb (zc 0) (zb (mC (.i 60)) (zb (mC (.i 65519)) zm)))) (mC (.i 7))) (mC (.i 1)))) (yi (mOp (jq true) (zc 6) (QM zm))))) (eS 6 (hP [false,false,false,false,false,false,true] (mSl pSl (mOp Ys (zc 6) (mC (.i 41))) aX (Zj (mC (.i 41)))))) nK (lw ns P W L Q T U1 [o1,none,none,none]) []=.nx (lw ns P W L Q T U [o1,none,none,none]) []:=by
  have t1:∃d,yi (mOp (jq true) (zc 6) (QM zm)) [some (.sc ns),none,none,none,none,none,some (.l (U1.map tP)),none,none,none,none]=.ok d:=by
   cases U1 with
   |nil=>exact⟨_,rfl⟩
   |cons u R=>exact⟨_,rfl⟩
  obtain⟨d,t1⟩:=t1;have t2:=HP (G:=[]) (bs:=[true,false,false,false,false,false,true]) (ρ:=lw ns P W L Q T U1 [o1,none,none,none]) rfl (J8 (bx (a:=mOp zX (zj zJ (zb (zc 0) (zb (mC (.i 60)) (zb (mC (.i 65519)) zm)))) (mC (.i 7))) (n:=1) (kW (zK (xs:=[.sc ns,.i 60,.i 65519]) rfl e4) (by decide))) t1);generalize(decide (m4 % 7=1)&&d)=c at t2;cases c with
  |false=>exact⟨U1,b1,(Eb t2).trans rfl⟩
  |true=>
   refine⟨((List.replicate 41 U1).flatten).take 41,λt ht=>?_,(Mp t2).trans (Zf (og (x:=.l ((((List.replicate 41 U1).flatten).take 41).map tP)) rfl ?_))⟩
   .obtain⟨l,hl,hm⟩:=List.mem_flatten.mp (a03 ht);rw[a1C hl]at hm;exact b1 t hm
   .have em:Ys (.l (U1.map tP)) (.i 41)=.ok (.l ((List.replicate 41 U1).flatten.map tP)):=by
     refine(if_pos ⟨by decide,by decide,?_⟩).trans ?_
     .rw[List.map_flatten,List.map_replicate];rfl
     .rw[u8];show U1.length*41<=sizeLine;exact P7 (Nat.mul_le_mul_right 41 (show U1.length<=12 by omega)) (by decide)
    unfold mSl;rw[zw (x:=.l (U1.map tP)) (y:=.i 41) rfl rfl em];show Out.ok (PV.l (eC ((List.replicate 41 U1).flatten.map tP) none (some 41)))=_;rw[fL (by decide),a1s];rfl
 obtain⟨B1,a1⟩:=Cr (N:=P) (W:=W) (F:=F) (T:=U) (A:=[tCl U]) (j:=0) rfl λt ht=>P7 (bU t ht) (by decide);have du:=N4 (N:=P) (F:=F) (T:=U) hL λt ht=>P7 (bU t ht) (by decide);have ak:=AW (o:=vdT P F U) λx hx=>ue hx;have gj:∀{A:AH}{x:Cell},(A++[x])[A.length]?=some x:=λ{A x}=>by simp
 obtain⟨B2,a2⟩:=Cr (N:=P) (W:=W) (F:=F) (T:=T) (A:=([tCl U]++B1)++[tCl T]) (j:=([tCl U]++B1).length) gj λt ht=>P7 (bT t ht) (by decide);rw[vT]at a2;obtain⟨i3,_⟩:=Cq (N:=P) (W:=W) (F:=F) (T:=T) (A:=(([tCl U]++B1)++[tCl T]++B2)++[tCl T]) (j:=(([tCl U]++B1)++[tCl T]++B2).length) gj λt ht=>P7 (bT t ht) (by decide);have i3:=i3 vT;generalize hA:(([tCl U]++B1)++[tCl T]++B2)=A2 at i3 a2;have rw9:∀{B:AH},YD ([tCl U]++B) 8 (.g 0)=some (.l (U.map tP)):=UE (n:=6) rfl;have t12:hPT [false,true,false,true,false,false,true,false,false,true,true] (mOr (Br (yi (zj qT (zb (zc 10) (zb (zj Ze (zb (zc 6) (zb (zc 1) (zb (zc 3) zm)))) zm))))) (mOr (yi (mOp (jq true) (zc 9) (zc 6))) (yi (mOp (jq true) (mC (.i 40)) (mC (.i 40)))))) (lw ns P W L Q T U [o1,some (.v (roP P W F)),some (.g 0),some (.v (wV (vdT P F U)))]) ([tCl U]++B1)=.ok false ([tCl U]++B1):=
  Ec rfl (oh (oI rfl (oh (oI rfl (oh (oh (oI rfl (oh (oh (oI rw9 (oI rfl EZ))))))))))) (V9 (x:=false) (y:=false) (Cg (x:=true) (yP (zK (zS rfl (zS (zK rfl du) rfl)) ak))) (V9 (x:=false) (y:=false) (yP (zw rfl rfl (N5.trans rfl))) rfl))
 have gl:(Xp (A2++[tCl T]) (roP P W F) T++[Cell.l (((oJ T).map (·.1)).map λz=>HV.v (.s z))])[(A2++[tCl T]).length+3]?=some (.l (((oJ T).map (·.1)).map λz=>HV.v (.s z))):=by
  have l:(Xp (A2++[tCl T]) (roP P W F) T).length=(A2++[tCl T]).length+3:=by unfold Xp;rw[O9];rfl
  rw[<- l];exact gj
 have sl:((uJ T).map HV.v)=((oJ T).map (·.1)).map λz=>.v (.s z):=by unfold uJ;rw[a0y,a0y];rfl
 have g0:(Xp (A2++[tCl T]) (roP P W F) T)[(A2++[tCl T]).length]?=some (.o 11 [("roads",.v (roP P W F)),("by_name",.g ((A2++[tCl T]).length+1)),("order",.g ((A2++[tCl T]).length+2))]):=by generalize A2++[tCl T]=A3;unfold Xp;simp
 have pm:qS ((oJ T).map (·.1))=qS Q:=by rw[<- nT];exact sQ (AY.map _)
 obtain⟨G,tl⟩:∃G,K5 (hIf (DE (hOp (jq true) (eR jE (jJ (JC 8) (jJ (hF [false,false,false,false,false,true] (zj jI (zb (zc 5) zm))) gf))) (hP [] (YC (zb (mC (.s "taken")) zm))))) (oG (hP [] (mC (.b false)))) nK) (oG (hOp (jq false) (fc (jJ (fe [(11,jc)] "names" (EX 11 yK (jJ (JC 8) (jJ (hF [false,false,false,false,false,true] (zj jI (zb (zc 5) zm))) gf)))) gf)) (hF [false,false,false,false,true] (zj bp (zb (zc 4) zm))))) (lw ns P W L Q T U [o1,some (.v (roP P W F)),some (.g 0),some (.v (wV (vdT P F U)))]) ([tCl U]++B1)=.rt (.v (.b true)) G:=by
  have t13:DE (hOp (jq true) (eR jE (jJ (JC 8) (jJ (hF [false,false,false,false,false,true] (zj jI (zb (zc 5) zm))) gf))) (hP [] (YC (zb (mC (.s "taken")) zm)))) (lw ns P W L Q T U [o1,some (.v (roP P W F)),some (.g 0),some (.v (wV (vdT P F U)))]) ([tCl U]++B1)=.ok false A2:=by unfold DE;rw[Cs (mM (VF (x:=.v (roP P W F)) rfl (VF (IU (c:=tCl T) rfl rfl rfl) rfl)) a2) (og (x:=.t [.s "taken"]) rfl (Uz rfl (O7 rfl))) rfl rfl Ii];rfl
  have q1:=A5 (ρ:=lw ns P W L Q T U [o1,some (.v (roP P W F)),some (.g 0),some (.v (wV (vdT P F U)))]) (VF (A4 (Io (G:=A2) (G1:=A2++[tCl T]) (ms:=jJ (JC 8) (jJ (hF [false,false,false,false,false,true] (zj jI (zb (zc 5) zm))) gf)) (VF (x:=.v (roP P W F)) rfl (VF (x:=.g A2.length) (IU rfl rfl rfl) rfl)) i3) g0 (mn:="names") (by rw[Xo (by decide +kernel),Xo (by decide +kernel),Xo (by decide +kernel)];rfl) (AZ _)) (ms:=gf) rfl) (ss:=(oJ T).map (·.1)) (by rw[sl];exact gl) (by rw[u8,ub];omega);rw[pm]at q1;have q2:bp [.l (Q.map .s)]=.ok (.l ((qS Q).map .s)):=by
   show(match nO (Q.map .s)with
    |some ss=>if ss.length<64 then Out.ok (PV.l ((qS ss).map .s))else .wall
    |none=>.wall)=_
   rw[cF];exact if_pos (by omega)
  have cm:((qS Q).map λz=>HV.v (.s z))=((qS Q).map PV.s).map .v:=by rw[a0y];rfl
  refine⟨_,qD ((Eb t13).trans rfl) (c7 (Cs q1 (IU (x:=.l ((qS Q).map .s)) (c:=.l (((qS Q).map .s).map .v)) rfl (zK (xs:=[.l (Q.map .s)]) rfl q2) rfl) (UE (n:=6) (xs:=(qS Q).map .s) (gA (gj.trans (by rw[cm])))) (UE (n:=6) (xs:=(qS Q).map .s) gj) (N6.trans rfl)))⟩
 have fin:l4 ([some (.v (.sc ns))]++List.replicate 10 none) []=.rt (.v (.b true)) G:=
  qD (Zf (og rfl (zK (zS rfl (zS rfl (zS (zw rfl (kW (zK (xs:=[.sc ns,.i 2,.i 65449]) rfl e1) (by decide)) rfl) rfl))) eP))) (qD (Zf (og rfl (zK (zS rfl (zS rfl (zS rfl rfl))) eW))) (qD (Zf (og rfl (zK (zS rfl (zS rfl rfl)) eL))) (qD (Zf (og rfl (zK (zS rfl (zS rfl (zS (kW (zK (xs:=[.sc ns,.i 58,.i 65521]) rfl e2) (by decide)) rfl))) eQ))) (qD (Zf (og rfl (zK (zS rfl (zS rfl (zS rfl (zS rfl (zS rfl rfl))))) eT))) (qD (Zf (og rfl rfl)) (qD q7 (qD q8 (qD (Zf (og rfl (zK rfl i1))) (qD (Zf (IU rfl rfl rfl)) (qD (Zf (mM (xs:=[.v (roP P W F),.g 0]) rfl a1)) (qD ((Eb t12).trans rfl) tl)))))))))))
 refine⟨G,?_⟩;show(match l4 ([some (.v (.sc ns))]++List.replicate 10 none) []with
  |.nx _ G'=>HX.ok (HV.v .n) G'
  |.rt x G'=>.ok x G'
  |.exc c fs G'=>.exc c fs G'
  |_=>.wall)=_
 rw[fin]
end NCS
def uk(K:OD):Sp:=λvs H Q _=>∃(a:Addr)(ns:OB),vs=[.ref a]/\SqL K H a (ns.map V.int)/\ns.length<=63/\∀H',Q (.bl true) H'
def all_mk{l:W.OpenLaw}{w:Ox}{K:OD}{h:Heap}{mg:N_}{fa yw zA zl ql zB zV zz zP qK zu zC jf je Jq US VT WJ Js WG VM vC Kt vD QC Yp vH Qr vA Jv j7 ZG Kv Qu kQ jo kG Yq vB Kk ZI kR WI VL QD UQ Kp VS j6 WL Qs UU iI:Addr}{Jr UW VQ WA Jp WM VR Qz Kg QA Qq Kw vG QB Qy Jt ZH ZF Ku Qt Kj Qx YB Kh Qn Kl ZJ Ki WD VN Qv UT Kf VP Jw WC Qo UX iL:OC}{f7 Kn Qw Km mN bI mO f6 bH gd Jx VO:Tok}(X:K.In h)(G:h.Ns mainGlobals mg)(hfa:mg "law"=some (.ref fa))
  (ij:W.nsIn K mainGlobals "LIMIT"=some (some (.int 1000000000 f7)))
  (Q6:W.nsIn K mainGlobals "NAME_SIGNS"=some (some (.str "abcdefghijklmnopqrstuvwxyz0123456789" Kn)))
  (Z3:W.nsIn K mainGlobals "LONGEST_NAME"=some (some (.int 12 Qw)))
  (Zp:W.nsIn K mainGlobals "MOST_TRIPS"=some (some (.int 40 Km)))
  (Wl:W.nsIn K mainGlobals "NAME"=some (some (.int 0 mN)))
  (Xl:W.nsIn K mainGlobals "ORIGIN"=some (some (.int 1 bI)))
  (l0:W.nsIn K mainGlobals "GOAL"=some (some (.int 2 mO)))
  (V8:W.nsIn K mainGlobals "START"=some (some (.int 3 f6)))
  (JF:W.nsIn K mainGlobals "FINISH"=some (some (.int 4 bH)))
  (ik:W.nsIn K mainGlobals "SEATS"=some (some (.int 5 gd)))
  (YQ:W.nsIn K mainGlobals "MOST_PLACES"=some (some (.int 12 Jx)))
  (KW:W.nsIn K mainGlobals "MOST_WAYS"=some (some (.int 60 VO)))
  (Q7:NsR K "FleetError" yw)
  (Q8:NsR K "BadName" zA)
  (YR:NsR K "BadNumber" zl)
  (Ub:NsR K "BadTime" ql)
  (Vm:NsR K "TooMany" zB)
  (cP:NsR K "Twice" zV)
  (Vn:NsR K "NoPlace" zz)
  (cQ:NsR K "NoWay" zP)
  (cR:NsR K "NoTrip" qK)
  (JG:NsR K "Backward" zu)
  (Vo:NsR K "TooFast" zC)
  (cS:NsR K "Table" jf)
  (il:NsR K "Roads" je)
  (Q9:NsN K "ValueError")
  (D4:NsN K "all")
  (sY:NsN K "bool")
  (sZ:NsN K "dict")
  (z9:NsN K "isinstance")
  (Yy:NsN K "len")
  (Qf:NsN K "list")
  (D5:NsN K "max")
  (s_:NsN K "min")
  (YS:NsN K "range")
  (Vp:NsN K "sorted")
  (nU:NsN K "str")
  (D6:NsN K "zip")
  (yH:DfN K "_law_cell_at" YK Jq Jr)
  (y2:DfN K "_law_mix" X3 US UW)
  (qz:DfN K "_law_names" KP VT VQ)
  (vQ:DfN K "_law_ways" V1 WJ WA)
  (qW:DfN K "_law_lengths" YL Js Jp)
  (JH:DfN K "_law_trip" V2 WG WM)
  (ki:DfN K "_law_trips" KQ VM VR)
  (oy:XMk K zB vC)
  (Kr:Fun K "__init__" "TooMany.__init__" ZT vC Qz)
  (jx:DfN K "check_most" QU Kt Kg)
  (oA:XMk K zA vD)
  (Ks:Fun K "__init__" "BadName.__init__" ZU vD QA)
  (kJ:DfN K "checked_name" ZV QC Qq)
  (Ba:XMk K zV Yp)
  (WH:Fun K "__init__" "Twice.__init__" QV Yp Kw)
  (qb:DfN K "checked_new_name" jK vH vG)
  (kK:DfN K "check_places" ZW Qr QB)
  (oB:XMk K zz vA)
  (Ko:Fun K "__init__" "NoPlace.__init__" ZX vA Qy)
  (qA:DfN K "check_place" YM Jv Jt)
  (fZ:XMk K zl j7)
  (Qp:Fun K "__init__" "BadNumber.__init__" k8 j7 ZH)
  (yT:DfN K "checked_number" k9 ZG ZF)
  (Zq:DfN K "check_ways" QW Kv Ku)
  (qI:DfN K "heights_from" ZY Qu Qt)
  (gc:W.findIn K (.ref je) "__init__"=some (some (.ref kQ)))
  (WE:Fun K "__init__" "Roads.__init__" QX kQ Kj)
  (aH:W.findIn K (.ref je) "length"=some (some (.ref jo)))
  (Yo:Fun K "length" "Roads.length" ZZ jo Qx)
  (iP:XMk K zu kG)
  (Ju:Fun K "__init__" "Backward.__init__" v5 kG YB)
  (A_:XMk K zP Yq)
  (WK:Fun K "__init__" "NoWay.__init__" QY Yq Kh)
  (oz:XMk K zC vB)
  (Kq:Fun K "__init__" "TooFast.__init__" Z0 vB Qn)
  (Zr:DfN K "check_trip" QZ Kk Kl)
  (qG:DfN K "place_in_order" k_ ZI ZJ)
  (fY:W.findIn K (.ref jf) "__init__"=some (some (.ref kR)))
  (WB:Fun K "__init__" "Table.__init__" Q1 kR Ki)
  (vR:DfN K "_law_told" V3 WI WD)
  (qB:DfN K "_law_asked" KR VL VN)
  (jb:DfN K "_law_stranger" Z1 QD Qv)
  (Yz:DfN K "_law_out" X4 UQ UT)
  (Zs:DfN K "_law_spoilt" Q2 Kp Kf)
  (YT:DfN K "_law_alike" KS VS VP)
  (dk:W.findIn K (.ref jf) "names"=some (some (.ref j6)))
  (Qe:Fun K "names" "Table.names" YN j6 Jw)
  (JI:DfN K "_law_good" V4 WL WC)
  (kL:DfN K "_law_trip_due" Z2 Qs Qo)
  (Vq:DfN K "_law_due" X5 UU UX)
  (tf:DfN K "law" D3 iI iL)
  (iG:JN K zA)
  (iM:XIs K zA)
  (iH:Catch K zA yw true)
  (W6:W.takerIn K zA "name"=some none)
  (W7:W.findIn K (.ref zA) "name"=some none)
  (dq:JN K zl)
  (dj:XIs K zl)
  (dm:Catch K zl yw true)
  (K3:W.takerIn K zl "value"=some none)
  (K2:W.findIn K (.ref zl) "value"=some none)
  (iN:JN K zB)
  (iJ:XIs K zB)
  (iR:Catch K zB yw true)
  (W0:W.takerIn K zB "most"=some none)
  (W8:W.findIn K (.ref zB) "most"=some none)
  (uy:JN K zV)
  (uq:XIs K zV)
  (uo:Catch K zV yw true)
  (aF:W.takerIn K zV "name"=some none)
  (aL:W.findIn K (.ref zV) "name"=some none)
  (iO:JN K zz)
  (iU:XIs K zz)
  (iT:Catch K zz yw true)
  (W5:W.takerIn K zz "name"=some none)
  (Xa:W.findIn K (.ref zz) "name"=some none)
  (uB:JN K zP)
  (um:XIs K zP)
  (uu:Catch K zP yw true)
  (W2:W.takerIn K zP "origin"=some none)
  (W4:W.findIn K (.ref zP) "origin"=some none)
  (aN:W.takerIn K zP "goal"=some none)
  (aI:W.findIn K (.ref zP) "goal"=some none)
  (f_:JN K zu)
  (fX:XIs K zu)
  (f9:Catch K zu yw true)
  (Wc:W.takerIn K zu "name"=some none)
  (Wb:W.findIn K (.ref zu) "name"=some none)
  (iS:JN K zC)
  (iK:XIs K zC)
  (iQ:Catch K zC yw true)
  (W9:W.takerIn K zC "name"=some none)
  (W3:W.findIn K (.ref zC) "name"=some none)
  (uz:Cls K jf)
  (uw:W.makesIn K jf=true)
  (uv:W.keepIn K (.ref jf)=true)
  (Wd:W.findIn K (.ref jf) "by_name"=some none)
  (UP:W.findIn K (.ref jf) "order"=some none)
  (UR:W.findIn K (.ref jf) "roads"=some none)
  (UY:W.isFn K (.ref j6)=true)
  (aM:W.isFn K (.ref kR)=true)
  (uA:Cls K je)
  (ux:W.makesIn K je=true)
  (ur:W.keepIn K (.ref je)=true)
  (Wa:W.findIn K (.ref je) "lengths"=some none)
  (WZ:W.findIn K (.ref je) "places"=some none)
  (aJ:W.findIn K (.ref je) "ways"=some none)
  (W_:W.isFn K (.ref jo)=true)
  (aG:W.isFn K (.ref kQ)=true)
  (v_:gi K zA zA)
  (wa:yd K zl zA)
  (wb:yd K zB zA)
  (wc:yd K zV zA)
  (wd:yd K zz zA)
  (we:yd K zP zA)
  (wg:yd K zu zA)
  (ve:yd K zC zA)
  (kj:yd K zA zl)
  (kl:gi K zl zl)
  (km:yd K zB zl)
  (kn:yd K zV zl)
  (ko:yd K zz zl)
  (kr:yd K zP zl)
  (ky:yd K zu zl)
  (jO:yd K zC zl)
  (wj:yd K zA zB)
  (wm:yd K zl zB)
  (wo:gi K zB zB)
  (wq:yd K zV zB)
  (wt:yd K zz zB)
  (wu:yd K zP zB)
  (wx:yd K zu zB)
  (vf:yd K zC zB)
  (YW:yd K zA zV)
  (YX:yd K zl zV)
  (YY:yd K zB zV)
  (YZ:gi K zV zV)
  (Y0:yd K zz zV)
  (Y1:yd K zP zV)
  (Y2:yd K zu zV)
  (Z4:yd K zC zV)
  (wy:yd K zA zz)
  (wz:yd K zl zz)
  (wA:yd K zB zz)
  (wB:yd K zV zz)
  (wC:gi K zz zz)
  (wD:yd K zP zz)
  (wF:yd K zu zz)
  (vg:yd K zC zz)
  (Y3:yd K zA zP)
  (Y4:yd K zl zP)
  (Y5:yd K zB zP)
  (Y6:yd K zV zP)
  (Y7:yd K zz zP)
  (Y8:gi K zP zP)
  (Y9:yd K zu zP)
  (Z5:yd K zC zP)
  (vh:yd K zA zu)
  (vi:yd K zl zu)
  (vj:yd K zB zu)
  (vk:yd K zV zu)
  (vm:yd K zz zu)
  (vn:yd K zP zu)
  (vo:gi K zu zu)
  (kA:yd K zC zu)
  (wG:yd K zA zC)
  (wH:yd K zl zC)
  (wI:yd K zB zC)
  (wJ:yd K zV zC)
  (wK:yd K zz zC)
  (wL:yd K zP zC)
  (wM:yd K zu zC)
  (vp:gi K zC zC)
  (Z6:yd K zA qK)
  (Z7:yd K zl qK)
  (Z8:yd K zB qK)
  (Z9:yd K zV qK)
  (Z_:yd K zz qK)
  (Ya:yd K zP qK)
  (Yb:yd K zu qK)
  (wN:yd K zC qK)
  (wO:yd K zA ql)
  (wQ:yd K zl ql)
  (wR:yd K zB ql)
  (wU:yd K zV ql)
  (wW:yd K zz ql)
  (wX:yd K zP ql)
  (wY:yd K zu ql)
  (vq:yd K zC ql)
  (jP:W.kitOne K (.ref zA) (.type "ValueError")=some true)
  (jQ:W.kitOne K (.ref zl) (.type "ValueError")=some true)
  (jR:W.kitOne K (.ref zB) (.type "ValueError")=some true)
  (jS:W.kitOne K (.ref zV) (.type "ValueError")=some true)
  (jT:W.kitOne K (.ref zz) (.type "ValueError")=some true)
  (jU:W.kitOne K (.ref zP) (.type "ValueError")=some true)
  (jV:W.kitOne K (.ref zu) (.type "ValueError")=some true)
  (jt:W.kitOne K (.ref zC) (.type "ValueError")=some true)
  (JJ:W.kitOne K (.type "int") (.type "str")=some false)
  (JK:W.kitOne K (.type "str") (.type "str")=some true)
  (KY:W.kitOne K (.type "int") (.type "bool")=some false)
  (KZ:W.kitOne K (.type "str") (.type "bool")=some false)
  : ∃fd:FuncData,(∀(s:Oe)(v:Value),BindsTo s fd ⟨[v],[]⟩ [("_law_script",v)])/\∀base:Heap,K.In base->base.Ns mainGlobals mg->qO l.prog w K mg base (CXe l.prog w) 9 fa fd ["_law_script"] (uk K):=by
 have e:iI=fa:=by have e:=hfa.symm.trans (a0k X G tf.1);injection e with e;injection e with e;exact e.symm
 subst e;have T:Txt K mg ⟨yw,zA,zl,ql,zB,zV,zz,zP,qK,zu,zC,jf,je,Jq,US,VT,WJ,Js,WG,VM,vC,Kt,vD,QC,Yp,vH,Qr,vA,Jv,j7,ZG,Kv,Qu,kQ,jo,kG,Yq,vB,Kk,ZI,kR,WI,VL,QD,UQ,Kp,VS,j6,WL,Qs,UU,iI,Jr,UW,VQ,WA,Jp,WM,VR,Qz,Kg,QA,Qq,Kw,vG,QB,Qy,Jt,ZH,ZF,Ku,Qt,Kj,Qx,YB,Kh,Qn,Kl,ZJ,Ki,WD,VN,Qv,UT,Kf,VP,Jw,WC,Qo,UX,iL,f7,Kn,Qw,Km,mN,bI,mO,f6,bH,gd,Jx,VO⟩:=⟨⟨a0k X G ij,a0k X G Q6,a0k X G Z3,a0k X G Zp,a0k X G Wl,a0k X G Xl,a0k X G l0,a0k X G V8⟩,⟨a0k X G JF,a0k X G ik,a0k X G YQ,a0k X G KW,a0k X G Q7,a0k X G Q8,a0k X G YR,a0k X G Ub⟩,⟨a0k X G Vm,a0k X G cP,a0k X G Vn,a0k X G cQ,a0k X G cR,a0k X G JG,a0k X G Vo,a0k X G cS⟩,⟨a0k X G il,a0u X G Q9,a0u X G D4,a0u X G sY,a0u X G sZ,a0u X G z9,a0u X G Yy,a0u X G Qf⟩,⟨a0u X G D5,a0u X G s_,a0u X G YS,a0u X G Vp,a0u X G nU,a0u X G D6,qr X G yH bn2,qr X G y2 bn3⟩,⟨qr X G qz bn3,qr X G vQ bn3,qr X G qW bn2,qr X G JH bn6,qr X G ki bn5,Kr,Kr.binds bn2,qr X G jx bn2⟩,⟨Ks,Ks.binds bn2,qr X G kJ bn1,WH,WH.binds bn2,qr X G qb bn2,qr X G kK bn1,Ko⟩,⟨Ko.binds bn2,qr X G qA bn2,Qp,Qp.binds bn2,qr X G yT bn2,qr X G Zq bn2,qr X G qI bn2,WE⟩,⟨WE.binds bn3,Yo,Yo.binds bn3,Ju,Ju.binds bn2,WK,WK.binds bn3,Kq⟩,⟨Kq.binds bn2,qr X G Zr bn3,qr X G qG bn1,WB,WB.binds bn3,qr X G vR bn1,qr X G qB bn2,qr X G jb bn2⟩,⟨qr X G Yz bn1,qr X G Zs bn5,qr X G YT bn2,Qe,Qe.binds bn1,qr X G JI bn1,qr X G kL bn4,qr X G Vq bn3⟩,⟨qr X G tf bn1,iG,iM,oA,iH,W6,W7,dq⟩,⟨dj,fZ,dm,K3,K2,iN,iJ,oy⟩,⟨iR,W0,W8,uy,uq,Ba,uo,aF⟩,⟨aL,iO,iU,oB,iT,W5,Xa,uB⟩,⟨um,A_,uu,W2,W4,aN,aI,f_⟩,⟨fX,iP,f9,Wc,Wb,iS,iK,oz⟩,⟨iQ,W9,W3,uz,Wd,UP,UR,⟨dk,UY,Qe.kp⟩⟩,⟨⟨uw,fY,aM,uv⟩,uA,Wa,WZ,aJ,⟨aH,W_,Yo.kp⟩,⟨ux,gc,aG,ur⟩,v_⟩,⟨wa,wb,wc,wd,we,wg,ve,kj⟩,⟨kl,km,kn,ko,kr,ky,jO,wj⟩,⟨wm,wo,wq,wt,wu,wx,vf,YW⟩,⟨YX,YY,YZ,Y0,Y1,Y2,Z4,wy⟩,⟨wz,wA,wB,wC,wD,wF,vg,Y3⟩,⟨Y4,Y5,Y6,Y7,Y8,Y9,Z5,vh⟩,⟨vi,vj,vk,vm,vn,vo,kA,wG⟩,⟨wH,wI,wJ,wK,wL,wM,vp,Z6⟩,⟨Z7,Z8,Z9,Z_,Ya,Yb,wN,wO⟩,⟨wQ,wR,wU,wW,wX,wY,vq,jP⟩,⟨jQ,jR,jS,jT,jU,jV,jt,JJ⟩,⟨JK,KY,KZ⟩⟩;have eb:∀(s:Oe)(v:Value),BindsTo s iL ⟨[v],[]⟩ [("_law_script",v)]:=by obtain⟨_,_,_,_,_,_,_,_,_,rfl,_,_⟩:=tf.2.ex;exact λs v=>.of_eq rfl
 refine⟨_,eb,λbase _ _=>(HN T).imp λvs H Q E ⟨p,ns,e,hS,hl,k⟩=>?_⟩;subst e;exact DI hS (A6 ns hl) k
def walk{l:W.OpenLaw}{q:Ot}{loose:Ob}{XP:(Str->Option Value)->Heap->Prop}{YP:World->Heap->Prop}{d:DefRec}{K:Params->W.Frag}(hn:l.most=some 63)(hdf:d.params.defaults=[])
  (hY:∀(w:Ox)(h:Heap),YP w h->(K w.params).In h)
  (F:∀(w:Ox)(mg:N_)(fa:Addr)(h:Heap),(K w.params).In h->h.Ns mainGlobals mg->mg d.name=some (.ref fa)->
   ∃fd:FuncData,(∀(s:Oe)(u:Value),BindsTo s fd ⟨[u],[]⟩ [("_law_script",u)])/\∀base:Heap,(K w.params).In base->base.Ns mainGlobals mg->qO l.prog w (K w.params) mg base (CXe l.prog w) 9 fa fd ["_law_script"] (uk (K w.params))):
  W.WalkO q loose XP YP l.row.toRowW d [] (λf vs=>PySem.call f vs):=
 L2.CO (n:=63) (k:=9) (x:="_law_script") (CX:=λw=>CXe l.prog w) (sp:=λw=>uk (K w.params)) hn (by decide) hdf ⟨rfl,by decide,by decide⟩ hY F (λ_ H a ns hl hO hS=>⟨a,ns,rfl,hS,hl,λ_=>rfl⟩) λ_ _ _ _ _ z=>eJ z
end K21
open PySem PySem.W PyProof.Rows
namespace PySem.W.Fast
def tw849721207341566161:=()
def tw8540332858251927285:=()
def tw12554720869139741207:=()
def tw7340099933668119859:=()
def tw15373887062217766752:=()
def tw15676766595318704400:=()
def tw5225122628054038281:=()
def tw9825429703365216185:=()
def tw4632924330727226209:=()
def tw15125143950026009770:=()
def tw15829704434823720149:=()
def tw3256642352253088470:=()
def tw1468711734777552150:=()
def tw16125693293737212875:=()
def tw3005064710572207265:=()
def tw2730954364649941211:=()
def tw1389958631151763789:=()
def tw1192149757127909907:=()
def tw4372491518969879569:=()
def tw2603164617247733993:=()
def tw8177007189032512300:=()
def tw11136386258773229916:=()
def tw8030757230585813894:=()
def tw6958743332008316:=()
def tw14740580839039826927:=()
def tw15671834797850729366:=()
def tw3907336624466759657:=()
def tw7943279915490244038:=()
def tw14687974959012027494:=()
def tw6330373466998547582:=()
def tw14495011083647974957:=()
def tw6589799226614976874:=()
def tw2262806681171825591:=()
def tw10971918354289311105:=()
def tw15425552684696149287:=()
def tw18342508297790008102:=()
def tw4497243478623865809:=()
def tw15228235613646160943:=()
def tw4220907645845765620:=()
def tw2282102363114210184:=()
def tw6422505857401658486:=()
def tw16068813047390512887:=()
def tw13261505324128929296:=()
def tw15283863743649190701:=()
def tw2250425889768570986:=()
def tw2719588886446999807:=()
def tw13087852134304356710:=()
def tw16207903322716000633:=()
def tw15988196765616290723:=()
def tw17199423030154533623:=()
def tw12563642783909872115:=()
def tw15952620613859863897:=()
def tw2391430591672356000:=()
def tw14593228623124154645:=()
def tw7117778567976573742:=()
def tw12788400537080343540:=()
def tw12130801714860011495:=()
def tw13503841472397215016:=()
def tw1561692952471928746:=()
def tw14493839378362766591:=()
def tw5156264733441910574:=()
def tw4219242146738283227:=()
def tw17838319450018289244:=()
def tw4432094643790211064:=()
def tw13298750795308395764:=()
def tw7090989198614525747:=()
def tw8067345558785490677:=()
def tw10194826975690917669:=()
end PySem.W.Fast
set_option maxRecDepth 100000 in
set_option maxHeartbeats 0 in
theorem PySem.Challenge.cw_fleetpath_k21_trips_refused_holds : PySem.Challenge.rw_fleetpath_k21_trips_refused.Holds := by
 w_on;o_law;k_head;(case hw=>w_witness2)
 k_fill
 refine K21.walk (l:=PySem.Challenge.rw_fleetpath_k21_trips_refused) rfl rfl (λw h Y=>PySem.W.kIn_of Y) ?F
 case F=>
  intro w mg fa h KX G hmg;refine' K21.all_mk KX G hmg ?_ ?_ ?_ ?_ ?_ ?_ ?_ ?_ ?_ ?_ ?_ ?_ ?_ ?_ ?_ ?_ ?_ ?_ ?_ ?_ ?_ ?_ ?_ ?_ ?_ ?_ ?_ ?_ ?_ ?_ ?_ ?_ ?_ ?_ ?_ ?_ ?_ ?_ ?_ ?_ ?_ ?_ ?_ ?_ ?_ ?_ ?_ ?_ ?_ ?_ ?_ ?_ ?_ ?_ ?_ ?_ ?_ ?_ ?_ ?_ ?_ ?_ ?_ ?_ ?_ ?_ ?_ ?_ ?_ ?_ ?_ ?_ ?_ ?_ ?_ ?_ ?_ ?_ ?_ ?_ ?_ ?_ ?_ ?_ ?_ ?_ ?_ ?_ ?_ ?_ ?_ ?_ ?_ ?_ ?_ ?_ ?_ ?_ ?_ ?_ ?_ ?_ ?_ ?_ ?_ ?_ ?_ ?_ ?_ ?_ ?_ ?_ ?_ ?_ ?_ ?_ ?_ ?_ ?_ ?_ ?_ ?_ ?_ ?_ ?_ ?_ ?_ ?_ ?_ ?_ ?_ ?_ ?_ ?_ ?_ ?_ ?_ ?_ ?_ ?_ ?_ ?_ ?_ ?_ ?_ ?_ ?_ ?_ ?_ ?_ ?_ ?_ ?_ ?_ ?_ ?_ ?_ ?_ ?_ ?_ ?_ ?_ ?_ ?_ ?_ ?_ ?_ ?_ ?_ ?_ ?_ ?_ ?_ ?_ ?_ ?_ ?_ ?_ ?_ ?_ ?_ ?_ ?_ ?_ ?_ ?_ ?_ ?_ ?_ ?_ ?_ ?_ ?_ ?_ ?_ ?_ ?_ ?_ ?_ ?_ ?_ ?_ ?_ ?_ ?_ ?_ ?_ ?_ ?_ ?_ ?_ ?_ ?_ ?_ ?_ ?_ ?_ ?_ ?_ ?_ ?_ ?_ ?_ ?_ ?_ ?_ ?_ ?_ ?_ ?_ ?_ ?_ ?_ ?_ ?_ ?_ ?_ ?_ ?_
  all_goals try(first|((first|refine'⟨?_,L2.Bn ?_ ?_ ?_⟩|refine' L2.Bn ?_ ?_ ?_|refine' K21.Hj ?_ ?_ ?_ ?_ ?_)<;>try first|k_is|kernel_rfl)|(show _=_;first|k_is|kernel_rfl)|(first|refine⟨?_,?_,?_,?_,?_⟩|refine⟨?_,?_,?_,?_⟩|refine⟨?_,?_,?_⟩)<;>first|k_is|kernel_rfl)
#print axioms PySem.Challenge.cw_fleetpath_k21_trips_refused_holds

