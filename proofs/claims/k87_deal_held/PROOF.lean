import PyProof.Rows.All
import Wide.All
import OpenK.AllK
import Wide.FinOn
import Lean
import PyProof.EqAt
import PyProof.EqKinds
import PyProof.TupleCall
import PyProof.NeKinds
import PyProof.Rows.CountFlat
import PyProof.Rows.SumAny
import PyProof.Rows.Range3
import KE.KEqDict
import KE.KRevIter
import PyProof.DictIter
import PyProof.DictWalks
import PyProof.IsiH_list
import KE.KDictOf
import PyProof.Rows.SetFrom
import PyProof.Conv_int_bool
import PyProof.Rows.StrNews
import PyProof.CallStr
import PyProof.Rows.StrMeet
import PyProof.FitsReplace
import PyProof.MeetsStr3
import PyProof.Rows.StrSplitAre
import PyProof.StrLawsIn
import PyProof.ReprLen
import PyProof.StrLawsChain
import KE.IntTextLaws
import PyProof.Rows.StrClose5
import KE.KSortTup
import PyProof.Rows.SortKey
import KE.KLam
import PyProof.DictUpdate
import KE.KDictSum
import PyProof.WalksEnum
import PyProof.EnumMake
import PyProof.ZipIter
import PyProof.Rows.EnumRows
import PyProof.Rows.ZipForRows
import PyProof.Rows.FactsT2
import PyProof.Rows.SortStr
import PyProof.TupleIter
import PyProof.ToksMono
import PyProof.SetRoads
import PyProof.StrReplace2
import PySem.Challenge.RW_fleetpath_k87_deal_held
set_option hygiene false in
local macro_rules | `(tactic| ac_rfl)=>`(tactic| first|assumption|exact Inv.tk (by assumption)|exact Nat.le_trans (Inv.tk (by assumption)) (Nat.le_add_right _ _)|exact Nat.le_succ_of_le (Nat.le_trans (Inv.tk (by assumption)) (Nat.le_add_right _ _)))
set_option compiler.extract_closed false
set_option bootstrap.genMatcherCode false
set_option genInjectivity false
set_option genSizeOf false
set_option genSizeOfSpec false
set_option Elab.async false
set_option linter.all false
set_option maxRecDepth 100000
noncomputable section
def f8:=@PySem.wpAny_bind
def u8:=@List.length_map
def v2:=@Option.map_eq_some_iff
def v4:=@PySem.Heap.get?_push_of_some
def E1:=@List.getElem?_eq_getElem
def E2:=@PySem.wpAny_pure
def E3:=@List.mem_cons_of_mem
def E4:=@List.length_cons
def E5:=@Nat.le_refl
def E6:=@PySem.Heap.lt_size
def E7:=@List.getElem?_eq_some_iff
def E8:=@List.mem_singleton
def E9:=@List.mem_cons_self
def F0:=@List.mem_cons
def F1:=@Nat.ne_of_lt
def F2:=@PySem.AutoSeq1.wpAny_loadPart'
def F3:=@List.map_cons
def F4:=@List.map_map
def F5:=@Nat.lt_of_lt_of_le
def F6:=@Bool.false_ne_true
def F7:=@List.length_append
def F8:=@List.map_append
def F9:=@Nat.le_trans
def G4:=@Nat.le_succ
def G5:=@PySem.Heap.get?_push_size
def G6:=@decide_eq_false
def G7:=@Nat.le_of_ble_eq_true
def G8:=@congrArg
def G9:=@List.getElem?_map
def I0:=@List.nodup_cons
def L4:=@Option.isSome_iff_exists
def L5:=@Option.some.inj
def L6:=@Option.bind_eq_some_iff
def L7:=@List.getElem?_cons_succ
def L8:=@Nat.lt_of_le_of_lt
def L9:=@decide_eq_true
def M3:=@List.getElem?_set_ne
def M4:=@List.mem_append_right
def M5:=@List.length_set
def M6:=@List.mem_map
def M7:=@List.getElem?_set_self
def M8:=@List.getElem?_append_left
def M9:=@List.nodup_nil
def N3:=@List.mem_append
def N4:=@List.mem_map_of_mem
def N5:=@List.size_toArray
def N6:=@beq_iff_eq
def N7:=@List.getElem?_append_right
def N8:=@PySem.wpAny_holding
def N9:=@Nat.lt_succ_self
def O0:=@List.length_range
def O1:=@PySem.wpAny_with_toks
def O2:=@List.mem_of_getElem?
def O3:=@List.lookup_cons
def O4:=@List.getElem_mem
def O5:=@List.all_eq_true
def O6:=@List.take_of_length_le
def O7:=@List.append_nil
def O8:=@Bool.and_eq_true
def O9:=@List.mem_iff_getElem
def P0:=@PySem.Heap.get?_update_other
def P1:=@Bool.false_xor
def P2:=@PySem.wpAny_richCompare_same_room
def P4:=@Nat.zero_le
def P5:=@PySem.MeetsSeq3.plain_eq_loop
def P6:=@PySem.Calls.spliced_cons
def P8:=@List.filterMap_cons
def P9:=@PySem.Paired.length
def R4:=@List.any_cons
def R7:=@List.foldl_cons
def R8:=@Int.eq_ofNat_of_zero_le
def R9:=@PySem.Around.under_plainId
def S0:=@Nat.lt_irrefl
def S4:=@List.map_congr_left
def S5:=@PySem.codeAny_builtin
def S6:=@Classical.choose_spec
def S7:=@List.mem_filterMap
def S8:=@List.not_mem_nil
def S9:=@PySem.wpAny_mono
def T0:=@PySem.Heap.size_push
def T3:=@List.append_assoc
def T4:=@Nat.not_lt_zero
def T5:=@beq_eq_false_iff_ne
def T6:=@List.replicate_succ
def T7:=@PySem.Calls.callWith_builtin
def T8:=@PySem.wpAny_isInstance
def T9:=@PySem.Heap.get?_update_self
def W1:=@List.drop_eq_getElem_cons
def a0a:=@List.mem_append_left
def a0b:=@PySem.codeAny_mono
def a0c:=@PySem.call_meetsIn
def a0d:=@Nat.sub_self
def a0e:=@PySem.W.mg_none_of
def a0f:=@PySem.Calls.spliced_nil
def a0g:=@Nat.lt_succ_of_lt
def a0h:=@List.nodup_append
def a0i:=@PySem.F.plainAttrs_dict
def a0j:=@PySem.wpAny_setEntries_of
def a0k:=@List.mem_range
def a0l:=@List.length_take
def a0m:=@List.getElem_map
def a0n:=@PySem.wpAny_Call_Name_kw
def a0o:=@PyProof.Rows.F.plain_set_update_loop
def a0p:=@PySem.wpAny_passesOwn
def a0q:=@List.length_replicate
def a0r:=@List.all_cons
def a0s:=@Bool.true_and
def a0t:=@PySem.plainId_quiet
def a0u:=@PySem.wpAny_truthy_bool
def a0v:=@List.flatten_cons
def a0w:=@PySem.wpAny_pyIter_list
def a0x:=@List.take_add_one
def a0y:=@PySem.wpAny_dictEntries
def a0z:=@Bool.not_eq_true'
def a0A:=@PySem.codeAny_call_builtin
def a0B:=@Array.getElem?_eq_getElem
def a0C:=@Nat.ne_of_gt
def a0D:=@PySem.F.slot_dict_values
def a0E:=@PySem.wpAny_forIn_list
def a0F:=@decide_eq_decide
def a0G:=@PySem.mem_of_lookup
def a0H:=@List.getElem?_replicate
def a0I:=@PySem.MeetsSeq3.entry_eq_loop
def a0J:=@List.sum_cons
def a0K:=@PySem.Calls.Constant_str
def a0L:=@PySem.wpAny_call
def a0M:=@PySem.tupleKind_room_in1
def a0N:=@PySem.sizeLine_eq
def a0O:=@Option.isSome_map
def a0P:=@decide_eq_true_eq
def a0Q:=@List.map_nil
def a0R:=@Nat.zero_add
def a0S:=@PyProof.Rows.callWith_type1
def a0T:=@List.getElem_inj
def a0U:=@PySem.Calls.evalArgs_plain
def a0V:=@Option.bind_some
def a0W:=@List.getD_eq_getElem?_getD
def a0X:=@Std.Legacy.Range.forIn_eq_forIn_range'
def a0Y:=@PySem.wpAny_execs_nil
def a0Z:=@List.nil_append
def a00:=@List.getElem?_eq_none_iff
def a01:=@Bool.eq_iff_iff
def a02:=@List.sum_append
def a03:=@PySem.Code.quiet_builtin
def a04:=@List.getElem_range
def a05:=@PySem.wpAny_typeOf
def a06:=@PyProof.Rows.F.entry_set_update_loop
def a07:=@Int.emod_lt_of_pos
def a08:=@PySem.wpAny_loadPart
def a09:=@List.getElem?_cons_zero
def a1a:=@PySem.wpAny_newObj_type
def a1b:=@List.getElem_take
def a1c:=@PySem.wpAny_standAt
def a1d:=@Bool.true_xor
def a1e:=@Nat.le_add_right
def a1f:=@List.filter_cons
def a1g:=@Nat.succ_lt_succ
def a1h:=@List.length_filter_le
def a1i:=@PySem.F.slot_dict_get
def a1j:=@PySem.builtinLookup_eq_fast
def a1k:=@PySem.wpAny_notOrdered_dict
def a1l:=@List.set_append_right
def a1m:=@PySem.plainObj_wpAny_Assign_Attribute
def a1n:=@PyProof.Rows.callWith_builtin1
def a1o:=@Nat.lt_trans
def a1p:=@List.find?_cons
def a1q:=@List.getElem?_append
def a1r:=@Int.emod_nonneg
def a1s:=@Array.length_toList
def a1t:=@Iff.rfl
def a1u:=@PySem.W.mg_of
def a1v:=@PySem.wpAny_field
def a1w:=@Int.le_refl
def a1x:=@PySem.W.callWith_K
def a1y:=@decide_eq_true_iff
def a1z:=@PySem.Calls.Name_function_global
def a1A:=@Array.getElem?_eq_some_iff
def a1B:=@PySem.wpAny_attempt
def a1C:=@PySem.F.args_dict_values_1
def a1D:=@List.nodup_iff_pairwise_ne
def a1E:=@Nat.le_succ_of_le
def a1F:=@PySem.Within.cons
def a1G:=@Bool.eq_false_iff
def a1H:=@Nat.le_of_succ_le
def a1I:=@PySem.Heap.SameBut.refl
def a1J:=@List.getElem?_nil
def a1K:=@PySem.F.entry_dict_values
def a1L:=@Nat.le_of_lt
def a1M:=@PySem.wpAny_execs_cons
def a1N:=@PySem.wpAny_lookBehind
def a1O:=@PySem.pastItsLine_dict
def a1P:=@Nat.le_of_eq
def a1Q:=@Nat.add_comm
def a1R:=@PySem.W.looks_findIn
def a1S:=@PySem.wpAny_comprehension_free
def a1T:=@beq_self_eq_true
def a1U:=@PySem.F.slot_list_append
def a1V:=@PySem.F.type_list_append
def a1W:=@List.drop_length
def a1X:=@Nat.zero_lt_succ
def a1Y:=@PySem.F.slot_dict_update
def a1Z:=@PySem.F.type_dict_values
def a10:=@List.range'_succ
def a11:=@PySem.wpAny_call_entry
def a12:=@PySem.AutoSeq1.sub_tuple_tuple
def a13:=@List.eq_of_mem_replicate
def a14:=@List.length_filterMap_le
def a15:=@PySem.F.args_dict_get_2
def a16:=@PySem.F.plainAttrs_list
def a17:=@PySem.wpAny_Call_method0_late
def a18:=@PySem.F.entry_type_call
def a19:=@Nat.add_sub_cancel_left
def a2a:=@decide_eq_false_iff_not
def a2b:=@List.mem_filter
def a2c:=@List.of_mem_zip
def a2d:=@PySem.SeqAt.EqAt.same
def a2e:=@List.length_nil
def a2f:=@PySem.codeAny_of_tree
def a2g:=@PySem.pushCells_keeps
def a2h:=@PySem.wpAny_specialOf
def a2i:=@Option.map_some
def a2j:=@PySem.typeLookup_type
def a2k:=@PySem.wpAny_updateSeq
def a2l:=@PySem.wpAny_dictEpoch
def a2m:=@List.range_succ
def a2n:=@PySem.wpAny_pyNext_list_item
def a2o:=@PySem.W.cellsFrom_some
def a2p:=@PyProof.Rows.subscriptTail_builtinR
def a2q:=@PySem.wpAny_Call_method_late
def a2r:=@PySem.F.entry_dict_get
def a2s:=@PySem.W.looks_mroIn
def a2t:=@List.range_succ_eq_map
def a2u:=@PySem.AutoSeq1.sub_list_list
def a2v:=@PySem.wpAny_of_eq
def a2w:=@PyProof.Rows.boot_dict
def a2x:=@PyProof.Rows.boot_list
def a2y:=@List.drop_of_length_le
def a2z:=@PyProof.Rows.SetOf_congr
def a2A:=@PySem.F.typeCall_set_1
def a2B:=@PySem.F.entry_set_init
def a2C:=@Bool.false_and
def a2D:=@PySem.wpAny_pyNext_list_end
def a2E:=@PySem.wpAny_isTrue_Compare1
def a2F:=@PySem.F.slot_dict_pop
def a2G:=@PySem.wpAny_setField
def a2H:=@Bool.and_false
def a2I:=@PyProof.Rows.boot_sum
def a2J:=@PySem.F.sub_dict_dict
def a2K:=@PySem.F.slot_tuple_eq
def a2L:=@PySem.F.slot_tuple_ne
def a2M:=@PySem.wpAny_setAddHashed_of
def a2N:=@PySem.weight_type_call_type
def a2O:=@Bool.and_eq_false_iff
def a2P:=@PySem.wpAny_load
def a2Q:=@Array.mem_toList_iff
def a2R:=@PyProof.Rows.item_listR
def a2S:=@Bool.and_eq_true_iff
def a2T:=@PySem.Walks.list
def a2U:=@PySem.F.slot_list_eq
def a2V:=@PySem.F.slot_list_ne
def a2W:=@PySem.F.slot_dict_eq
def a2X:=@PySem.F.slot_dict_ne
def a2Y:=@PySem.Moved.eq_with
def a2Z:=@List.cons.inj
def a20:=@PySem.Heap.get?_update_ne
def a21:=@PySem.evalArgs_none
def a22:=@PySem.SeqAt.EqAt.int_str
def a23:=@PySem.SeqAt.EqAt.str_int
def a24:=@PySem.wpAny_Constant_int
def a25:=@Array.find?_toList
def a26:=@PySem.wpAny_nsSet1
def a27:=@PySem.wpAny_List_spliced
def a28:=@List.find?_eq_none
def a29:=@PySem.wpAny_mkText
def a3a:=@List.any_map
def a3b:=@PySem.Around.under_plain
def a3c:=@Nat.lt_or_ge
def a3d:=@List.set_cons_succ
def a3e:=@Sum.inl.inj
def a3f:=@Sum.inr.inj
def a3g:=@PySem.W.looks_clsIn
def a3h:=@PySem.wpAny_throw
section
open PySem PySem.Spec PyProof.Rows PySem.W
abbrev En:=(Value->Shared->Prop)
abbrev Eo:=List Nat
abbrev Ep:=(List (Addr×Obj))
abbrev Er:=(Str->Option Value)
abbrev Es:=(Addr->Prop)
abbrev Eu:=Shared
abbrev Ew:=List Bool
abbrev Ex:=List Expr
abbrev Ey:=Expr
abbrev Ez:=Program
abbrev EB:=List Str
abbrev EC:=PySem.W.Frag
abbrev ED:=(Nat->Addr)
abbrev EE:=List Value
abbrev EF:=World
abbrev EI:=List (Option Nat)
abbrev EK:=Around
abbrev EL:=FuncData
abbrev ER:=Array (Option Value)
abbrev ET:=Array Value
abbrev EW:=List Int
abbrev EX:=(List (Str×Addr))
abbrev EY:=Option Addr
abbrev Fb:=(List (Str×NameKind))
abbrev Fc:=Frag
abbrev Fd:=List Stmt
abbrev Ff:=List Addr
abbrev Fh:=Stmt
abbrev Fj:=(List (Str×Value))
abbrev Fm:=W.Frag
abbrev Fo:=(Str->Option NameKind)
abbrev Ft:=(Nat->Shared->Prop)
abbrev Fu:=(Nat->Value->Prop)
abbrev Fy:=Option Expr
abbrev Fz:=(Value->Option Bool)
abbrev FA:=(Bool->Shared->Prop)
abbrev FC:=(Int->Int->Int)
abbrev FD:=(Nat->Value)
abbrev FE:=(Nat->Bool)
end
abbrev FJ:List Nat:=[0,0,0,0,0,0,0,0,0,0]
namespace L2
open PySem PySem.Spec PyProof.Rows
abbrev Key:=Sum Int Str
abbrev EG:=List Key
abbrev ES:=(List (Key×Option Key))
abbrev EU:=(List (Key×Key))
abbrev EZ:=(List (Key×Value))
abbrev Fg:=Key
abbrev Fi:=(Key->Int)
abbrev Fq:=(Nat->Key)
abbrev Fs:=Option Key
def Wz:Key->Value->Bool
 |.inl k,v=>Value.isInt k v
 |.inr x,v=>Value.isStrOf x v
def DK(w:EF):Key->Int
 |.inl k=>hashInt k
 |.inr x=>hashStr w x
def yo:∀{k:Fg}{v:Value},Wz k v=true->(∃i t,k=Sum.inl i/\v=Value.int i t)\/(∃x t,k=Sum.inr x/\v=Value.str x t)
 |.inl i,v,h=>by obtain⟨t,e⟩:=Value.isInt_shape (k:=i) (v:=v) h;exact .inl ⟨i,t,rfl,e⟩
 |.inr x,v,h=>by obtain⟨t,e⟩:=Value.isStrOf_shape (x:=x) (v:=v) h;exact .inr ⟨x,t,rfl,e⟩
def XR(i:Int)(t:Tok):Wz (.inl i) (.int i t)=true:=by simp[Wz,Value.isInt]
def XS(x:Str)(t:Tok):Wz (.inr x) (.str x t)=true:=by simp[Wz,Value.isStrOf]
def uL(a b:Int):decide ((Sum.inl a:Key)=Sum.inl b)=(a==b):=by
 by_cases e:a=b
 .subst e;simp
 .have h:¬(Sum.inl a:Key)=Sum.inl b:=λq=>e (a3e q);rw[G6 h];exact(T5.mpr e).symm
def uM(a b:Str):decide ((Sum.inr a:Key)=Sum.inr b)=decide (a=b):=by
 by_cases e:a=b
 .subst e;simp
 .have h:¬(Sum.inr a:Key)=Sum.inr b:=λq=>e (a3f q);rw[G6 h,G6 e]
def uN(a:Int)(b:Str):decide ((Sum.inl a:Key)=Sum.inr b)=false:=G6 (λq=>nomatch q)
def uO(a:Str)(b:Int):decide ((Sum.inr a:Key)=Sum.inl b)=false:=G6 (λq=>nomatch q)
def zV(prog:Ez)(w:EF):PySem.KeyKind prog w Key where
 is:=Wz
 hash:=DK w
 inj:=λv a b ha hb=>by
  rcases yo ha with⟨i,t,rfl,rfl⟩|⟨x,t,rfl,rfl⟩
  .rcases yo hb with⟨j,u,rfl,e⟩|⟨y,u,rfl,e⟩
   .injection e with e1 _;rw[e1]
   .exact nomatch e
  .rcases yo hb with⟨j,u,rfl,e⟩|⟨y,u,rfl,e⟩
   .exact nomatch e
   .injection e with e1 _;rw[e1]
 byValue:=λk v h=>by rcases yo h with⟨i,t,rfl,rfl⟩|⟨x,t,rfl,rfl⟩<;>rfl
 pyHash:=λhv h=>by
  rcases yo hv with⟨i,t,rfl,rfl⟩|⟨x,t,rfl,rfl⟩
  .exact wpAny_pyHash_int h
  .exact wpAny_pyHash_str h
 eqBool:=λhu hv h=>by
  rcases yo hu with⟨i,t,rfl,rfl⟩|⟨x,t,rfl,rfl⟩
  .rcases yo hv with⟨j,u,rfl,rfl⟩|⟨y,u,rfl,rfl⟩
   .rw[uL]at h;exact wpAny_eqBool_int h
   .rw[uN]at h;exact a22 i t y u _ _ _ _ h
  .rcases yo hv with⟨j,u,rfl,rfl⟩|⟨y,u,rfl,rfl⟩
   .rw[uO]at h;exact a23 x t j u _ _ _ _ h
   .rw[uM]at h;exact wpAny_eqBool_str h
 «strs»:=λk x t v h=>by
  rcases yo h with⟨i,u,rfl,e⟩|⟨y,u,rfl,e⟩
  .exact nomatch e
  .injection e with e1 _
   subst e1;cases v<;>rfl
def dD(prog:Ez)(w:EF)(k:Fg)(v:Value):(zV prog w).is k v=Wz k v:=rfl
def U9(prog:Ez)(w:EF)(i:Int)(t:Tok):(zV prog w).is (.inl i) (.int i t)=true:=XR i t
def U_(prog:Ez)(w:EF)(x:Str)(t:Tok):(zV prog w).is (.inr x) (.str x t)=true:=XS x t
inductive V where
 |non|bl (b:Bool)|int (i:Int)|str (x:Str)|byt (b:Array UInt8)|flt (b:UInt64)|ref (a:Addr)|ty (n:String)
 deriving DecidableEq
abbrev Et:=(List (Key×V))
abbrev EH:=List V
abbrev E_:=(List (Str×V))
abbrev Fx:=(List (List Key×V))
def RelV:V->Value->Prop
 |.non,u=>u=Value.none
 |.bl b,u=>u=Value.bool b
 |.int i,u=>∃t,u=Value.int i t
 |.str x,u=>∃t,u=Value.str x t
 |.byt b,u=>∃t,u=Value.bytes b t
 |.flt b,u=>∃t,u=Value.float b t
 |.ref a,u=>u=Value.ref a
 |.ty n,u=>u=Value.type n
abbrev Vals:List V->List Value->Prop:=Paired RelV
def Vals.length(r:Vals xs us):xs.length=us.length:=P9 r
def Vals.get:∀{a:EH}{b:EE}{i:Nat}{x:V},Vals a b->a[i]?=some x->∃u,b[i]?=some u/\RelV x u
 |_,_,_,_,.nil,e=>by simp at e
 |_,_,0,_,.cons r _,e=>by simp at e;subst e;exact⟨_,rfl,r⟩
 |_,_,i+1,x,.cons _ t,e=>by obtain⟨u,d,c⟩:=Vals.get (i:=i) (x:=x) t (by simpa using e);exact⟨u,by simpa using d,c⟩
def Vals.append:∀{b a:EH}{c ws:EE},Vals b c->Vals a ws->Vals (b++a) (c++ws)
 |_,_,_,_,.nil,s=>s
 |_,_,_,_,.cons r t,s=>.cons r (Vals.append t s)
def VL:Option V->Option Value->Prop
 |some v,some u=>RelV v u
 |none,none=>True
 |_,_=>False
def KV{κ:Type}:List (κ×V)->List (κ×Value)->Prop:=Paired λ(p:κ×V) (q:κ×Value)=>p.1=q.1/\RelV p.2 q.2
def kV:Key->V
 |.inl i=>.int i
 |.inr x=>.str x
inductive HO where
 |lst (xs:EH)
 |tup (xs:EH)
 |dK (kvs:Et)|dT (kvs:Fx)
 |set (S:Int->Bool) (n:Nat)
 |ins (C dx:Addr) (fs:E_)
 |own (x:Addr)
 |xd (fs:E_)
 |met (f x:Addr)
 |rng (lo hi:Int)
 |frz (o:Obj) (u:HO)
 |tbl (ps:ET)
 |ext (φ:Heap->Prop)
abbrev Hp:=Addr->Option HO
def upd(H:Hp)(a:Addr)(o:HO):Hp:=λb=>if b=a then some o else H b
def zd:upd H a o a=some o:=by unfold upd;rw[if_pos rfl]
def zh(h:b≠a):upd H a o b=H b:=by unfold upd;rw[if_neg h]
def QU:upd (upd H a o) a u=upd H a u:=by
 funext b;unfold upd;split<;>rfl
def BH{H:Hp}{a b:Addr}{o u:HO}(h:H a=some o)(h':H b=some u)(d:o≠u):a≠b:=by intro e;subst e;rw[h]at h';exact d (L5 h')
def yx{H:Hp}{a b:Addr}{o:HO}(h:H a=some o)(h':H b=none):a≠b:=by intro e;subst e;rw[h]at h';cases h'
section
variable (P:Ez) (w:EF)
def y8(H:Hp)(h:Heap)(a:Addr):HO->Prop
 |.lst d=>d.length<=sizeLine/\∃(b:EE)(n:Nat),Vals d b/\h.get? a=some { cls:=.type "list",data:=.seq b.toArray n }
 |.tup d=>d.length<=sizeLine/\∃b:List Value,Vals d b/\IsTup h a b.toArray
 |.dK c=>c.length<=sizeLine/\(a==sysModules)=false/\∃r,KV c r/\h.DictOf (zV P w) a r
 |.dT c=>c.length<=sizeLine/\(a==sysModules)=false/\∃d:List (List Key×Addr×Value),
   Paired (λ(p:List Key×V) (q:List Key×Addr×Value)=>p.1=q.1/\H q.2.1=some (.tup (p.1.map kV))/\RelV p.2 q.2.2) c d/\
   ∃o j y,h.get? a=some o/\o.ExactDict/\o.data=.dict j y/\j.toList=d.map (entryOfKey (tupleKind (zV P w)))/\(d.map (·.1)).Nodup
 |.set S n=>h.SetOf (intKind P w) a S n
 |.ins C g fs=>H g=some (.own a)/\fs.length<=1000/\g≠a/\h.get? a=some (PySem.W.instObj C g)/\
   ∃e,h.Ns1 g e/\(∀f,VL (fs.lookup f) (e f))/\PySem.Within e (fs.map (·.1))
 |.own _=>∃o,h.get? a=some o
 |.xd fs=>∃e,h.Ns1 a e/\∀f,VL (fs.lookup f) (e f)
 |.rng s A=>∃t u v,h.get? a=some { cls:=.type "range",data:=.fields #[.int s t,.int A u,.int 1 v] }
 |.frz o u=>h.get? a=some o/\y8 H h a u
 |.tbl z=>h.get? a=some { cls:=.none,data:=.fields z }
 |.met f x=>h.get? a=some (PySem.W.methodObj (.ref f) (.ref x))
 |.ext i=>i h/\(∃o,h.get? a=some o)/\∀l m:Heap,i l->(∀o,l.get? a=some o->m.get? a=some o)->i m
def HOk(H:Hp)(h:Heap):Prop:=∀a o,H a=some o->y8 P w H h a o
end
section
variable {P:Ez}{w:EF}{H H':Hp}{h h':Heap}{a:Addr}{o:HO}
def y8.lt(x:y8 P w H h a o):a<h.objs.size:=by
 cases o with
 |lst c=>obtain⟨_,_,_,_,e⟩:=x;exact E6 e
 |tup c=>obtain⟨_,_,_,p⟩:=x;exact p.lt
 |dK b=>obtain⟨_,_,_,_,o,_,_,e,_⟩:=x;exact E6 e
 |dT b=>obtain⟨_,_,_,_,o,_,_,e,_⟩:=x;exact E6 e
 |set S n=>obtain⟨o,_,_,_,e,_⟩:=x;exact E6 e
 |ins C i fs=>obtain⟨_,_,_,e,_⟩:=x;exact E6 e
 |own y=>obtain⟨_,e⟩:=x;exact E6 e
 |xd fs=>obtain⟨_,⟨_,_,_,e,_⟩,_⟩:=x;exact E6 e
 |rng l j=>obtain⟨_,_,_,e⟩:=x;exact E6 e
 |frz ob u=>obtain⟨e,_⟩:=x;exact E6 e
 |tbl g=>exact E6 (show h.get? a=some _ from x)
 |met f y=>exact E6 (show h.get? a=some _ from x)
 |ext d=>obtain⟨_,⟨_,e⟩,_⟩:=x;exact E6 e
def Paired.BI{g e:Type}{F G:g->e->Prop}:∀{c:List g}{d:List e},Paired F c d->(∀a b,F a b->G a b)->Paired G c d
 |_,_,.nil,_=>.nil
 |_,_,.cons r t,f=>.cons (f _ _ r) (Paired.BI t f)
def y8.oh(x:y8 P w H h a o)(k:∀b u,(b=a\/H b=some (.own a))->h.get? b=some u->h'.get? b=some u)
  (F:∀b,H b=some (.own a)->H' b=some (.own a)) (I:∀b l,H b=some (.tup l)->H' b=some (.tup l)):y8 P w H' h' a o:=by
 induction o with
 |lst l=>obtain⟨z,j,n,r,e⟩:=x;exact⟨z,j,n,r,k _ _ (.inl rfl) e⟩
 |tup l=>obtain⟨z,j,r,ob,e,c⟩:=x;exact⟨z,j,r,ob,k _ _ (.inl rfl) e,c⟩
 |dK s=>obtain⟨z,y,G,r,ob,g,i,e,c⟩:=x;exact⟨z,y,G,r,ob,g,i,k _ _ (.inl rfl) e,c⟩
 |dT s=>obtain⟨z,y,l,r,ob,g,i,e,c⟩:=x;exact⟨z,y,l,Paired.BI r λp q z=>⟨z.1,I _ _ z.2.1,z.2.2⟩,ob,g,i,k _ _ (.inl rfl) e,c⟩
 |set S n=>obtain⟨ob,g,i,t,e,c⟩:=x;exact⟨ob,g,i,t,k _ _ (.inl rfl) e,c⟩
 |ins C K fs=>obtain⟨d,z,J,e,A,⟨m,g,i,E,c⟩,r⟩:=x;exact⟨F _ d,z,J,k _ _ (.inl rfl) e,A,⟨m,g,i,k _ _ (.inr d) E,c⟩,r⟩
 |own y=>obtain⟨ob,e⟩:=x;exact⟨ob,k _ _ (.inl rfl) e⟩
 |xd fs=>obtain⟨A,⟨m,g,i,e,c⟩,r⟩:=x;exact⟨A,⟨m,g,i,k _ _ (.inl rfl) e,c⟩,r⟩
 |rng M N=>obtain⟨t,u,v,e⟩:=x;exact⟨t,u,v,k _ _ (.inl rfl) e⟩
 |frz ob u D=>obtain⟨e,q⟩:=x;exact⟨k _ _ (.inl rfl) e,D q⟩
 |tbl B=>have e:h.get? a=some { cls:=.none,data:=.fields B }:=x;show h'.get? a=some { cls:=.none,data:=.fields B };exact k a _ (.inl rfl) e
 |met f y=>have e:h.get? a=some (PySem.W.methodObj (.ref f) (.ref y)):=x;show h'.get? a=some (PySem.W.methodObj (.ref f) (.ref y));exact k a _ (.inl rfl) e
 |ext L=>obtain⟨p,⟨o,e⟩,st⟩:=x;exact⟨st _ _ p λo q=>k _ _ (.inl rfl) q,⟨o,k _ _ (.inl rfl) e⟩,st⟩
def HOk.lt(x:HOk P w H h)(e:H a=some o):a<h.objs.size:=(x a o e).lt
def HOk.fresh(x:HOk P w H h)(e:h.objs.size<=a):H a=none:=by
 cases q:H a with
 |none=>rfl
 |some u=>exact absurd (F5 (x.lt q) e) (S0 _)
def HOk.kept(x:HOk P w H h)(k:∀b u,h.get? b=some u->h'.get? b=some u):HOk P w H h':=λa o e=>
 (x a o e).oh (λb u _ q=>k b u q) (λ_ q=>q) λ_ _ q=>q
def HOk.laid(x:HOk P w H h)(k:∀b u,h.get? b=some u->h'.get? b=some u)(hp:h.objs.size<=a)(new:y8 P w (upd H a o) h' a o):HOk P w (upd H a o) h':=λb u e=>by
 have hn:=x.fresh hp;by_cases d:b=a
 .subst d;rw[zd]at e;cases e;exact new
 .rw[zh d]at e;exact(x b u e).oh (λc v _ q=>k c v q) (λc q=>by rw[zh (yx q hn)];exact q) λc f q=>by rw[zh (yx q hn)];exact q
end
def Rd(H:Hp)(a:Addr)(u:HO):Prop:=H a=some u\/∃o,H a=some (.frz o u)
def Rd.ok(r:Rd H a u)(x:HOk P w H h):y8 P w H h a u:=by
 rcases r with r|⟨o,r⟩
 .exact x a u r
 .obtain⟨_,q⟩:=x a _ r;exact q
def Mut:Option HO->Prop
 |some (.lst _)=>True
 |some (.dK _)=>True
 |some (.dT _)=>True
 |some (.set _ _)=>True
 |some (.ins _ _ _)=>True
 |some (.ext _)=>True
 |_=>False
def HOk.write(ok:HOk P w H h)(j:Mut (H x))(he:e=x\/H e=some (.own x))(k:∀b u,b≠e->h.get? b=some u->h'.get? b=some u)(m:∃u,h'.get? e=some u)
  (new:y8 P w (upd H x o') h' x o'):HOk P w (upd H x o') h':=λb u q=>by
 have d:∀c y,H c=some (.own y)->c≠x:=λc y r z=>by subst z;rw[r]at j;exact j
 have f:∀c l,H c=some (.tup l)->c≠x:=λc l r z=>by subst z;rw[r]at j;exact j
 by_cases g:b=x
 .subst g;rw[zd]at q;cases q;exact new
 .rw[zh g]at q;by_cases a:b=e
  .have n:H b=some (.own x):=by
    rcases he with z|z
    .exact absurd (a.trans z) g
    .rw[a];exact z
   rw[q]at n;cases n;obtain⟨v,o⟩:=m;exact⟨v,by rw[a];exact o⟩
  .refine(ok b u q).oh (λc v i r=>k c v ?_ r) (λc r=>by rw[zh (d c b r)];exact r) λc l r=>by rw[zh (f c l r)];exact r
   rcases i with rfl|i
   .exact a
   .rintro rfl
    rcases he with z|z
    .exact d c b i z
    .rw[i]at z;cases z;exact g rfl
structure Un(fs ex:Ff)(H H':Hp)(h h':Heap):Prop where
 keep:∀b o,h.get? b=some o->H b=none->b∉fs->b∉ex->h'.get? b=some o
 slot:∀b o,h.get? b=some o->H b=none->b∈fs->b∉ex->∃sl,h'.get? b=some { o with slots:=sl }
 free:∀b o,h.get? b=some o->H b=none->b∉ex->H' b=none
 there:∀b o,h.get? b=some o->b∉ex->∃o',h'.get? b=some o'
 oa:∀b xs,H b=some (.tup xs)->H' b=some (.tup xs)
 i6:∀b o u,H b=some (.frz o u)->H' b=some (.frz o u)
 og:∀b ps,H b=some (.tbl ps)->∃more,H' b=some (.tbl (ps++more))
section
variable {fs ex:Ff}{H H1:Hp}{h h1 h':Heap}{a x e:Addr}{o:HO}
def Un.any(u:Un fs ex H H1 h h1)(q:h.get? b=some ob)(n:H b=none)(d:b∉ex):∃f,h1.get? b=some { ob with slots:=f }:=by
 by_cases c:b∈fs
 .exact u.slot b ob q n c d
 .exact⟨ob.slots,u.keep b ob q n c d⟩
def Un.kept(k:∀b u,h.get? b=some u->h'.get? b=some u):Un fs ex H H h h':=
 ⟨λb ob q _ _ _=>k b ob q,λb ob q _ _ _=>⟨ob.slots,k b ob q⟩,λ_ _ _ n _=>n,λb ob q _=>⟨ob,k b ob q⟩,λ_ _ q=>q,λ_ _ _ q=>q,λ_ c q=>⟨#[],by rw[q];simp⟩⟩
def Un.refl:Un fs ex H H h h:=Un.kept λ_ _ q=>q
def Un.laid(k:∀b u,h.get? b=some u->h'.get? b=some u)(hp:h.objs.size<=a)(hn:H a=none):Un fs ex H (upd H a o) h h' where
 keep:=λb u q _ _ _=>k b u q
 slot:=λb u q _ _ _=>⟨u.slots,k b u q⟩
 free:=λb u q n _=>by rw[zh (F1 (F5 (E6 q) hp))];exact n
 there:=λb u q _=>⟨u,k b u q⟩
 oa:=λb c q=>by rw[zh (yx q hn)];exact q
 i6:=λb u c q=>by rw[zh (yx q hn)];exact q
 og:=λb d q=>⟨#[],by rw[zh (yx q hn),q];simp⟩
def Un.write(d:Mut (H x))(he:e=x\/H e=some (.own x))(k:∀b u,b≠e->h.get? b=some u->h'.get? b=some u)(f:∃u,h'.get? e=some u):Un fs ex H (upd H x o) h h':=by
 have j:∀b,H b=none->b≠x:=λb n z=>by subst z;rw[n]at d;exact d
 have i:∀b,H b=none->b≠e:=λb n z=>by
  subst z;rcases he with r|r
  .exact j b n r
  .rw[n]at r;cases r
 have g:∀b u,H b=some u->¬Mut (some u)->b≠x:=λb u q l z=>by subst z;rw[q]at d;exact l d
 refine⟨λb u q n _ _=>k b u (i b n) q,λb u q n _ _=>⟨u.slots,k b u (i b n) q⟩,λb u q n _=>by rw[zh (j b n)];exact n,λb u q _=>?_,
  λb m q=>by rw[zh (g b _ q λz=>z)];exact q,λb u m q=>by rw[zh (g b _ q λz=>z)];exact q,λb p q=>⟨#[],by rw[zh (g b _ q λz=>z),q];simp⟩⟩
 by_cases c:b=e
 .subst c;exact f
 .exact⟨u,k b u c q⟩
end
def trk(h:Heap)(H:Hp):List Addr:=(List.range h.objs.size).filter λa=>(H a).isSome
def lr(h:Heap)(H:Hp):Heap:=PySem.W.hideAll h (trk h H)
def eQ(h:Heap)(H:Hp):(lr h H).objs.size=h.objs.size:=PySem.W.hideAll_size _ _
def lu(e:h.get? b=some o)(n:H b=none):(lr h H).get? b=some o:=
 PySem.W.hideAll_get _ e λa=>by have q:(H b).isSome=true:=(a2b.mp a).2;rw[n]at q;simp at q
def rh(e:(lr h H).get? b=some o):h.get? b=some o/\H b=none:=by
 have a:h.get? b=some o:=PySem.W.of_hideAll (trk h H) e;refine⟨a,?_⟩;cases q:H b with
 |none=>rfl
 |some x=>have c:b∈trk h H:=a2b.mpr ⟨a0k.mpr (E6 a),by simp[q]⟩;have z:(lr h H).get? b=none:=PySem.W.hideAll_none (trk h H) c;rw[z]at e;cases e
structure Mod(K:EC)(mg:Er)(base:Heap):Prop where
 kin:K.In base
 glob:base.Ns mainGlobals mg
 blt:∃mb,base.Ns builtinsNs mb/\∀x:Str,x≠"__name__"->mb x=bootBuiltins x
 nolimit:base.NoLimit
structure Cx where
 prog:Program
 w:World
 K:PySem.W.Frag
 mg:Str->Option Value
 base:Heap
 A:Around
 N:List Str
 s₀:Shared
 H₀:Hp
 env:Env
 outer:List Env
 stack:List Env
 ex:List Addr
 fn:Str->Bool
 calm:Bool
 pn:List (Addr×Obj)
 xe:Value->Shared->Prop
 m:Nat:=0
abbrev FK(X:Cx):=model X.prog X.w
def frs(l:List Env):List Addr:=l.filterMap (·.frame)
abbrev Cx.fs(X:Cx):List Addr:=frs X.outer
def Vis(a:Scope)(x:Str):Prop:=a.names.lookup x=some .local\/a.names.lookup x=some .cell\/a.names.lookup x=some .free
def Loc(a:Scope)(x:Str):Prop:=a.names.lookup x=some .local\/a.names.lookup x=some .cell
def Look(env:Env)(h:Heap)(m:Er)(x:Str)(u:Value):Prop:=
 (env.kindOf x=some .local/\m x=some u)\/((env.kindOf x=some .cell\/env.kindOf x=some .free)/\∃c,env.cells.lookup x=some c/\h.IsCell c (some u))
structure Cx.Ok(X:Cx):Prop where
 mod:Mod X.K X.mg X.base
 kind:X.env.scope.kind=.function
 glob:X.env.globals=mainGlobals
 blt:X.env.builtins=builtinsNs
 above:X.s₀.heap.objs.size<=X.env.locals
 inj:∀x y c,X.env.cells.lookup x=some c->X.env.cells.lookup y=some c->x=y
 has:∀x,(X.env.kindOf x=some .cell\/X.env.kindOf x=some .free)->∃c,X.env.cells.lookup x=some c
 cab:∀x c,X.fn x=true->X.env.cells.lookup x=some c->X.s₀.heap.objs.size<=c
 hd:X.calm=true->X.A.handled=none
 frames:X.A.frames=some X.stack
 stk:X.stack=X.outer\/(X.stack=X.env::X.outer/\X.env.frame=some X.env.locals)
 exf:∀b∈X.ex,b≠X.env.locals/\∀x c,X.env.cells.lookup x=some c->c≠b
 bs:∀b o,X.base.get? b=some o->X.s₀.heap.get? b=some o/\X.H₀ b=none
 bsz:X.base.objs.size<=X.s₀.heap.objs.size
 Bj:∀b o,X.base.get? b=some o->b∉X.ex
 Bk:∀b∈X.ex,b∉X.fs
 dE:X.s₀.heap.FunFrames X.base X.outer
 frf:∀b∈X.fs,X.H₀ b=none
structure Inv(X:Cx)(pins:Ep)(σ:List (Option V))(H:Hp)(s:Eu):Prop where
 ok:X.Ok
 os:s.os=X.s₀.os
 bare:AllBare s.gens
 base:Un X.fs X.ex X.H₀ H X.s₀.heap s.heap
 loc:∃m,s.heap.Ns X.env.locals m/\∀(i:Nat)(x:Str)(v:V),X.N[i]?=some x->σ[i]?=some (some v)->Vis X.env.scope x->∃u,RelV v u/\Look X.env s.heap m x u
 cell:∀x c,X.env.cells.lookup x=some c->∃v,s.heap.IsCell c v
 free:H X.env.locals=none
 JZ:∀x c,X.env.cells.lookup x=some c->H c=none
 pin:∀p∈X.pn++pins,s.heap.get? p.1=some p.2/\H p.1=none/\p.1≠X.env.locals/\p.1∉X.fs/\∀v,p.2.data≠.cell v
 hok:HOk X.prog X.w H s.heap
 len:σ.length=X.N.length
 tk:X.m<=s.toks
section
variable {X:Cx}{pins:Ep}{σ:List (Option V)}{H H':Hp}{s:Eu}{h':Heap}
def Cx.Ok.DL(ok:X.Ok)(e:X.base.get? b=some o):b∉X.fs:=λa=>by have:=(ok.dE.mem a).1;rw[e]at this;cases this
def Inv.bs(I:Inv X pins σ H s):∀b o,X.base.get? b=some o->s.heap.get? b=some o/\H b=none:=λb o e=>
 ⟨I.base.keep b o (I.ok.bs b o e).1 (I.ok.bs b o e).2 (I.ok.DL e) (I.ok.Bj b o e),I.base.free b o (I.ok.bs b o e).1 (I.ok.bs b o e).2 (I.ok.Bj b o e)⟩
def Inv.bk(I:Inv X pins σ H s):∀b o,X.base.get? b=some o->s.heap.get? b=some o:=λb o e=>(I.bs b o e).1
def Inv.mod(I:Inv X pins σ H s):Mod X.K X.mg X.base:=I.ok.mod
def Inv.kIn(I:Inv X pins σ H s):X.K.In s.heap:=I.ok.mod.kin.keeps I.bk
def Inv.lt(I:Inv X pins σ H s):X.env.locals<s.heap.objs.size:=let⟨_,hn,_⟩:=I.loc;hn.lt
def Inv.sz(I:Inv X pins σ H s):X.s₀.heap.objs.size<=s.heap.objs.size:=F9 I.ok.above (a1L I.lt)
def Inv.DM(I:Inv X pins σ H s)(h:s.heap.objs.size<=a):a∉X.fs:=λb=>by obtain⟨_,o,c,_⟩:=I.ok.dE.mem b;exact absurd (F5 (E6 c) (F9 I.sz h)) (S0 _)
def Inv.cne(I:Inv X pins σ H s):∀x c,X.env.cells.lookup x=some c->c≠X.env.locals:=λx c e z=>by obtain⟨v,o,f,d⟩:=I.cell x c e;obtain⟨m,⟨i,h,g,a,b,_⟩,_⟩:=I.loc;rw[z,a]at f;cases f;rw[b]at d;cases d
def Inv.dE(I:Inv X pins σ H s):s.heap.FunFrames X.base X.outer:=by
 have all:∀(l:List Env),(∀b∈frs l,b∈X.fs)->X.s₀.heap.FunFrames X.base l->s.heap.FunFrames X.base l:=by
  intro l
  induction l with
  |nil=>intro _ _;trivial
  |cons g r f=>intro d n;obtain⟨m,⟨L,o,hf,hn,h,i⟩,j⟩:=n;have a:L∈X.fs:=d L (by unfold frs;rw[P8,hf];exact E9);obtain⟨p,e⟩:=I.base.slot L o h (I.ok.frf L a) a λz=>I.ok.Bk L z a;exact⟨m,⟨L,_,hf,hn,e,i⟩,f (λb c=>d b (by unfold frs;rw[P8,hf];exact E3 _ c)) j⟩
 exact all X.outer (λ_ c=>c) I.ok.dE
def Inv.stack(I:Inv X pins σ H s):s.heap.FunFrames X.base X.stack:=by
 rcases I.ok.stk with e|⟨e,hf⟩
 .rw[e];exact I.dE
 .rw[e];obtain⟨m,hn,_⟩:=I.loc;refine .cons (by rw[I.ok.kind];decide) hf hn ?_ I.dE;exact Heap.get?_none_of_le (F9 I.ok.bsz I.ok.above)
def Inv.V6(I:Inv X pins σ H s):∀b∈frs X.stack,b∈X.env.locals::X.fs:=λb a=>by
 rcases I.ok.stk with e|⟨e,hf⟩
 .rw[e]at a;exact E3 _ a
 .rw[e]at a;unfold frs at a;rw[P8,hf]at a;exact a
def Inv.WA(I:Inv X pins σ H s):∀b∈frs X.stack,H b=none:=λb a=>by
 rcases F0.mp (I.V6 b a)with e|a
 .rw[e];exact I.free
 .obtain⟨_,o,c,_⟩:=I.ok.dE.mem a;exact I.base.free b o c (I.ok.frf b a) λz=>I.ok.Bk b z a
def Inv.step{g':Array GenState}{t':Nat}{d':Drawn}{ch:Ff}(I:Inv X pins σ H s)
  (f:∀b∈ch,(b∈X.ex\/X.s₀.heap.objs.size<=b)/\b≠X.env.locals/\(∀x c,X.env.cells.lookup x=some c->c≠b)/\∀p∈X.pn++pins,p.1≠b)
  (keep:∀b o,b≠X.env.locals->b∉X.fs->b∉ch->s.heap.get? b=some o->H b=none->h'.get? b=some o)
  (w:∀b o,b≠X.env.locals->b∈X.fs->b∉ch->s.heap.get? b=some o->H b=none->∃G,h'.get? b=some { o with slots:=G }) (free:∀b o,b∉ch->s.heap.get? b=some o->H b=none->H' b=none)
  (there:∀b o,b∉ch->s.heap.get? b=some o->∃D,h'.get? b=some D)
  (T:∀b y,H b=some (.tup y)->H' b=some (.tup y)) (R:∀b o u,H b=some (.frz o u)->H' b=some (.frz o u)) (P:∀b F,H b=some (.tbl F)->∃more,H' b=some (.tbl (F++more)))
  (ns:∀m,s.heap.Ns X.env.locals m->h'.Ns X.env.locals m) (J:HOk X.prog X.w H' h') (Q:AllBare g') (Y:X.m<=t':=by ac_rfl):
  Inv X pins σ H' { s with heap:=h',gens:=g',drawn:=d',toks:=t' }:=by
 have C:∀b o,X.s₀.heap.get? b=some o->b≠X.env.locals:=λb o e=>F1 (F5 (E6 e) I.ok.above);have j:∀b o,X.s₀.heap.get? b=some o->b∉X.ex->b∉ch:=λb o e a A=>by
  rcases(f b A).1 with z|z
  .exact a z
  .exact absurd (F5 (E6 e) z) (S0 _)
 have h:∀x c,X.env.cells.lookup x=some c->∀v,s.heap.IsCell c v->h'.IsCell c v:=λx c e v ⟨o,B,K⟩=>by
  have g:c∉ch:=λz=>(f c z).2.2.1 x c e rfl;by_cases M:c∈X.fs
  .obtain⟨G,q⟩:=w c o (I.cne x c e) M g B (I.JZ x c e);exact⟨_,q,K⟩
  .exact⟨o,keep c o (I.cne x c e) M g B (I.JZ x c e),K⟩
 refine⟨I.ok,I.os,Q,⟨λb o e n A a=>?_,λb o e n A a=>?_,λb o e n a=>?_,λb o e a=>?_,λb y e=>T b y (I.base.oa b y e),λb o y e=>R b o y (I.base.i6 b o y e),λb F e=>?_⟩,?_,λx c e=>?_,?_,λx c e=>?_,λp hp=>?_,J,I.len,Y⟩
 .exact keep b o (C b o e) A (j b o e a) (I.base.keep b o e n A a) (I.base.free b o e n a)
 .obtain⟨G,t⟩:=I.base.slot b o e n A a;obtain⟨L,E⟩:=w b _ (C b o e) A (j b o e a) t (I.base.free b o e n a);exact⟨L,E⟩
 .obtain⟨D,t⟩:=I.base.there b o e a;exact free b D (j b o e a) t (I.base.free b o e n a)
 .obtain⟨D,t⟩:=I.base.there b o e a;exact there b D (j b o e a) t
 .obtain⟨U,t⟩:=I.base.og b F e;obtain⟨S,E⟩:=P b _ t;exact⟨U++S,by rw[E,Array.append_assoc]⟩
 .obtain⟨m,hn,Z⟩:=I.loc;refine⟨m,ns m hn,λi x v t E W=>?_⟩;obtain⟨u,r,l⟩:=Z i x v t E W;refine⟨u,r,?_⟩;rcases l with l|⟨k,c,e,z⟩
  .exact .inl l
  .exact .inr ⟨k,c,e,h x c e _ z⟩
 .obtain⟨v,z⟩:=I.cell x c e;exact⟨v,h x c e v z⟩
 .obtain⟨m,⟨o,_,_,B,_⟩,_⟩:=I.loc;exact free _ o (λz=>(f _ z).2.1 rfl) B I.free
 .obtain⟨v,o,B,K⟩:=I.cell x c e;exact free c o (λz=>(f c z).2.2.1 x c e rfl) B (I.JZ x c e)
 .obtain⟨e,n,N,O,d⟩:=I.pin p hp;have g:p.1∉ch:=λz=>(f p.1 z).2.2.2 p hp rfl;exact⟨keep p.1 p.2 N O g e n,free p.1 p.2 g e n,N,O,d⟩
def Inv.un(I:Inv X pins σ H s)(u:Un X.fs [] H H' s.heap h')(c:HOk X.prog X.w H' h')(w:X.m<=t':=by ac_rfl):Inv X pins σ H' { s with heap:=h',toks:=t' }:=by
 obtain⟨m,⟨o,t,x,h,r⟩,_⟩:=id I.loc;obtain⟨p,j⟩:=u.any h I.free (by simp);exact I.step (g':=s.gens) (d':=s.drawn) (ch:=[]) (λ_ z=>nomatch z) (λb o _ f _ e n=>u.keep b o e n f (by simp)) (λb o _ f _ e n=>u.slot b o e n f (by simp)) (λb o _ e n=>u.free b o e n (by simp)) (λb o _ e=>u.there b o e (by simp)) u.oa u.i6 u.og (λv l=>by
  obtain⟨q,d,g,a,i⟩:=l;rw[h]at a;cases a;exact⟨_,d,g,j,i⟩) c I.bare
def Inv.call(I:Inv X pins σ H s)(u:Un (frs X.stack) ch H H' s.heap h')(g:HOk X.prog X.w H' h')(t:AllBare g')
  (d:∀b∈ch,(b∈X.ex\/X.s₀.heap.objs.size<=b)/\b≠X.env.locals/\(∀x c,X.env.cells.lookup x=some c->c≠b)/\∀p∈X.pn++pins,p.1≠b) (D:X.m<=t':=by ac_rfl):
  Inv X pins σ H' { s with heap:=h',gens:=g',drawn:=d',toks:=t' }:=by
 obtain⟨m,⟨o,B,E,l,r⟩,_⟩:=id I.loc;obtain⟨y,i⟩:=u.any l I.free λz=>(d _ z).2.1 rfl;exact I.step (ch:=ch) d (λb o i v a e n=>u.keep b o e n (λz=>(F0.mp (I.V6 b z)).elim i v) a) (λb o _ _ a e n=>u.any e n a) (λb o a e n=>u.free b o e n a) (λb o a e=>u.there b o e a) u.oa u.i6 u.og (λC w=>by
  obtain⟨A,h,j,f,q⟩:=w;rw[l]at f;cases f;exact⟨_,h,j,i,q⟩) g t
def Inv.turned(I:Inv X pins σ H s)(k:∀b o,b≠it->s.heap.get? b=some o->h'.get? b=some o)(hn:H it=none)(f:it≠X.env.locals)
  (i:it∈X.ex\/X.s₀.heap.objs.size<=it) (j:∀x c,X.env.cells.lookup x=some c->c≠it) (l:∀p∈X.pn++pins,p.1≠it) (A:X.m<=t':=by ac_rfl):Inv X pins σ H { s with heap:=h',toks:=t' }:=by
 have d:∀b u,H b=some u->b≠it:=λb u e z=>by rw[z,hn]at e;cases e
 refine I.step (g':=s.gens) (d':=s.drawn) (ch:=[it]) (λb t=>?_) (λb o _ _ a e _=>k b o (λz=>a (by simp[z])) e) (λb o _ _ a e _=>⟨o.slots,k b o (λz=>a (by simp[z])) e⟩) (λ_ _ _ _ n=>n)
  (λb o a e=>⟨o,k b o (λz=>a (by simp[z])) e⟩) (λ_ _ e=>e) (λ_ _ _ e=>e) (λb B e=>⟨#[],by rw[e];simp⟩) (λm y=>?_) (λb u e=>?_) I.bare
 .have e:b=it:=by simpa using t
  subst e;exact⟨i,f,j,l⟩
 .obtain⟨o,h,w,g,r⟩:=y;exact⟨o,h,w,k _ o (Ne.symm f) g,r⟩
 .refine(I.hok b u e).oh (λc v a q=>k c v ?_ q) (λ_ q=>q) λ_ _ q=>q;rcases a with z|z
  .rw[z];exact d b u e
  .exact d c _ z
def Inv.tok(I:Inv X pins σ H s)(t:Nat)(a:X.m<=t:=by ac_rfl):Inv X pins σ H { s with toks:=t }:=I.un (h':=s.heap) (t':=t) Un.refl I.hok
def Inv.kept(I:Inv X pins σ H s)(k:∀b u,s.heap.get? b=some u->h'.get? b=some u)(a:X.m<=t':=by ac_rfl):Inv X pins σ H { s with heap:=h',toks:=t' }:=I.un (Un.kept k) (I.hok.kept k)
def Inv.laid(I:Inv X pins σ H s)(k:∀b u,s.heap.get? b=some u->h'.get? b=some u)(hp:s.heap.objs.size<=a)(new:y8 X.prog X.w (upd H a o) h' a o)(c:X.m<=t':=by ac_rfl):
  Inv X pins σ (upd H a o) { s with heap:=h',toks:=t' }:=I.un (Un.laid k hp (I.hok.fresh hp)) (I.hok.laid k hp new)
def Inv.write(I:Inv X pins σ H s)(c:Mut (H x))(he:e=x\/H e=some (.own x))(k:∀b u,b≠e->s.heap.get? b=some u->h'.get? b=some u)(a:∃u,h'.get? e=some u)
  (new:y8 X.prog X.w (upd H x o) h' x o) (d:X.m<=t':=by ac_rfl):Inv X pins σ (upd H x o) { s with heap:=h',toks:=t' }:=I.un (Un.write c he k a) (I.hok.write c he k a new)
def Inv.aa(I:Inv X pins σ H s)(h:∀p∈pins',s.heap.get? p.1=some p.2/\H p.1=none/\p.1≠X.env.locals/\p.1∉X.fs/\∀v,p.2.data≠.cell v):Inv X pins' σ H s:=
 ⟨I.ok,I.os,I.bare,I.base,I.loc,I.cell,I.free,I.JZ,λp hp=>(N3.mp hp).elim (λz=>I.pin p (a0a _ z)) (h p),I.hok,I.len,I.tk⟩
def bH{N:EB}(d:N.Nodup){i j:Nat}{x:Str}(a:N[i]?=some x)(b:N[j]?=some x):i=j:=by obtain⟨g,c⟩:=E7.mp a;obtain⟨f,e⟩:=E7.mp b;exact(a0T d).mp (c.trans e.symm)
def XT(I:Inv X pins σ H s)(hN:X.N.Nodup)(S:X.N[i]?=some x)(w:Loc X.env.scope x)(r:RelV v u)
  (h:∀s',Inv X pins (σ.set i (some v)) H s'->(∃a,Heap.SameBut a s.heap s'.heap/\(a=X.env.locals\/X.env.cells.lookup x=some a))->Q () s') (hf:X.fn x=true\/X.env.scope.names.lookup x=some .local:=by first|exact .inl rfl|exact .inr rfl|assumption):wpAny M A (storeName X.env x u) Q E s:=by
 obtain⟨m,hn,hl⟩:=id I.loc;have N:(X.env.scope.kind == .class||(X.env.scope.kind == .module&&X.env.locals != X.env.globals))=false:=by rw[I.ok.kind];rfl
 have D:i<σ.length:=by rw[I.len];exact(E7.mp S).1
 have cne:=I.cne;have g:∀{a:Addr}{h':Heap},(∃o,s.heap.get? a=some o/\H a=none)->Heap.SameBut a s.heap h'->HOk X.prog X.w H h':=λ{a h'} ha f b ob e=>by
  obtain⟨_,_,B⟩:=ha;refine(I.hok b ob e).oh (λc U t q=>(f.2 c ?_).trans q) (λ_ q=>q) λ_ _ q=>q
  rintro rfl
  rcases t with rfl|t
  .rw[B]at e;cases e
  .rw[B]at t;cases t
 rcases w with F|F
 .refine wpAny_storeName_local F hn (λh' hn' f=>?_) N;obtain⟨oL,_,_,hoL,_⟩:=id hn;refine h _ ⟨I.ok,I.os,I.bare,⟨λb o e n K w=>?_,λb o e n K w=>?_,I.base.free,λb o e w=>?_,I.base.oa,I.base.i6,I.base.og⟩,⟨_,hn',λj y v' l C e3=>?_⟩,λy c e=>?_,I.free,I.JZ,λp hp=>?_,g ⟨oL,hoL,I.free⟩ f,by simpa using I.len,a1E I.tk⟩ ⟨_,f,.inl rfl⟩
  .exact(f.2 b (F1 (F5 (E6 e) I.ok.above))).trans (I.base.keep b o e n K w)
  .obtain⟨Y,l⟩:=I.base.slot b o e n K w;exact⟨Y,(f.2 b (F1 (F5 (E6 e) I.ok.above))).trans l⟩
  .obtain⟨o',l⟩:=I.base.there b o e w;exact⟨o',(f.2 b (F1 (F5 (E6 e) I.ok.above))).trans l⟩
  .by_cases G:j=i
   .subst G;rw[S]at l;cases l;rw[M7 D]at C;cases C;exact⟨u,r,.inl ⟨F,by simp⟩⟩
   .rw[M3 (Ne.symm G)]at C;obtain⟨u',Z,q⟩:=hl j y v' l C e3;refine⟨u',Z,?_⟩;rcases q with⟨k,e⟩|⟨k,c,e,z⟩
    .refine .inl ⟨k,?_⟩;have:y≠x:=λe=>G (bH hN l (e▸S));simp[this,e]
    .exact .inr ⟨k,c,e,z.sameBut f (cne y c e)⟩
  .obtain⟨U,z⟩:=I.cell y c e;exact⟨U,z.sameBut f (cne y c e)⟩
  .obtain⟨e,n,W,nf,d⟩:=I.pin p hp;exact⟨(f.2 p.1 W).trans e,n,W,nf,d⟩
 .have J:X.fn x=true:=by
   rcases hf with z|z
   .exact z
   .rw[z]at F;cases F
  obtain⟨c,t⟩:=I.ok.has x (.inl F);obtain⟨U,z⟩:=I.cell x c t;refine wpAny_storeName_cell I.ok.kind F t z (λh' P f=>?_);obtain⟨oc,R,L⟩:=id z;refine h { s with heap:=h' } ⟨I.ok,I.os,I.bare,⟨λb o e n K w=>?_,λb o e n K w=>?_,I.base.free,λb o e w=>?_,I.base.oa,I.base.i6,I.base.og⟩,⟨m,hn.sameBut f (Ne.symm (cne x c t)),λj y v' l C e3=>?_⟩,λy T e=>?_,I.free,I.JZ,λp hp=>?_,g ⟨oc,R,I.JZ x c t⟩ f,by simpa using I.len,I.tk⟩ ⟨c,f,.inr t⟩
  .exact(f.2 b (F1 (F5 (E6 e) (I.ok.cab x c J t)))).trans (I.base.keep b o e n K w)
  .obtain⟨Y,l⟩:=I.base.slot b o e n K w;exact⟨Y,(f.2 b (F1 (F5 (E6 e) (I.ok.cab x c J t)))).trans l⟩
  .obtain⟨o',l⟩:=I.base.there b o e w;exact⟨o',(f.2 b (F1 (F5 (E6 e) (I.ok.cab x c J t)))).trans l⟩
  .by_cases G:j=i
   .subst G;rw[S]at l;cases l;rw[M7 D]at C;cases C;exact⟨u,r,.inr ⟨.inl F,c,t,P⟩⟩
   .rw[M3 (Ne.symm G)]at C;obtain⟨u',Z,q⟩:=hl j y v' l C e3;refine⟨u',Z,?_⟩;rcases q with q|⟨k,T,e,z'⟩
    .exact .inl q
    .refine .inr ⟨k,T,e,z'.sameBut f ?_⟩
     rintro rfl
     exact G (bH hN l (I.ok.inj _ _ _ e t▸S))
  .by_cases O:T=c
   .subst O;exact⟨_,P⟩
   .obtain⟨w2,z2⟩:=I.cell y T e;exact⟨w2,z2.sameBut f O⟩
  .obtain⟨e,n,W,nf,d⟩:=I.pin p hp;refine⟨(f.2 p.1 ?_).trans e,n,W,nf,d⟩;intro q;rw[q,R]at e;have q':oc=p.2:=L5 e;exact d U (by rw[<- q'];exact L)
def bI(I:Inv X pins σ H s)(c:X.N.Nodup)(b:X.N[i]?=some x)(e:Loc X.env.scope x)(r:RelV v u)
  (h:∀a,Inv X pins (σ.set i (some v)) H a->Q () a) (hf:X.fn x=true\/X.env.scope.names.lookup x=some .local:=by first|exact .inl rfl|exact .inr rfl|assumption):wpAny M A (storeName X.env x u) Q E s:=
 XT I c b e r (λa d _=>h a d) hf
def Inv.uP(I:Inv X pins σ H s)(i:s'.os=s.os)(u:Un (frs X.stack) ch H H' s.heap s'.heap)(d:HOk X.prog X.w H' s'.heap)(l:AllBare s'.gens)
  (a:∀b∈ch,(b∈X.ex\/X.s₀.heap.objs.size<=b)/\b≠X.env.locals/\(∀x c,X.env.cells.lookup x=some c->c≠b)/\∀p∈X.pn++pins,p.1≠b) (m:X.m<=s'.toks:=by ac_rfl):Inv X pins σ H' s':=by
 obtain⟨h',g,h,f,j⟩:=s';have e:j=s.os:=i;subst e;exact I.call (g':=g) (t':=f) (d':=h) u d l a m
end
abbrev XK:=Value->Option Addr->Hp->Prop
abbrev St:=List (Option V)
abbrev VK:=V->Hp->Prop
abbrev TE:=St->Hp->VK->Prop
abbrev TT:=St->Hp->(Bool->Hp->Prop)->Prop
abbrev TA:=St->Hp->(List V->Hp->Prop)->Prop
structure Ends where
 nx:St->Hp->Prop
 rt:VK
 bk:St->Hp->Prop:=λ_ _=>False
 ct:St->Hp->Prop:=λ_ _=>False
abbrev TS:=Ends->St->Hp->Prop
def EP(X:Cx)(a:Ep)(c:St)(Q:VK)(u:Value)(d:Eu):Prop:=∃v b,Inv X a c b d/\RelV v u/\Q v b
def TP(X:Cx)(a:Ep)(d:St)(Q:Bool->Hp->Prop)(b:Bool)(e:Eu):Prop:=∃c,Inv X a d c e/\Q b c
def AP(X:Cx)(a:Ep)(d:St)(Q:List V->Hp->Prop)(us:EE)(e:Eu):Prop:=∃c b,Inv X a d b e/\Vals c us/\Q c b
def SP(X:Cx)(b:Ep)(D:Ends)(f:Flow)(d:Eu):Prop:=
 match f with
 |.next=>∃a c,Inv X b a c d/\D.nx a c
 |.brk=>∃a c,Inv X b a c d/\D.bk a c
 |.cont=>∃a c,Inv X b a c d/\D.ct a c
 |.ret u=>∃v a c,Inv X b a c d/\RelV v u/\D.rt v c
def PE(X:Cx)(e:Ey)(t:TE):Prop:=
 ∀(a:Ep)(s:Eu)(b:St)(H:Hp)(Q:VK),Inv X a b H s->t b H Q->wpAny (FK X) X.A (eval e X.env) (EP X a b Q) X.xe s
def PT(X:Cx)(e:Ey)(t:TT):Prop:=
 ∀(a:Ep)(s:Eu)(b:St)(H:Hp)(Q:Bool->Hp->Prop),Inv X a b H s->t b H Q->wpAny (FK X) X.A (isTrue e X.env (eval e X.env)) (TP X a b Q) X.xe s
def PW(X:Cx)(e:Ey)(t:TT):Prop:=
 ∀(b:Sem Value)(a:Ep)(s:Eu)(c:St)(H:Hp)(Q:Bool->Hp->Prop),Inv X a c H s->t c H Q->wpAny (FK X) X.A (isTrue e X.env b) (TP X a c Q) X.xe s
def PW.pt(h:PW X e t):PT X e t:=h _
def PA(X:Cx)(es:Ex)(t:TA):Prop:=
 ∀(c:Pos)(a:Ep)(s:Eu)(b:St)(H:Hp)(Q:List V->Hp->Prop),Inv X a b H s->t b H Q->wpAny (FK X) X.A (spliced (backTo c (starEach es X.env))) (AP X a b Q) X.xe s
def PS(X:Cx)(st:Fh)(t:TS):Prop:=
 ∀(a:Ep)(s:Eu)(b:St)(H:Hp)(D:Ends),Inv X a b H s->t D b H->wpAny (FK X) X.A (exec st X.env) (SP X a D) X.xe s
def PSs(X:Cx)(st:Fd)(t:TS):Prop:=
 ∀(a:Ep)(s:Eu)(b:St)(H:Hp)(D:Ends),Inv X a b H s->t D b H->wpAny (FK X) X.A (execs st X.env) (SP X a D) X.xe s
def thn{b:Type}{t:Sem b}{Q c:b->Shared->Prop}(h:wpAny M A t Q E s)(d:∀a s,Q a s->c a s):wpAny M A t c E s:=S9 h d λ_ _ x=>x
section
variable {X:Cx}
def ZN(i:Nat):TE:=λa H Q=>∃v,a[i]?=some (some v)/\Q v H
def tC(v:V):TE:=λ_ H Q=>Q v H
def uQ(p:X.N[i]?=some x)(q:Vis X.env.scope x)(j:(x==("__debug__":Str))=false:=by decide)(g:(x==("__classdict__":Str))=false:=by decide):PE X (.Name x pos) (ZN i):=by
 intro f s o H Q I h;obtain⟨v,e,h⟩:=h;obtain⟨m,hn,t⟩:=I.loc;obtain⟨u,r,l⟩:=t i x v p e q;have d:EP X f o Q u s:=⟨v,H,I,r,h⟩;rcases l with⟨b,w⟩|⟨b,c,n,a⟩
 .exact wpAny_Name (wpAny_loadName_local I.ok.kind b hn w d) j
 .rcases b with b|b
  .exact wpAny_Name (wpAny_loadName_cell I.ok.kind b n a d) j
  .exact wpAny_Name (wpAny_loadName_free I.ok.kind b n a d g) j
def uR{i j pos}:PE X (.Constant (.int i) j pos) (tC (.int i)):=λ_ _ _ H _ I h=>a24 ⟨.int i,H,I.tok _,⟨_,rfl⟩,h⟩
def q0{b j pos}:PE X (.Constant (.bool b) j pos) (tC (.bl b)):=λ_ _ _ H _ I h=>Constant_bool ⟨.bl b,H,I,rfl,h⟩
def kK{j pos}:PE X (.Constant .none j pos) (tC .non):=λ_ _ _ H _ I h=>Constant_none ⟨.non,H,I,rfl,h⟩
def eR{x j pos}:PE X (.Constant (.str x) j pos) (tC (.str x)):=λ_ _ _ H _ I h=>a0K ⟨.str x,H,I.tok _,⟨_,rfl⟩,h⟩
def Gl(X:Cx)(x:Str):Prop:=X.env.kindOf x=some .globalImplicit
def WB(I:Inv X pins σ H s)(c:Gl X x)(b:X.mg x=some u)(h:Q u s)
  (a:(x==("__debug__":Str))=false:=by decide):wpAny (FK X) X.A (eval (.Name x pos) X.env) Q E s:=
 a1z I.ok.kind c (Calls.loadGlobal_global (by rw[I.ok.glob];exact I.mod.glob.keeps I.bk) b h) a
def V7(I:Inv X pins σ H s)(d:Gl X x)(e:X.mg x=none)(c:bootBuiltins x=some u)(h:Q u s)
  (hn:x≠"__name__":=by decide) (a:(x==("__debug__":Str))=false:=by decide):wpAny (FK X) X.A (eval (.Name x pos) X.env) Q E s:=by
 obtain⟨g,f,b⟩:=I.mod.blt;exact a1z I.ok.kind d (Calls.loadGlobal_builtin (by rw[I.ok.glob];exact I.mod.glob.keeps I.bk) e (by rw[I.ok.blt];exact f.keeps I.bk) ((b x hn).trans c) h) a
def ae(b:Gl X x)(c:X.mg x=some u)(r:RelV v u)(a:(x==("__debug__":Str))=false:=by decide):PE X (.Name x pos) (tC v):=
 λ_ _ _ H _ I h=>WB I b c ⟨v,H,I,r,h⟩ a
def ri(c:Gl X x)(d:X.mg x=none)(b:bootBuiltins x=some u)(r:RelV v u)(hn:x≠"__name__":=by decide)(a:(x==("__debug__":Str))=false:=by decide):PE X (.Name x pos) (tC v):=
 λ_ _ _ H _ I h=>V7 I c d b ⟨v,H,I,r,h⟩ hn a
variable {a b:Ey}{ta tb:TE}{pos:Pos}
def YJ(b:Ey)(h:op≠.In)(c:op≠.NotIn):behindInMarks op b=false:=by
 have d:(op==CmpOp.In)=false:=by cases op<;>first|rfl|exact absurd rfl h
 have e:(op==CmpOp.NotIn)=false:=by cases op<;>first|rfl|exact absurd rfl c
 cases b<;>simp[behindInMarks,d,e]
def tB(t:TE):TT:=λd H Q=>t d H λx e=>∃c,x=.bl c/\Q c e
def uS(h:PE X e t)(he:∀c,isTrue e X.env c=(do let v<-c;standAt e.pos;holding [v] (truthy v)):=by intro _;rfl):PT X e (tB t):=by intro f s g H Q I j;refine isTrue_plain (thn (h f s g H _ I j) λv o ⟨x,l,m,n,i⟩=>?_) (he _);obtain⟨d,rfl,q⟩:=i;cases n;exact a0u ⟨l,m,q⟩
variable {tA tB':TT}{rest:Ex}
def DN(t u:TT):TT:=λd H Q=>t d H λc e=>if c=true then u d e Q else Q false e
def tOr(t u:TT):TT:=λd H Q=>t d H λc e=>if c=true then Q true e else u d e Q
def DO(t:TT):TT:=λd H Q=>t d H λc e=>Q (!c) e
def pw_and1(g:PT X a tA):PW X (.BoolOp .And [a] pos) tA:=by
 intro j d s f H Q I h;refine isTrue_and (thn (g d s f H Q I h) λc i e=>?_);cases c with
 |true=>exact isTrue_and_nil e
 |false=>exact e
def pw_or1(g:PT X a tA):PW X (.BoolOp .Or [a] pos) tA:=by
 intro j d s f H Q I h;refine isTrue_or (thn (g d s f H Q I h) λc i e=>?_);cases c with
 |false=>exact isTrue_or_nil e
 |true=>exact e
def pw_and(m:PT X a tA)(j:PW X (.BoolOp .And (b::rest) pos) tB'):PW X (.BoolOp .And (a::b::rest) pos) (DN tA tB'):=by
 intro n d s e H Q I h;refine isTrue_and (thn (m d s e H _ I h) λc l ⟨g,i,f⟩=>?_);cases c with
 |true=>exact j n d l e g Q i f
 |false=>exact⟨g,i,f⟩
def pw_or(m:PT X a tA)(j:PW X (.BoolOp .Or (b::rest) pos) tB'):PW X (.BoolOp .Or (a::b::rest) pos) (tOr tA tB'):=by
 intro n d s e H Q I h;refine isTrue_or (thn (m d s e H _ I h) λc l ⟨g,i,f⟩=>?_);cases c with
 |true=>exact⟨g,i,f⟩
 |false=>exact j n d l e g Q i f
def uT(g:PT X a tA):PT X (.UnaryOp .Not a pos) (DO tA):=by intro d s e H Q I h;exact isTrue_not (g d s e H (λc f=>Q (!c) f) I h)
def BJ(ta tb:TE):TE:=λd H Q=>ta d H λx e=>∃c,x=.bl c/\if c=true then tb d e Q else Q (.bl false) e
def DP(ta tb:TE):TE:=λd H Q=>ta d H λx e=>∃c,x=.bl c/\if c=true then Q (.bl true) e else tb d e Q
def uU{op}(h:PE X a t):PE X (.BoolOp op [a] pos) t:=λc s d H Q I e=>BoolOp_one (h c s d H Q I e)
def uV(m:PE X a ta)(j:PE X (.BoolOp .And (b::rest) pos) tb):PE X (.BoolOp .And (a::b::rest) pos) (BJ ta tb):=by
 intro d s f H Q I h;refine BoolOp_and (thn (m d s f H _ I h) λv l ⟨x,i,g,n,e⟩=>?_);obtain⟨c,rfl,e⟩:=e;cases n;refine a0u ?_;cases c with
 |true=>exact j d l f i Q g e
 |false=>exact⟨.bl false,i,g,rfl,e⟩
def BK(m:PE X a ta)(j:PE X (.BoolOp .Or (b::rest) pos) tb):PE X (.BoolOp .Or (a::b::rest) pos) (DP ta tb):=by
 intro d s f H Q I h;refine BoolOp_or (thn (m d s f H _ I h) λv l ⟨x,i,g,n,e⟩=>?_);obtain⟨c,rfl,e⟩:=e;cases n;refine a0u ?_;cases c with
 |false=>exact j d l f i Q g e
 |true=>exact⟨.bl true,i,g,rfl,e⟩
def tIf(t:TT)(ta tb:TE):TE:=λd H Q=>t d H λc e=>if c=true then ta d e Q else tb d e Q
def lz(n:PT X c tA)(o:PE X a ta)(m:PE X b tb):PE X (.IfExp c a b pos) (tIf tA ta tb):=by
 intro e s f H Q I h;refine wpAny_IfExp (thn (n e s f H _ I h) λd j ⟨l,g,i⟩=>?_);cases d with
 |true=>exact o e j f l Q g i
 |false=>exact m e j f l Q g i
end
def SqL(K:EC)(H:Hp)(a:Addr)(xs:EH):Prop:=
 Rd H a (.lst xs)\/
  ∃(o:Obj)(b:ET)(n:Nat),K.lookup a=some o/\o.cls=.type "list"/\o.dict=none/\o.data=.seq b n/\b.size<=sizeLine/\Vals xs b.toList
def SqT(K:EC)(H:Hp)(a:Addr)(xs:EH):Prop:=
 Rd H a (.tup xs)\/
  ∃(o:Obj)(b:ET)(n:Nat),K.lookup a=some o/\o.cls=.type "tuple"/\o.data=.seq b n/\b.size<=sizeLine/\Vals xs b.toList
def DQ:Value->Option V
 |.none=>some .non
 |.bool b=>some (.bl b)
 |.int i _=>some (.int i)
 |.str x _=>some (.str x)
 |.bytes b _=>some (.byt b)
 |.float b _=>some (.flt b)
 |.ref a=>some (.ref a)
 |.type n=>some (.ty n)
 |_=>none
def RelV.abs(r:RelV x u):DQ u=some x:=by
 cases x with
 |non=>cases r;rfl
 |bl _=>cases r;rfl
 |int _=>obtain⟨t,rfl⟩:=r;rfl
 |str _=>obtain⟨t,rfl⟩:=r;rfl
 |byt _=>obtain⟨t,rfl⟩:=r;rfl
 |flt _=>obtain⟨t,rfl⟩:=r;rfl
 |ref _=>cases r;rfl
 |ty _=>cases r;rfl
def RelV.inj(r:RelV x u)(q:RelV y u):x=y:=L5 (r.abs.symm.trans q.abs)
def Vals.inj:∀{b a:EH}{c:EE},Vals b c->Vals a c->b=a
 |_,_,_,.nil,.nil=>rfl
 |_,_,_,.cons r t,.cons e d=>by rw[r.inj e,Vals.inj t d]
def SqL.of{K:EC}(h:H a=some (.lst xs)):SqL K H a xs:=.inl (.inl h)
def SqT.of{K:EC}(h:H a=some (.tup xs)):SqT K H a xs:=.inl (.inl h)
def Inv.list(I:Inv X pins σ H s)(h:SqL X.K H a xs):∃b:List Value,Vals xs b/\PlainL s.heap a b.toArray/\xs.length<=sizeLine:=by
 rcases h with h|⟨o,b,n,d,g,c,f,hz,r⟩
 .obtain⟨z,b,n,r,e⟩:=h.ok I.hok;exact⟨b,r,⟨_,n,e,rfl,rfl,rfl⟩,z⟩
 .refine⟨b.toList,r,⟨o,n,I.kIn a o d,g,c,by simpa using f⟩,?_⟩;have e:=r.length;simp only[Array.length_toList]at e;omega
def Inv.tuple(I:Inv X pins σ H s)(h:SqT X.K H a xs):∃b:List Value,Vals xs b/\IsTup s.heap a b.toArray/\xs.length<=sizeLine:=by
 rcases h with h|⟨o,b,n,c,f,d,hz,r⟩
 .obtain⟨z,b,r,p⟩:=h.ok I.hok;exact⟨b,r,p,z⟩
 .refine⟨b.toList,r,⟨o,I.kIn a o c,f,n,by simpa using d⟩,?_⟩;have e:=r.length;simp only[Array.length_toList]at e;omega
def Inv.lB(I:Inv X pins σ H s)(h:SqL X.K H a xs)(h':SqL X.K H a ys):xs=ys:=by
 obtain⟨c,r,⟨o,n,e,_,_,d⟩,_⟩:=I.list h;obtain⟨b,i,⟨l,j,f,_,_,g⟩,_⟩:=I.list h';rw[e]at f;cases f;rw[d]at g;injection g with d1 _
 have:c=b:=by simpa using G8 Array.toList d1
 subst this;exact r.inj i
def Inv.XU(I:Inv X pins σ H s)(h:SqT X.K H a xs)(h':SqT X.K H a ys):xs=ys:=by
 obtain⟨c,r,⟨o,e,_,n,d⟩,_⟩:=I.tuple h;obtain⟨b,i,⟨l,f,_,j,g⟩,_⟩:=I.tuple h';rw[e]at f;cases f;rw[d]at g;injection g with d1 _
 have:c=b:=by simpa using G8 Array.toList d1
 subst this;exact r.inj i
abbrev Cx.VM(X:Cx)(E:En):Cx:={ X with xe:=E }
abbrev Cx.nox(X:Cx):Cx:=X.VM λ_ _=>False
def Cx.Ok.VM{X:Cx}(ok:X.Ok)(E:En):(X.VM E).Ok:=
 ⟨ok.mod,ok.kind,ok.glob,ok.blt,ok.above,ok.inj,ok.has,ok.cab,ok.hd,ok.frames,ok.stk,ok.exf,ok.bs,ok.bsz,ok.Bj,ok.Bk,ok.dE,ok.frf⟩
def Cx.Ok.j6{X:Cx}{E:En}(ok:(X.VM E).Ok):X.Ok:=
 ⟨ok.mod,ok.kind,ok.glob,ok.blt,ok.above,ok.inj,ok.has,ok.cab,ok.hd,ok.frames,ok.stk,ok.exf,ok.bs,ok.bsz,ok.Bj,ok.Bk,ok.dE,ok.frf⟩
def Inv.VM(I:Inv X pins σ H s)(E:En):Inv (X.VM E) pins σ H s:=⟨I.ok.VM E,I.os,I.bare,I.base,I.loc,I.cell,I.free,I.JZ,I.pin,I.hok,I.len,I.tk⟩
def Inv.j6(I:Inv (X.VM E) pins σ H s):Inv X pins σ H s:=⟨I.ok.j6,I.os,I.bare,I.base,I.loc,I.cell,I.free,I.JZ,I.pin,I.hok,I.len,I.tk⟩
def SP.j6(h:SP (X.VM E) pins D f s'):SP X pins D f s':=by
 cases f with
 |next=>obtain⟨a,b,I,q⟩:=h;exact⟨a,b,I.j6,q⟩
 |brk=>obtain⟨a,b,I,q⟩:=h;exact⟨a,b,I.j6,q⟩
 |cont=>obtain⟨a,b,I,q⟩:=h;exact⟨a,b,I.j6,q⟩
 |ret u=>obtain⟨v,a,b,I,r,q⟩:=h;exact⟨v,a,b,I.j6,r,q⟩
section
variable {X:Cx}{st:Fh}{rest:Fd}{t u:TS}{e:Ey}{te:TE}{pos:Pos}
def BL:TS:=λD a H=>D.nx a H
def BM(t u:TS):TS:=λD a H=>t { D with nx:=u D } a H
def af:PSs X [] BL:=λ_ _ a H _ I h=>a0Y ⟨a,H,I,h⟩
def bJ(l:PS X st t)(i:PSs X rest u):PSs X (st::rest) (BM t u):=by
 intro a s c H D I h;refine a1M (thn (l a s c H { D with nx:=u D } I h) λf g q=>?_);cases f with
 |next=>obtain⟨b,d,j,q⟩:=q;exact i a g b d D j q
 |ret v=>exact q
 |brk=>exact q
 |cont=>exact q
def WC(c:PS X st t):PSs X [st] t:=by
 intro a s b H D I h;refine a1M (thn (c a s b H D I h) λf d q=>?_);cases f with
 |next=>exact a0Y q
 |ret v=>exact q
 |brk=>exact q
 |cont=>exact q
def Inv.quiet(I:Inv X pins σ H s):interactive X.env=false:=by simp[interactive,I.ok.kind]
def BO(te:TE):TS:=λD a H=>te a H λ_ b=>D.nx a b
def QV(he:PE X e te)(c:swapsWith e none pos.line X.env=pure false:=by rfl):PS X (.Expr e pos) (BO te):=by intro a s b H D I h;exact wpAny_Expr_any (thn (he a s b H _ I h) λv i ⟨x,f,g,j,d⟩=>⟨b,f,g,d⟩) I.quiet c
def C7(te:TE):TS:=λD a H=>te a H D.rt
def bK(he:PE X e te):PS X (.Return (some e) pos) (C7 te):=by intro a s b H D I h;exact wpAny_Return_some (thn (he a s b H _ I h) λv i ⟨x,d,f,g,c⟩=>⟨x,b,d,f,g,c⟩)
def BP:TS:=λD _ H=>D.rt .non H
def rj:PS X (.Return none pos) BP:=λ_ _ a H _ I h=>wpAny_Return_none ⟨.non,a,H,I,rfl,h⟩
def C8(c:TT)(t u:TS):TS:=λD a H=>c a H λb d=>if b=true then t D a d else u D a d
def uW(o:PT X c tc)(p:PSs X a t)(n:PSs X b u):PS X (.If c a b pos) (C8 tc t u):=by
 intro f s g H D I h;refine wpAny_If (thn (o f s g H _ I h) λd l ⟨m,i,j⟩=>?_);cases d with
 |true=>exact p f l g m D i j
 |false=>exact n f l g m D i j
end
abbrev TG:=V->St->Hp->(St->Hp->Prop)->Prop
abbrev TGs:=List V->St->Hp->(St->Hp->Prop)->Prop
def PG(X:Cx)(a:Ey)(t:TG):Prop:=
 ∀(b:Ep)(s:Eu)(d:St)(H:Hp)(v:V)(u:Value)(Q:St->Hp->Prop),Inv X b d H s->RelV v u->t v d H Q->
  wpAny (FK X) X.A (assign a X.env u) (λ_ f=>∃c e,Inv X b c e f/\Q c e) X.xe s
def PGs(X:Cx)(ts:Ex)(t:TGs):Prop:=
 ∀(a:Ep)(s:Eu)(d:St)(H:Hp)(f:EH)(c:EE)(Q:St->Hp->Prop),Inv X a d H s->Vals f c->t f d H Q->
  wpAny (FK X) X.A (assignInOrder ((assignEach ts X.env).map (·.2)) c) (λ_ g=>∃b e,Inv X a b e g/\Q b e) X.xe s
section
variable {X:Cx}{pos:Pos}
def VP(i:Nat):TG:=λv a H Q=>Q (a.set i (some v)) H
def ag(d:X.N.Nodup)(b:X.N[i]?=some x)(c:Loc X.env.scope x)(hf:X.fn x=true\/X.env.scope.names.lookup x=some .local:=by first|exact .inl rfl|exact .inr rfl|assumption):PG X (.Name x pos) (VP i):=by intro a s f H v u Q I r h;exact wpAny_assign_Name (bI I d b c r (λg e=>⟨_,H,e,h⟩) hf)
def DR:TGs:=λa b H Q=>a=[]/\Q b H
def BQ(t:TG)(u:TGs):TGs:=λd b H Q=>∃v r,d=v::r/\t v b H λa c=>u r a c Q
def eS:PGs X [] DR:=by intro a s b H c d Q I r h;obtain⟨e,h⟩:=h;subst e;cases r;exact assignInOrder_nil ⟨b,H,I,h⟩
def bL(l:PG X e t)(m:PGs X es u)
  (d:(assignEach (e::es) X.env).map (·.2)=assign e X.env::(assignEach es X.env).map (·.2):=by rfl):PGs X (e::es) (BQ t u):=by
 intro a s c H w p Q I r h;obtain⟨v,q,o,h⟩:=h;subst o;cases r with
 |cons r i=>rw[d];refine assignInOrder_cons (thn (l a s c H _ _ _ I r h) λ_ g ⟨b,n,j,f⟩=>?_);exact m a g b n _ _ Q j i f
def DS(K:EC)(n:Nat)(t:TGs):TG:=λv c H Q=>∃a b,v=.ref a/\SqT K H a b/\b.length=n/\t b c H Q
def oi(m:X.calm=true)(h:PGs X es t)
  (hn:(assignEach es X.env).length=n:=by rfl) (d:(assignEach es X.env).findIdx? (·.1)=none:=by rfl):PG X (.Tuple es k pos) (DS X.K n t):=by
 intro c s g H v u Q I r f;obtain⟨a,A,z,q,x,f⟩:=f;subst z;cases r;obtain⟨y,i,p,hz⟩:=I.tuple q;refine assign_Tuple_tuple (I.ok.hd m) p (by simp[hn,<- x,i.length]) d λj w=>?_;have l:Inv X c g H { s with heap:=j }:=I.kept (t':=s.toks) λb o e=>w b o (F1 (E6 e)) e;exact h c _ g H A _ Q l (by simpa using i) f
def oj(b:TE)(g:TG):TS:=λD a H=>b a H λx c=>g x a c D.nx
def eT(he:PE X e te)(d:PG X tg g)(c:swapsWithSole [tg] e pos.line X.env=pure false:=by rfl)(o:swappedStores [tg] e X.env=pure none:=by rfl)
  (l:(assignEach [tg] X.env).map (·.2)=[assign tg X.env]:=by rfl):PS X (.Assign [tg] e pos) (oj te g):=by
 intro a s b H D I h;refine wpAny_Assign_stores (thn (he a s b H _ I h) λv i ⟨x,n,j,m,f⟩=>?_) c o;rw[l];exact thn (d a i b n x v _ j m f) λ_ s2 q=>q
def eU(d:X.N.Nodup)(o:X.N[i]?=some x)(n:Loc X.env.scope x)(he:PE X e te)(c:swapsWith e (some (.Name x pos')) pos.line X.env=pure false:=by rfl)(hf:X.fn x=true\/X.env.scope.names.lookup x=some .local:=by first|exact .inl rfl|exact .inr rfl|assumption):
  PS X (.Assign [.Name x pos'] e pos) (oj te (VP i)):=by
 intro a s b H D I h;refine wpAny_Assign_Name (thn (he a s b H _ I h) λv p ⟨y,m,j,l,f⟩=>?_) c;exact bI j d o n l (λs2 g=>⟨_,m,g,f⟩) hf
def uX(c:TT)(h:TS):TS:=λD a H=>∃W:Nat->St->Hp->Prop,(∃m,W m a H)/\∀m a H,W m a H->
 c a H λb g=>if b=true then ∃N:St->Hp->Prop,(∀d f,N d f->∃e,e<m/\W e d f)/\h { D with nx:=N,ct:=N,bk:=D.nx } a g else D.nx a g
def lC(hp:PassesOwn (FK X) X.A X.env X.xe)(G:PT X c tc)(J:PSs X body tb):PS X (.While c body [] pos) (uX tc tb):=by
 intro d s A H D I h;obtain⟨W,⟨K,C⟩,i⟩:=h;refine wpAny_While (codeAny_whileLoop (λn F=>∃g w,Inv X d g w F/\W n g w) ?_ K ⟨A,H,I,C⟩)
 rintro n B ⟨e,z,E,L⟩
 refine a0p hp (thn (G d B e z _ E (i n e z L)) λb s2 ⟨y,x,l⟩=>?_);cases b with
 |true=>
  obtain⟨N,u,l⟩:=l;rw[if_pos rfl];refine a0p hp (thn (J d s2 e y _ x l) λf M m=>?_);cases f with
  |next=>obtain⟨a,j,q,r⟩:=m;obtain⟨p,t,o⟩:=u a j r;exact⟨p,t,a,j,q,o⟩
  |cont=>obtain⟨a,j,q,r⟩:=m;obtain⟨p,t,o⟩:=u a j r;exact⟨p,t,a,j,q,o⟩
  |brk=>exact m
  |ret v=>exact m
 |false=>rw[if_neg F6];exact a0Y ⟨e,y,x,l⟩
end
structure It where
 go:Nat->Hp->Prop
 yld:Nat->Hp->V->Hp->Prop
 stop:Nat->Hp->Prop
def i8(X:Cx)(a:Ep)(H:Hp)(b:Addr):Prop:=
 H b=none/\b≠X.env.locals/\b∉X.fs/\(b∈X.ex\/X.s₀.heap.objs.size<=b)/\(∀x c,X.env.cells.lookup x=some c->c≠b)/\∀p∈X.pn++a,p.1≠b
def Inv.Bo(I:Inv X pins σ H s)(a:s.heap.objs.size<=b)(hn:H' b=none):i8 X pins H' b:=by
 refine⟨hn,a0C (F5 I.lt a),I.DM a,.inr (F9 I.sz a),λx c e z=>?_,λp hp z=>?_⟩
 .obtain⟨v,q⟩:=I.cell x c e;exact absurd (F5 q.lt (by rw[z];exact a)) (S0 _)
 .exact absurd (F5 (E6 (I.pin p hp).1) (by rw[z];exact a)) (S0 _)
structure Turn(P:Ez)(w:EF)(K:EC)(tg:Ey)(J:It)(fp:Ff)(it:Addr)(tn:Nat->Heap->Prop):Prop where
 mem:it∈fp
 obj:∀i h,tn i h->∀b∈fp,∃o,h.get? b=some o/\∀v,o.data≠.cell v
 keep:∀i h h',tn i h->(∀b∈fp,∀o,h.get? b=some o->h'.get? b=some o)->tn i h'
 item:∀(X:Cx),X.prog=P->X.w=w->X.K=K->X.calm=true->∀(i:Nat)(pins:Ep)(s:Eu)(σ:St)(H:Hp)(E:En),Inv X pins σ H s->(∀b∈fp,i8 X pins H b)->tn i s.heap->J.go i H->
  wpAny (model P w) X.A (pyNext (.ref it)) (λr s1=>∃u,r=some u/\
   wpAny (model P w) X.A (letOwnedTupleGo tg (.ref it) u) (λ_ s2=>∃x H',Inv X pins σ H' s2/\RelV x u/\J.yld i H x H'/\tn (i+1) s2.heap/\∀b∈fp,H' b=none) E s1) E s
 done:∀(X:Cx),X.prog=P->X.w=w->X.K=K->X.calm=true->∀(i:Nat)(pins:Ep)(s:Eu)(σ:St)(H:Hp)(E:En),Inv X pins σ H s->(∀b∈fp,i8 X pins H b)->tn i s.heap->J.stop i H->
  wpAny (model P w) X.A (pyNext (.ref it)) (λr s1=>r=none/\Inv X pins σ H s1) E s
 self:∀(A:EK)(i:Nat)(s:Eu)(Q:En)(E:En),tn i s.heap->Q (.ref it) s->wpAny (model P w) A (pyIter (.ref it)) Q E s
abbrev TI:=St->Hp->(It->Hp->Prop)->Prop
def PIE(X:Cx)(a:Ep)(h:St)(i:Ey)(R:It->Hp->Prop)(c:Value)(s2:Eu):Prop:=
 ∃(f:Addr)(g:Ff)(e:Nat->Heap->Prop)(J:It)(d:Hp),c=.ref f/\Inv X a h d s2/\Turn X.prog X.w X.K i J g f e/\e 0 s2.heap/\(∀b∈g,i8 X a d b)/\R J d
def PI(X:Cx)(f b:Ey)(d:TI):Prop:=
 ∀(a:Ep)(s:Eu)(c:St)(H:Hp)(R:It->Hp->Prop),Inv X a c H s->d c H R->
  wpAny (FK X) X.A (eval b X.env) (λv e=>wpAny (FK X) X.A (pyIter v) (PIE X a c f R) X.xe e) X.xe s
def lE(c:s.heap.get? it=some o)(d:o.cls=.type n)(b:o.data=.fields vs)
    (hn:["enumerate","zip","dict_itemiterator","dict_reverseitemiterator","odict_iterator","itertools.zip_longest","itertools.pairwise"].contains n=false) (a:Q () s):wpAny M A (letOwnedTupleGo tg (.ref it) u) Q E s:=by
  unfold letOwnedTupleGo;cases tg<;>first
    |exact E2 a
    | (cases u<;>first
        |exact E2 a
        | (refine f8 (a2P c ?_)
           rw[d,b];show wpAny M A (if(["enumerate","zip","dict_itemiterator","dict_reverseitemiterator","odict_iterator","itertools.zip_longest","itertools.pairwise"].contains n&&vs[0]?==some (rawInt _))=true then _ else _) Q E s;rw[if_neg (by intro h;rw[hn,a2C]at h;cases h)];exact E2 a))
def Itl(K:EC)(a:Addr):It:=
 ⟨λi H=>∃b x,SqL K H a b/\b[i]?=some x,λi H x c=>c=H/\∀b,SqL K H a b->b[i]?=some x,λi H=>∃b,SqL K H a b/\b.length<=i⟩
def Itt(K:EC)(a:Addr):It:=
 ⟨λi H=>∃b x,SqT K H a b/\b[i]?=some x,λi H x c=>c=H/\∀b,SqT K H a b->b[i]?=some x,λi H=>∃b,SqT K H a b/\b.length<=i⟩
def Itr(b:Int)(n:Nat):It:=⟨λi _=>i<n,λi H x a=>a=H/\x=.int (b+i),λi _=>n<=i⟩
def eV{P:Ez}{w:EF}{K:EC}{U:Ey}(a g:Addr):Turn P w K U (Itl K a) [g] g (λi h=>h.IsListIter g a i)where
 mem:=by simp
 obj:=λi h st b j=>by
  have e:b=g:=by simpa using j
  subst e;obtain⟨o,e,c,d⟩:=st;exact⟨o,e,λv z=>by rw[d]at z;cases z⟩
 keep:=λi h m st k=>st.at λo e=>k g (by simp) o e
 item:=by intro X hP J A M i f s L H E I hf st r;subst hP J A;obtain⟨W,x,n,F⟩:=r;obtain⟨G,D,p,hz⟩:=I.list n;obtain⟨u,T,N⟩:=D.get F;obtain⟨q,C,S,y,t,B⟩:=hf g (by simp);refine a2n st p.isList (x:=u) (by simpa using T) λm l O=>?_;have Q:Inv X f L H { s with heap:=m }:=I.turned (t':=s.toks) (λb o j e=>(O.2 b j).trans e) q C y t B;obtain⟨o,e,c,d⟩:=id l;exact⟨u,rfl,lE (s:={ s with heap:=m }) e c d (by decide) ⟨x,H,Q,N,⟨rfl,λys Y=>by rw[I.lB Y n];exact F⟩,l,λb j=>(hf b j).1⟩⟩
 done:=by intro X hP J A M i f s L H E I hf st r;subst hP J A;obtain⟨W,n,F⟩:=r;obtain⟨G,D,p,hz⟩:=I.list n;obtain⟨q,C,S,y,t,B⟩:=hf g (by simp);have Z:=D.length;exact a2D (I.ok.hd M) st p.isList (by simp;omega) λm R=>⟨rfl,I.turned (t':=s.toks) (λb o j e=>R b o j e) q C y t B⟩
 self:=λ_ _ _ _ _ st h=>wpAny_pyIter_listiter st h
def dF{P:Ez}{w:EF}{K:EC}{U:Ey}(a g:Addr):Turn P w K U (Itt K a) [g] g (λi h=>h.IsTupleIter g a i)where
 mem:=by simp
 obj:=λi h st b j=>by
  have e:b=g:=by simpa using j
  subst e;obtain⟨o,e,c,d⟩:=st;exact⟨o,e,λv z=>by rw[d]at z;cases z⟩
 keep:=λi h n st k=>st.at λo e=>k g (by simp) o e
 item:=by intro X hP J B M i f s L H E I hf st t;subst hP J B;obtain⟨W,x,q,G⟩:=t;obtain⟨l,F,p,hz⟩:=I.tuple q;obtain⟨u,T,N⟩:=F.get G;obtain⟨r,D,S,A,y,C⟩:=hf g (by simp);refine wpAny_pyNext_tuple_item st (show s.heap.IsTuple a l.toArray from p) (x:=u) (by simpa using T) λn m O=>?_;have Q:Inv X f L H { s with heap:=n }:=I.turned (t':=s.toks) (λb o j e=>(O.2 b j).trans e) r D A y C;obtain⟨o,e,c,d⟩:=id m;exact⟨u,rfl,lE (s:={ s with heap:=n }) e c d (by decide) ⟨x,H,Q,N,⟨rfl,λys Y=>by rw[I.XU Y q];exact G⟩,m,λb j=>(hf b j).1⟩⟩
 done:=by intro X hP J B M i f s L H E I hf st t;subst hP J B;obtain⟨W,q,G⟩:=t;obtain⟨l,F,p,hz⟩:=I.tuple q;obtain⟨r,D,S,A,y,C⟩:=hf g (by simp);have Z:=F.length;exact wpAny_pyNext_tuple_end (I.ok.hd M) st (show s.heap.IsTuple a l.toArray from p) (by simp;omega) λn R=>⟨rfl,I.turned (t':=s.toks) (λb o j e=>R b o j e) r D A y C⟩
 self:=λ_ _ _ _ _ st h=>wpAny_pyIter_tupleiter st h
def dG{P:Ez}{w:EF}{K:EC}{N:Ey}(a:Addr)(j:Int)(n:Nat):Turn P w K N (Itr j n) [a] a (λi h=>IsRangeIter h a (j+(i:Nat)*1) ((n:Int)-(i:Nat)) 1)where
 mem:=by simp
 obj:=λi h st b d=>by
  have e:b=a:=by simpa using d
  subst e;exact⟨_,st,λv z=>by
   have G:Data.fields _=Data.cell v:=z;cases G⟩
 keep:=λi h g st k=>k a (by simp) _ st
 item:=by
  intro X hP A r u i c s B H E I hf st m;subst hP A r;obtain⟨l,y,M,q,p,x⟩:=hf a (by simp);have W:=Walks.range (prog:=X.prog) (w:=X.w) (I.ok.hd u) a j 1 n;refine O1 (n:=X.m) I.tk<|W.item i s _ _ m st λv g C F f D hn=>?_
  obtain⟨t,rfl⟩:=F;have J:Inv X c B H { s with heap:=g,toks:=C }:=I.turned (λb o d e=>D b o (by simpa using d) e) l y q p x;refine⟨_,rfl,lE (s:={ s with heap:=g,toks:=C }) (n:="range_iterator") f rfl rfl (by decide) ⟨.int (j+i),H,J,⟨t,?_⟩,⟨rfl,rfl⟩,f,λb d=>(hf b d).1⟩⟩;rw[Int.mul_one]
 done:=by intro X hP A r u i c s B H E I hf st m;subst hP A r;obtain⟨l,y,M,q,p,x⟩:=hf a (by simp);exact wpAny_pyNext_range_end (I.ok.hd u) st (by have:n<=i:=m;omega) λg L=>⟨rfl,I.turned (t':=s.toks) (λb o d e=>L b o d e) l y q p x⟩
 self:=λ_ _ _ _ _ st h=>wpAny_pyIter_rangeiter st h
section
variable {X:Cx}{tg:Ey}
def lF{d:Ep}{f:St}{H:Hp}{s:Eu}{R:It->Hp->Prop}{E:En}{a c:Int}{t u v:Tok}{tk:Nat}(I:Inv X d f H s)(n:-(2 ^ 62)<=a)(l:a<2 ^ 62)(m:-(2 ^ 62)<=c)(j:c<2 ^ 62)
  (q:R (Itr a (c-a).toNat) H) (r:X.m<=tk:=by ac_rfl):wpAny (FK X) X.A (pyIter (.ref s.heap.objs.size)) (PIE X d f tg R) E { s with heap:=s.heap.push { cls:=.type "range",data:=.fields #[.int a t,.int c u,.int 1 v] },toks:=tk }:=by
 refine wpAny_pyIter_range (IsRange.new ..) (small_one n l m j) ?_;have g:Inv X d f H { s with heap:=s.heap.push { cls:=.type "range",data:=.fields #[.int a t,.int c u,.int 1 v] },toks:=tk }:=I.kept λb o e=>v4 _ e;refine⟨(s.heap.push { cls:=.type "range",data:=.fields #[.int a t,.int c u,.int 1 v] }).objs.size,[(s.heap.push { cls:=.type "range",data:=.fields #[.int a t,.int c u,.int 1 v] }).objs.size],_,_,H,rfl,
  g.kept (t':=tk) λb o e=>v4 _ e,dG _ a (c-a).toNat,?_,λb h=>?_,q⟩
 .have i:a+((0:Nat):Int)*1=a:=by simp
  have p:(((c-a).toNat:Nat):Int)-((0:Nat):Int)=Builtin.Range.rangeSize a c 1:=by rw[rangeSize_one];split<;>omega
  show IsRangeIter _ _ (a+((0:Nat):Int)*1) ((((c-a).toNat:Nat):Int)-((0:Nat):Int)) 1;rw[i,p];exact G5 _ rfl
 .have e:b=(s.heap.push { cls:=.type "range",data:=.fields #[.int a t,.int c u,.int 1 v] }).objs.size:=by simpa using h
  subst e;exact g.Bo (E5 _) (g.hok.fresh (E5 _))
def BR(b:TA):TI:=λa H R=>b a H λd c=>∃j:Int,d=[.int j]/\-(2 ^ 62)<=j/\j<2 ^ 62/\R (Itr 0 j.toNat) c
def eW(i:Gl X "range")(u:X.mg "range"=none)(o:PA X [a] ta)(f:starEach [a] X.env=[(false,eval a X.env)]:=by rfl):PI X tg (.Call (.Name "range" p) [a] [] pos) (BR ta):=by
 intro b s d H R I h;refine Call_ (V7 I i u boot_range (a0S (thn (o pos b s d H _ I h) λv w ⟨y,x,m,n,c⟩=>?_) f rfl));obtain⟨j,e,c,g,q⟩:=c;subst e;cases n with
 |cons r l=>cases l;obtain⟨t,rfl⟩:=r;exact call_range_1 (lF m (by omega) (by omega) c g (by simpa using q))
def om(f:TI)(g:TG)(l:TS):TS:=λD a H=>f a H λJ j=>∃W:Nat->Nat->St->Hp->Prop,(∃m,W 0 m a j)/\∀i m a H,W i m a H->
 (J.stop i H/\D.nx a H)\/(J.go i H/\∃N:St->Hp->Prop,(∀c b,N c b->∃e,e<m/\W (i+1) e c b)/\∀x b,J.yld i H x b->g x a b λd h=>l { D with nx:=N,ct:=N,bk:=D.nx } d h)
def XW(a:Ff)(h:Heap):List (Addr×Obj):=a.filterMap λb=>(h.get? b).map λo=>(b,o)
def Zx(a:b∈fp)(e:h.get? b=some o):(b,o)∈XW fp h:=S7.mpr ⟨b,a,by rw[e];rfl⟩
def eX(hp:p∈XW fp h):p.1∈fp/\h.get? p.1=some p.2:=by
 obtain⟨b,a,e⟩:=S7.mp hp;cases q:h.get? b with
 |none=>rw[q]at e;cases e
 |some o=>rw[q]at e;have c:(b,o)=p:=L5 e;subst c;exact⟨a,q⟩
def Inv.pinned(I:Inv X pins σ H s)(hf:∀b∈fp,i8 X pins H b)(f:∀b∈fp,∃o,s.heap.get? b=some o/\∀v,o.data≠.cell v):Inv X (pins++XW fp s.heap) σ H s:=
 I.aa λp hp=>(N3.mp hp).elim (λz=>I.pin p (M4 _ z)) λz=>by obtain⟨a,e⟩:=eX z;obtain⟨i,h,g,_⟩:=hf p.1 a;obtain⟨o,c,d⟩:=f p.1 a;rw[e]at c;cases c;exact⟨e,i,h,g,d⟩
def Inv.J3(I:Inv X (pins++pl) σ H s):Inv X pins σ H s:=I.aa λp hp=>I.pin p (M4 _ (a0a _ hp))
def Kn(hp:PassesOwn (FK X) X.A X.env X.xe)(Z:X.calm=true)(hi:PI X tg iter wi)(hg:PG X tg g)(y:PSs X body tb)
  (hs:∀x,foldedSetIterable iter X.env x=pure x:=by intro _;rfl):PS X (.For tg iter body [] pos) (om wi g tb):=by
 intro c s σ H D I h;refine wpAny_For (thn (hi c s σ H _ I h) λv s1 h1=>thn h1 λitv s2 h2=>?_) hs;obtain⟨it,L,tn,J,H2,e,I2,T,O,f2,W,⟨m0,w0⟩,E⟩:=h2;subst e
 -- what stays true of the iterator's objects through the loop
 have q:∀{z:Hp},(∀b∈L,z b=none)->∀b∈L,i8 X c z b:=λhn b y=>⟨hn b y,(f2 b y).2⟩;refine codeAny_forLoop_any (λn Y=>∃i t z,Inv X c t z Y/\tn i Y.heap/\(∀b∈L,z b=none)/\W i n t z) ?_ m0 ⟨0,σ,H2,I2,O,λb y=>(f2 b y).1,w0⟩
 rintro n s3 ⟨i,w,M,I3,F,G,w3⟩
 rcases E i n w M w3 with⟨C,qn⟩|⟨go,N,hN,step⟩
 .refine a0p hp (thn (T.done X rfl rfl rfl Z i c s3 w M X.xe I3 (q G) F C) λr s4 ⟨P,I4⟩=>?_);subst P;exact a0Y ⟨w,M,I4,qn⟩
 .refine a0p hp (thn (T.item X rfl rfl rfl Z i c s3 w M X.xe I3 (q G) F go) λr s4 ⟨u,P,h4⟩=>?_);subst P;refine a0p hp (thn h4 λ_ s5 ⟨x,H5,I5,r5,y5,B,R⟩=>?_);have S:=I5.pinned (q R) (T.obj _ _ B);refine a0p hp (thn (hg _ s5 w H5 x u _ S r5 (step x H5 y5)) λ_ s6 ⟨U,H6,I6,q6⟩=>?_);refine a0p hp (thn (y _ s6 U H6 _ I6 q6) λf Q A=>?_);have j:∀{a:St}{p:Hp},Inv X (c++XW L s5.heap) a p Q->N a p->∃m,m<n/\∃i t z,Inv X c t z Q/\tn i Q.heap/\(∀b∈L,z b=none)/\W i m t z:=λ{a p} l K=>by obtain⟨m',hm,w7⟩:=hN a p K;refine⟨m',hm,i+1,a,p,l.J3,T.keep _ _ _ B λb y o e=>(l.pin (b,o) (M4 _ (M4 _ (Zx y e)))).1,λb y=>?_,w7⟩;obtain⟨o,e,d⟩:=T.obj _ _ B b y;exact(l.pin (b,o) (M4 _ (M4 _ (Zx y e)))).2.1
  cases f with
  |next=>obtain⟨a,p,l,K⟩:=A;exact j l K
  |cont=>obtain⟨a,p,l,K⟩:=A;exact j l K
  |brk=>obtain⟨a,p,l,A⟩:=A;exact⟨a,p,l.J3,A⟩
  |ret v=>obtain⟨x7,a,p,l,r7,A⟩:=A;exact⟨x7,a,p,l.J3,r7,A⟩
end
abbrev R2:=V->V->Hp->VK->Prop
def OpR(X:Cx)(f:Value->Value->Sem Value)(r:R2):Prop:=
 ∀(a:Ep)(s:Eu)(b:St)(H:Hp)(x y:V)(v u:Value)(Q:VK),Inv X a b H s->RelV x v->RelV y u->r x y H Q->
  wpAny (FK X) X.A (f v u) (EP X a b Q) X.xe s
def UnR(X:Cx)(f:Value->Sem Value)(r:V->Hp->VK->Prop):Prop:=
 ∀(a:Ep)(s:Eu)(b:St)(H:Hp)(x:V)(v:Value)(Q:VK),Inv X a b H s->RelV x v->r x H Q->
  wpAny (FK X) X.A (f v) (EP X a b Q) X.xe s
def vz(X:Cx)(f:Value)(r:List V->Hp->VK->Prop):Prop:=
 ∀(a:Ep)(s:Eu)(b:St)(H:Hp)(c:EH)(d:EE)(Q:VK),Inv X a b H s->Vals c d->r c H Q->
  wpAny (FK X) X.A (call f d) (EP X a b Q) X.xe s
def tOp(r:R2)(b e:TE):TE:=λa H Q=>b a H λx d=>e a d λy c=>r x y c Q
def tUn(r:V->Hp->VK->Prop)(b:TE):TE:=λa H Q=>b a H λx c=>r x c Q
def rI(C:Int->Int->Prop)(g:Int->Int->V):R2:=λx y H Q=>∃i j,x=.int i/\y=.int j/\C i j/\Q (g i j) H
def rI0(g:Int->Int->V):R2:=λx y H Q=>∃i j,x=.int i/\y=.int j/\Q (g i j) H
def rU(g:Int->V):V->Hp->VK->Prop:=λx H Q=>∃i,x=.int i/\Q (g i) H
section
variable {X:Cx}{a b:Ey}{ta tb:TE}{pos:Pos}
def BS(w:PE X a ta)(z:PE X b tb){d:Ep}{s:Eu}{e:St}{H:Hp}{R:V->V->Hp->Prop}(I:Inv X d e H s)
  (h:ta e H λx l=>tb e l λy g=>R x y g) {Q:En}{f:Value->Value->Sem Value}
  (hf:∀v u s2 x y g,Inv X d e g s2->RelV x v->RelV y u->R x y g->wpAny (FK X) X.A (f v u) Q X.xe s2):
  wpAny (FK X) X.A (eval a X.env) (λv j=>wpAny (FK X) X.A (eval b X.env) (λu i=>wpAny (FK X) X.A (f v u) Q X.xe i) X.xe j) X.xe s:=by
 refine thn (w d s e H _ I h) λv p ⟨x,l,r,t,o⟩=>?_;refine thn (z d p e l _ r o) λu s2 ⟨y,g,q,m,n⟩=>?_;exact hf v u s2 x y g q t m n
def BU(g:OpR X (binaryOp op) r)(m:PE X a ta)(n:PE X b tb):PE X (.BinOp a op b pos) (tOp r ta tb):=by intro d s e H Q I h;exact wpAny_BinOp (BS m n I h λv u s2 x y l i f j q=>g d s2 e l x y v u Q i f j q)
def BV(f:UnR X (unaryOp op) r)(n:PE X a ta):PE X (.UnaryOp op a pos) (tUn r ta):=by intro d s e H Q I h;exact UnaryOp_ (thn (n d s e H _ I h) λv i ⟨x,j,l,m,g⟩=>f d i e j x v Q l m g)
def opI{f:Value->Value->Sem Value}{C:Int->Int->Prop}{g:FC}
  (d:∀(i j:Int)(t u:Tok)(s:Eu)(Q:En)(E:En),C i j->Q (.int (g i j) s.toks) { s with toks:=s.toks+1 }->wpAny (FK X) X.A (f (.int i t) (.int j u)) Q E s):
  OpR X f (rI C λi j=>.int (g i j)):=by
 intro e s p H x y v u Q I l m h;obtain⟨i,j,rfl,rfl,n,q⟩:=h;obtain⟨t,rfl⟩:=l;obtain⟨o,rfl⟩:=m;exact d i j t o s _ _ n ⟨.int (g i j),H,I.tok _,⟨_,rfl⟩,q⟩
def C9{f:Value->Value->Sem Value}{g:FC}
  (d:∀(i j:Int)(t u:Tok)(s:Eu)(Q:En)(E:En),Q (.int (g i j) s.toks) { s with toks:=s.toks+1 }->wpAny (FK X) X.A (f (.int i t) (.int j u)) Q E s):
  OpR X f (rI0 λi j=>.int (g i j)):=by
 intro e s o H x y v u Q I l m h;obtain⟨i,j,rfl,rfl,q⟩:=h;obtain⟨t,rfl⟩:=l;obtain⟨n,rfl⟩:=m;exact d i j t n s _ _ ⟨.int (g i j),H,I.tok _,⟨_,rfl⟩,q⟩
def C_{f:Value->Value->Sem Value}{g:Int->Int->Bool}
  (d:∀(i j:Int)(t u:Tok)(s:Eu)(Q:En)(E:En),Q (.bool (g i j)) s->wpAny (FK X) X.A (f (.int i t) (.int j u)) Q E s):
  OpR X f (rI0 λi j=>.bl (g i j)):=by
 intro e s o H x y v u Q I l m h;obtain⟨i,j,rfl,rfl,q⟩:=h;obtain⟨t,rfl⟩:=l;obtain⟨n,rfl⟩:=m;exact d i j t n s _ _ ⟨.bl (g i j),H,I,rfl,q⟩
def uA(i j:Int):Prop:=0<j/\j<1073741824
def uB(i j:Int):Prop:=0<=j/\j<=1000000/\i.natAbs<2 ^ 64
def oq(i j:Int):Prop:=(-(2 ^ 64)<i/\i<2 ^ 64)\/(-(2 ^ 64)<j/\j<2 ^ 64)
def oq.ok(h:oq i j):IntMulOk i j:=by
 rcases h with⟨d,e⟩|⟨d,e⟩
 .exact .of_left (intBits_le_64 d e)
 .exact .of_right (intBits_le_64 d e)
def uY:OpR X (binaryOp .Add) (rI0 λi j=>.int (i+j)):=C9 λ_ _ _ _ _ _ _ q=>add_int q
def YK:OpR X (binaryOp .Sub) (rI0 λi j=>.int (i-j)):=C9 λ_ _ _ _ _ _ _ q=>sub_int q
def uZ:OpR X (binaryOp .Mult) (rI oq λi j=>.int (i*j)):=opI λ_ _ _ _ _ _ _ d q=>mul_int q d.ok
def ro:OpR X (binaryOp .FloorDiv) (rI uA λi j=>.int (i / j)):=opI λi j _ _ _ _ _ d q=>by have f:(0:Int)<j:=d.1;have e:j<1073741824:=d.2;exact floordiv_int (by omega) (by rw[Int.fdiv_eq_ediv_of_nonneg i (by omega)];exact q) (.inl (PyProof.noPylong_small (by omega)))
def u5:OpR X (binaryOp .Mod) (rI (λ_ j=>0<j) λi j=>.int (i % j)):=opI λi j _ _ _ _ _ d q=>by have e:(0:Int)<j:=d;exact mod_int' (by omega) (by rw[Int.fmod_eq_emod_of_nonneg i (by omega)];exact q)
def rq:OpR X (binaryOp .Mod) (rI (λ_ j=>j≠0) λi j=>.int (i.fmod j)):=opI λ_ _ _ _ _ _ _ d q=>mod_int' d q
def eY:OpR X (binaryOp .Pow) (rI uB λi j=>.int (i ^ j.toNat)):=opI λ_ _ _ _ _ _ _ d q=>pow_int_small d.1 d.2.1 d.2.2 q
def unI{f:Value->Sem Value}{g:Int->Int}
  (d:∀(i:Int)(t:Tok)(s:Eu)(Q:En)(E:En),Q (.int (g i) s.toks) { s with toks:=s.toks+1 }->wpAny (FK X) X.A (f (.int i t)) Q E s):
  UnR X f (rU λi=>.int (g i)):=by
 intro e s l H x v Q I j h;obtain⟨i,rfl,q⟩:=h;obtain⟨t,rfl⟩:=j;exact d i t s _ _ ⟨.int (g i),H,I.tok _,⟨_,rfl⟩,q⟩
def ot:UnR X (unaryOp .USub) (rU λi=>.int (-i)):=unI λ_ _ _ _ _ q=>neg_int q
end
section
variable {X:Cx}{a b c:Ey}{ta tb:TE}{pos:Pos}
def eZ(I:Inv X pins σ H s)(q:Q (.bl k) H)(e:k=k'):EP X pins σ Q (.bool k') s:=by subst e;exact⟨.bl k,H,I,rfl,q⟩
def rA:OpR X (compareOp .Lt) (rI0 λi j=>.bl (decide (i<j))):=C_ λ_ _ _ _ _ _ _ q=>lt_int q
def VQ:OpR X (compareOp .Gt) (rI0 λi j=>.bl (decide (j<i))):=C_ λ_ _ _ _ _ _ _ q=>gt_int q
def e7:OpR X (compareOp .In) (λx y H Q=>∃i j,x=.str i/\y=.str j/\Q (.bl (!(Builtin.Str.occurrences j i 0 j.length 1).isEmpty)) H):=by intro d s g H x y v u Q I e f h;obtain⟨i,j,rfl,rfl,q⟩:=h;obtain⟨t,rfl⟩:=e;obtain⟨l,rfl⟩:=f;exact in_str (eZ I q rfl)
def V8:OpR X (compareOp .Is) (λx y H Q=>y=.non/\Q (.bl (decide (x=.non))) H):=by
 intro e s g H x y v u Q I d f h;obtain⟨rfl,q⟩:=h;cases f;refine is_none_gen (eZ I q ?_);cases x<;>first
  | (cases d;rfl)
  | (obtain⟨t,rfl⟩:=d;rfl)
def ah:OpR X (compareOp .IsNot) (λx y H Q=>y=.non/\Q (.bl (!decide (x=.non))) H):=by
 intro e s g H x y v u Q I d f h;obtain⟨rfl,q⟩:=h;cases f;refine isnot_none_gen (eZ I q ?_);cases x<;>first
  | (cases d;rfl)
  | (obtain⟨t,rfl⟩:=d;rfl)
def OpR.or(h:OpR X f r)(h':OpR X f r'):OpR X f (λx y H Q=>r x y H Q\/r' x y H Q):=by
 intro d s e H x y v u Q I g i q;rcases q with q|q
 .exact h d s e H x y v u Q I g i q
 .exact h' d s e H x y v u Q I g i q
def ql(b:Ey)(h:op≠.In:=by decide)(d:op≠.NotIn:=by decide):behindInMarks op b=false:=by
 have e:(op==CmpOp.In)=false:=by cases op<;>first|rfl|exact absurd rfl h
 have f:(op==CmpOp.NotIn)=false:=by cases op<;>first|rfl|exact absurd rfl d
 cases b<;>simp[behindInMarks,e,f]
def ai(g:OpR X (compareOp op) r)(m:PE X a ta)(n:PE X b tb)(o:behindInMarks op b=false):PE X (.Compare a [op] [b] pos) (tOp r ta tb):=by intro d s e H Q I h;exact wpAny_Compare1 (BS m n I h λv u s2 x y l i f j q=>g d s2 e l x y v u Q i f j q) o
def rB(t:TE):TT:=λd H Q=>t d H λx e=>∃k,x=.bl k/\Q k e
def rC(l:OpR X (compareOp op) r)(A:PE X a ta)(B:PE X b tb)(F:behindInMarks op b=false):PT X (.Compare a [op] [b] pos) (rB (tOp r ta tb)):=by
 intro d s f H Q I h;refine a2E (thn (A d s f H _ I h) λv n ⟨x,w,p,q,m⟩=>thn (B d n f w _ p m) λu s2 ⟨y,t,o,g,i⟩=>
  thn (l d s2 f t x y v u _ o q g i) λc G ⟨z,D,C,E,k,e,j⟩=>?_) F
 subst e;cases E;exact a0u ⟨D,C,j⟩
def bM:(sizeLine:Nat)<2 ^ 63:=by rw[a0N];decide
def dH:OpR X (binaryOp .Add) (λx y H Q=>∃i j,x=.str i/\y=.str j/\i.length+j.length<=sizeLine/\Q (.str (i++j)) H):=by intro pins s σ H x y v u Q I rx ry h;obtain⟨i,j,rfl,rfl,hz,q⟩:=h;obtain⟨t,rfl⟩:=rx;obtain⟨t',rfl⟩:=ry;exact O1 (n:=X.m) I.tk<|add_str (λt' tk hn=>⟨.str (i++j),H,I.tok _ hn,⟨_,rfl⟩,q⟩) hz
def vals1(r:Vals [x] us):∃u,us=[u]/\RelV x u:=by
 cases r with
 |cons d e=>cases e;exact⟨_,rfl,d⟩
def vals2(r:Vals [x,y] us):∃u d,us=[u,d]/\RelV x u/\RelV y d:=by
 cases r with
 |cons h f=>
  cases f with
  |cons g e=>cases e;exact⟨_,_,rfl,h,g⟩
def Dc(K:EC)(x:V)(H:Hp)(n:Nat):Prop:=
 match x with
 |.str y=>y.length<=sizeLine/\n=y.length
 |.byt y=>y.size<=sizeLine/\n=y.size
 |.ref p=>(∃d,SqL K H p d/\n=d.length)\/∃d,SqT K H p d/\n=d.length
 |_=>False
def lG:vz X (.builtin "len") (λd H Q=>∃x n,d=[x]/\Dc X.K x H n/\Q (.int n) H):=by
 intro v s z H d B Q I r h;obtain⟨x,n,rfl,e,q⟩:=h;obtain⟨u,rfl,i⟩:=vals1 r;have C:=bM;have A:sizeLine=16777216:=a0N;cases x with
 |str y=>obtain⟨t,rfl⟩:=i;obtain⟨w,g⟩:y.length<=sizeLine/\n=y.length:=e;subst g;exact len_str (by omega) ⟨.int _,H,I.tok _,⟨_,rfl⟩,q⟩
 |byt y=>obtain⟨t,rfl⟩:=i;obtain⟨w,g⟩:y.size<=sizeLine/\n=y.size:=e;subst g;exact PySem.W.len_bytes (by omega) ⟨.int _,H,I.tok _,⟨_,rfl⟩,q⟩
 |ref p=>
  cases i;have g:(∃d,SqL X.K H p d/\n=d.length)\/∃d,SqT X.K H p d/\n=d.length:=e;rcases g with⟨d,m,g⟩|⟨d,m,g⟩
  .subst g;obtain⟨o,j,l,hz⟩:=I.list m;have f:=j.length;exact Calls.call_len_list l.isList (by simp only[List.size_toArray];omega) ⟨.int d.length,H,I.tok _,⟨_,by simp only[List.size_toArray];rw[f]⟩,q⟩
  .subst g;obtain⟨o,j,l,hz⟩:=I.tuple m;have f:=j.length;exact len_tuple l (by simp only[List.size_toArray];omega) ⟨.int d.length,H,I.tok _,⟨_,by simp only[List.size_toArray];rw[f]⟩,q⟩
 |_=>exact(show False from e).elim
end
structure uC(h:Heap)(x dx C:Addr)(mA:Er):Prop where
 obj:h.get? x=some (PySem.W.instObj C dx)
 ns:h.Ns1 dx mA
 ne:dx≠x
def Ko{h:Heap}{f:Addr}{i:Er}(n:h.Ns1 f i):∃d,h.get? f=some d/\∀b,PySem.W.lookIn b d=some (i b):=by
 obtain⟨o,g,u,j,l,m,_,s⟩:=n;refine⟨o,j,λb=>?_⟩;have e:=s b;unfold nsFind findBy at e;rw[<- a25]at e;unfold PySem.W.lookIn;rw[l];dsimp only;split
 .rename_i y q;rw[q]at e;exact G8 some e
 .rename_i q;rw[q]at e;have a:g.toList.any (·.refKey)=false:=by rw[List.any_eq_false];intro y r;obtain⟨z,t,c⟩:=m y (a2Q.mp r);simp[DictEntry.refKey,c]
  have p:¬g.toList.any (·.refKey)=true:=by rw[a];exact F6
  rw[if_neg p];exact G8 some e
def uC.look(I:uC h x dx C mA):∃b,PySem.W.InstAt h x (PySem.W.instObj C dx) C (some b)/\∀a,PySem.W.lookIn a b=some (mA a):=
 let⟨b,ho,hl⟩:=Ko I.ns
 ⟨b,⟨I.obj,rfl,rfl,ho⟩,hl⟩
section
variable {prog:Ez}{w:EF}{A:EK}{E:En}{s:Eu}{K:EC}{x dx C f:Addr}{mA:Er}{name:Str}{v:Value}
def get_map(X:K.In s.heap)(I:uC s.heap x dx C mA)(g:PySem.W.plainGet K C name=true)(d:PySem.W.hasDictIn K C=true)
  (e:PySem.W.findIn K (.ref C) name=some none) (c:mA name=some v) (a:PySem.W.handedIn v=true) (h:Q v { s with toks:=s.toks+1 }):
  wpAny (model prog w) A (getAttr (.ref x) name expr) Q E s:=by
 obtain⟨i,J,b⟩:=I.look;exact PySem.W.get_value X J (PySem.W.plainGet_of g).1 (PySem.W.findObj_own d e rfl (by rw[b,c])) a h
def rD(X:K.In s.heap)(I:uC s.heap x dx C mA)
  (m:PySem.W.findIn K (.ref C) "__setattr__"=some (some (.builtin "object.__setattr__"))) (hp:PySem.W.plainOver K C=true) (t:PySem.W.takerIn K C name=some none) (o:PySem.W.hasDictIn K C=true)
  (z:PySem.Within mA ns) (hsz:ns.length<=sizeLine)
  (h:∀e,uC e x dx C (λy=>if y=name then some v else mA y)->Heap.SameBut dx s.heap e->Q () { s with heap:=e,toks:=s.toks+2 }):
  wpAny (model prog w) A (setAttr (.ref x) name v) Q E s:=by
 obtain⟨B,J,F⟩:=I.look;refine PySem.W.set_plain X J m (PySem.W.osa_open (s:={ s with toks:=s.toks+1 }) (r:=none) X J hp t λb=>?_);obtain⟨cd,q,l⟩:=PySem.W.any_some o;have u:s.heap.get? x=some ⟨.ref C,some dx,.plain,#[]⟩:=I.obj;refine f8 (E2 (f8 (f8 (a08 u (f8 (PySem.W.Looks.here (s:={ s with toks:=s.toks+1 }) (PySem.W.looks_clsIn X q) ?_))))));rw[l];refine E2 (a:=some dx) (f8 (E2 (f8 ?_)));refine a26 (s:={ s with toks:=s.toks+1 }) I.ns λe c d=>?_;obtain⟨D,p,n,j,i,g⟩:=c.count (a1F name v z);refine f8 (a1N j (by rw[i];exact a1O (F9 g (by rw[E4];omega))) ?_);exact E2 (h _ ⟨(d.2 _ (Ne.symm I.ne)).trans I.obj,c,I.ne⟩ d)
def lH(X:K.In s.heap)(c:PySem.W.makesIn K C=true)
  (b:PySem.W.findIn K (.ref C) "__init__"=some (some (.ref f))) (hf:PySem.W.typeIn K (.ref f)=some (.type "function"))
  (h:codeAny (model prog w) (A.under (.builtin "type.__call__" ⟨.ref C::vs,kw⟩)) (.call (.ref f) ⟨.ref (s.heap.objs.size+1)::vs,kw⟩) (PySem.W.InitBack (s.heap.objs.size+1) R)
   { s with heap:=(s.heap.push PySem.W.emptyDict).push (PySem.W.instObj C s.heap.objs.size) }):
  codeAny (model prog w) A (.call (.ref C) ⟨vs,kw⟩) R s:=by
 obtain⟨i,g,d,t,e⟩:=s;exact PySem.W.make_core (PySem.W.makes_of X c) (PySem.W.looks_findIn X b) (λa=>PySem.W.bind_fn X a hf) (.inl rfl) h
end
def J4(f:Str)(v:V):List (Str×V)->List (Str×V)
 |[]=>[(f,v)]
 | (g,x)::r=>if g=f then(g,v)::r else(g,x)::J4 f v r
theorem Yj(f g:Str)(v:V):∀fs:List (Str×V),(J4 f v fs).lookup g=if g=f then some v else fs.lookup g
 |[]=>by
  show List.lookup g [(f,v)]=_;by_cases h:g=f
  .have a:(g==f)=true:=N6.mpr h;simp only[List.lookup,a,if_pos h]
  .have a:(g==f)=false:=T5.mpr h;simp only[List.lookup,a,if_neg h]
 | (k,x)::r=>by
  have c:=Yj f g v r;rw[show J4 f v ((k,x)::r)=(if k=f then(k,v)::r else(k,x)::J4 f v r)from rfl];by_cases b:k=f
  .rw[if_pos b];by_cases h:g=k
   .have a:(g==k)=true:=N6.mpr h;simp only[List.lookup,a,if_pos (h.trans b)]
   .have a:(g==k)=false:=T5.mpr h;simp only[List.lookup,a,if_neg (λe:g=f=>h (e.trans b.symm))]
  .rw[if_neg b];by_cases h:g=k
   .have a:(g==k)=true:=N6.mpr h;simp only[List.lookup,a,if_neg (λe:g=f=>b (h.symm.trans e))]
   .have a:(g==k)=false:=T5.mpr h;simp only[List.lookup,a];exact c
theorem wK(f:Str)(v:V):∀fs:List (Str×V),f∈(J4 f v fs).map (·.1)/\∀g,g∈fs.map (·.1)->g∈(J4 f v fs).map (·.1)
 |[]=>⟨by simp[J4],λg h=>by simp at h⟩
 | (k,x)::r=>by
  obtain⟨c,b⟩:=wK f v r;rw[show J4 f v ((k,x)::r)=(if k=f then(k,v)::r else(k,x)::J4 f v r)from rfl];by_cases a:k=f
  .rw[if_pos a];subst a;exact⟨by simp,λg h=>by simpa using h⟩
  .rw[if_neg a];refine⟨?_,λg h=>?_⟩
   .rw[F3];exact E3 _ c
   .rw[F3]at h ⊢;rcases F0.mp h with e|e
    .exact F0.mpr (.inl e)
    .exact E3 _ (b g e)
theorem Yk(f:Str)(v:V):∀fs:List (Str×V),(J4 f v fs).length<=fs.length+1
 |[]=>by simp[J4]
 | (k,x)::r=>by
  have b:=Yk f v r;rw[show J4 f v ((k,x)::r)=(if k=f then(k,v)::r else(k,x)::J4 f v r)from rfl];by_cases a:k=f
  .rw[if_pos a,E4,E4];omega
  .rw[if_neg a,E4,E4];omega
def VL.some_of(r:VL (some v) o):∃u,o=some u/\RelV v u:=by
 cases o with
 |none=>exact(show False from r).elim
 |some u=>exact⟨u,rfl,r⟩
def e8(r:RelV v u):PySem.W.handedIn u=true:=by
 cases v with
 |non=>cases(show u=Value.none from r);rfl
 |bl b=>cases(show u=Value.bool b from r);rfl
 |int i=>obtain⟨t,e⟩:=(show ∃t,u=Value.int i t from r);cases e;rfl
 |str x=>obtain⟨t,e⟩:=(show ∃t,u=Value.str x t from r);cases e;rfl
 |byt b=>obtain⟨t,e⟩:=(show ∃t,u=Value.bytes b t from r);cases e;rfl
 |flt b=>obtain⟨t,e⟩:=(show ∃t,u=Value.float b t from r);cases e;rfl
 |ref a=>cases(show u=Value.ref a from r);rfl
 |ty n=>cases(show u=Value.type n from r);rfl
def aj(c:HOk P w H h)(e:H a=some (.ins C dx fs)):∃b,uC h a dx C b/\(∀f,VL (fs.lookup f) (b f))/\PySem.Within b (fs.map (·.1))/\fs.length<=1000/\H dx=some (.own a):=by obtain⟨d,z,g,ob,b,n,r,q⟩:=(show y8 P w H h a (.ins C dx fs)from c a _ e);exact⟨b,⟨ob,n,g⟩,r,q,z,d⟩
structure Cls(K:EC)(C:Addr):Prop where
 pg:PySem.W.plainGet K C Str.empty=true
 hd:PySem.W.hasDictIn K C=true
 po:PySem.W.plainOver K C=true
 sa:PySem.W.findIn K (.ref C) "__setattr__"=some (some (.builtin "object.__setattr__"))
def Cls.get{K:EC}{C:Addr}(c:Cls K C)(f:Str):PySem.W.plainGet K C f=true:=c.pg
def j7(K:EC)(C:Addr)(f:Str):Prop:=PySem.W.findIn K (.ref C) f=some none
def j7.BW{K:EC}{C:Addr}{f:Str}(n:j7 K C f):PySem.W.takerIn K C f=some none:=by unfold PySem.W.takerIn;rw[show PySem.W.findIn K (.ref C) f=some none from n];rfl
def dI(I:Inv X pins σ H s)(e:H a=some (.ins C dx fs))(c:Cls X.K C)(n:j7 X.K C f)(l:fs.lookup f=some v)
  (h:∀u g,Inv X pins σ H g->RelV v u->Q u g):wpAny (FK X) A (getAttr (.ref a) f b) Q E s:=by
 obtain⟨j,O,r,_,_,_⟩:=aj I.hok e;obtain⟨u,i,d⟩:=VL.some_of (v:=v) (o:=j f) (by rw[<- l];exact r f);exact get_map I.kIn O (c.get f) c.hd n i (e8 d) (h u _ (I.tok _) d)
def dJ(I:Inv X pins σ H s)(e:H a=some (.ins C dx fs))(c:Cls X.K C)(n:j7 X.K C f)(F:fs.length<1000)(v:RelV y u)
  (h:∀j,Inv X pins σ (upd H a (.ins C dx (J4 f y fs))) j->Q () j):wpAny (FK X) A (setAttr (.ref a) f u) Q E s:=by
 obtain⟨m,O,r,l,_,i⟩:=aj I.hok e;have hz:(fs.map (·.1)).length<=sizeLine:=by rw[u8,a0N];omega
 refine rD I.kIn O c.sa c.po n.BW c.hd l hz λp d w=>h _ ?_;have B:∃o,p.get? dx=some o:=let⟨o,_,_,e',_⟩:=d.ns;⟨o,e'⟩
 refine I.write (x:=a) (e:=dx) (by rw[e];exact True.intro) (.inr i) (λb q D z=>(w.2 b D).trans z) B ?_;refine⟨by rw[zh O.ne];exact i,?_,O.ne,d.obj,_,d.ns,λg=>?_,λg t=>?_⟩
 .have:=Yk f y fs;omega
 .show VL ((J4 f y fs).lookup g) (if g=f then some u else m g);rw[Yj];by_cases q:g=f
  .rw[if_pos q,if_pos q];exact v
  .rw[if_neg q,if_neg q];exact r g
 .by_cases q:g=f
  .rw[q];exact(wK f y fs).1
  .refine(wK f y fs).2 g (l g λz=>t ?_);show(if g=f then some u else m g)=none;rw[if_neg q];exact z
def Inv.made(I:Inv X pins σ H s):Inv X pins σ (upd (upd H s.heap.objs.size (.own (s.heap.objs.size+1))) (s.heap.objs.size+1) (.ins C s.heap.objs.size []))
  { s with heap:=(s.heap.push PySem.W.emptyDict).push (PySem.W.instObj C s.heap.objs.size) }:=by
 have c:(s.heap.push PySem.W.emptyDict).get? s.heap.objs.size=some PySem.W.emptyDict:=G5 s.heap rfl;have j:((s.heap.push PySem.W.emptyDict).push (PySem.W.instObj C s.heap.objs.size)).get? (s.heap.objs.size+1)=some (PySem.W.instObj C s.heap.objs.size):=by
  have:=G5 (s.heap.push PySem.W.emptyDict) (o:=PySem.W.instObj C s.heap.objs.size) rfl
  rwa [T0]at this
 have f:(s.heap.push PySem.W.emptyDict).Ns s.heap.objs.size (λ_=>none):=⟨PySem.W.emptyDict,#[],_,c,rfl,(λe g=>absurd g (by simp)),λ_=>rfl⟩;have i:=I.laid (a:=s.heap.objs.size) (o:=.own (s.heap.objs.size+1)) (h':=s.heap.push PySem.W.emptyDict) (t':=s.toks) (λb u q=>v4 _ q) (E5 _) ⟨_,c⟩;refine i.laid (a:=s.heap.objs.size+1) (o:=.ins C s.heap.objs.size []) (t':=s.toks) (λb u q=>v4 _ q) (a1P (T0 _ _)) ?_;have d:s.heap.objs.size≠s.heap.objs.size+1:=F1 (N9 _);refine⟨by rw[zh d,zd],P4 _,d,j,λ_=>none,(Heap.Ns1.of_empty f).at λo q=>v4 _ q,λ_=>True.intro,λy h=>absurd rfl h⟩
def rE(b:attributeBase e f env (eval e env)=eval e env)
  (h:wpAny (model prog w) A (eval e env) (λo a=>wpAny (model prog w) A (getAttr o f true) Q E a) E s):wpAny (model prog w) A (eval (.Attribute e f pos) env) Q E s:=
 Attribute_any_ h (by rw[arm_eval_Attribute,b])
def DT(K:EC)(d:TE)(f:Str):TE:=λc H Q=>d c H λx b=>∃a C e fs v,x=.ref a/\b a=some (.ins C e fs)/\Cls K C/\j7 K C f/\fs.lookup f=some v/\Q v b
def DV(K:EC)(e h:TE)(f:Str):TS:=λD b H=>h b H λy g=>e b g λx d=>∃a C c fs,x=.ref a/\d a=some (.ins C c fs)/\Cls K C/\j7 K C f/\fs.length<1000/\
 D.nx b (upd d a (.ins C c (J4 f y fs)))
def uD(X:Cx)(op:Operator)(rd:V->V->Hp->VK->Prop):Prop:=
 ∀(a:Ep)(s:Eu)(b:St)(H:Hp)(x y:V)(u v:Value)(Q:VK),Inv X a b H s->RelV x u->RelV y v->rd x y H Q->wpAny (FK X) X.A (inplaceOp op u v) (EP X a b Q) X.xe s
section
variable {X:Cx}{o e value:Ey}{f:Str}{pos pos':Pos}{ta tv:TE}
def ou(he:PE X e ta)(t:attributeBase e f X.env (eval e X.env)=eval e X.env):PE X (.Attribute e f pos) (DT X.K ta f):=by intro b s d H Q I h;refine rE t (thn (he b s d H _ I h) λu z ⟨x,r,p,g,a,C,y,fs,v,w,i,c,n,l,q⟩=>?_);subst w;obtain rfl:u=Value.ref a:=g;exact dI p i c n l λA s2 m j=>⟨v,r,m,j,q⟩
def u6(B:PE X o ta)(v:PE X value tv)(i:swapsWith value (some (.Attribute o f pos')) pos.line X.env=pure false):PS X (.Assign [.Attribute o f pos'] value pos) (DV X.K ta tv f):=by intro b s d H D I h;refine a1m (thn (v b s d H _ I h) λu p ⟨y,A,w,t,q⟩=>thn (B b p d A _ w q) λz s2 ⟨x,K,r,g,a,C,G,fs,E,j,c,n,l,m⟩=>?_) i;subst E;obtain rfl:z=Value.ref a:=g;exact dJ r j c n l t λJ F=>⟨d,_,F,m⟩
def DW:V->V->Hp->VK->Prop:=λx y H Q=>∃i j,x=.int i/\y=.int j/\Q (.int (i+j)) H
def DX:V->V->Hp->VK->Prop:=λx y H Q=>∃i j,x=.int i/\y=.int j/\Q (.int (i-j)) H
def u7:uD X .Add DW:=by
 rintro b s g H x y u v Q I c d ⟨i,j,rfl,rfl,q⟩
 obtain⟨t,rfl⟩:=(show ∃t,u=Value.int i t from c);obtain⟨a,rfl⟩:=(show ∃a,v=Value.int j a from d);exact PyProof.Rows.iadd_int ⟨.int (i+j),H,I.tok _,⟨_,rfl⟩,q⟩
def u9:uD X .Sub DX:=by
 rintro b s g H x y u v Q I c d ⟨i,j,rfl,rfl,q⟩
 obtain⟨t,rfl⟩:=(show ∃t,u=Value.int i t from c);obtain⟨a,rfl⟩:=(show ∃a,v=Value.int j a from d);exact PyProof.Rows.isub_int ⟨.int (i-j),H,I.tok _,⟨_,rfl⟩,q⟩
end
section
variable {H:Hp}
inductive eK(K:EC)(H:Hp):V->Value->Prop where
 |non:eK K H .non (.type "NoneType")
 |bl (x:Bool):eK K H (.bl x) (.type "bool")
 |int (i:Int):eK K H (.int i) (.type "int")
 |str (x:Str):eK K H (.str x) (.type "str")
 |flt (x:UInt64):eK K H (.flt x) (.type "float")
 |lst {a:Addr}{xs:EH}(e:H a=some (.lst xs)):eK K H (.ref a) (.type "list")
 |frz {a:Addr}{o:Obj}{xs:EH}(e:H a=some (.frz o (.lst xs))):eK K H (.ref a) (.type "list")
 |tup {a:Addr}{xs:EH}(e:H a=some (.tup xs)):eK K H (.ref a) (.type "tuple")
 |dK {a:Addr}{kvs:Et}(e:H a=some (.dK kvs)):eK K H (.ref a) (.type "dict")
 |dT {a:Addr}{kvs:Fx}(e:H a=some (.dT kvs)):eK K H (.ref a) (.type "dict")
 |ins {a C dx:Addr}{fs:E_}(e:H a=some (.ins C dx fs)) (cl:Cls K C) (ha:PySem.W.findIn K (.ref C) "__class__"=some (some (.builtin "object.__class__")))
   (hn:PySem.W.specialIn K (.builtin "object.__class__") "__get__"=some (some (.builtin "getset_descriptor.__get__"))) (htk:PySem.W.takesIn K (.builtin "object.__class__")=some true)
   (hm:PySem.W.mroIn K C (.type "object")=some true):eK K H (.ref a) (.ref C)
end
structure wI(k:Nat)(A:EK):Prop where
 hd:A.handled=none
 dp:A.depth+3*k+5<recursionLimit
 un:A.units+16*k+200<cLine
def wI.mono(r:wI k A)(h:j<=k):wI j A:=⟨r.hd,by have:=r.dp;omega,by have:=r.un;omega⟩
def wI.deeper(r:wI (k+1) A)(env:Env):wI k (A.deeper env):=
 ⟨r.hd,by have:=r.dp;show A.depth+1+3*k+5<_;omega,by have:=r.un;show A.units+3+16*k+200<_;omega⟩
def dM{A:EK}{C:Addr}{us:EE}{a:Fj}:(A.under (.builtin "type.__call__" ⟨.ref C::us,a⟩)).depth=A.depth+1:=by
 first|rfl|simp[Around.under,Code.weight,Code.isCreation,Code.isGuard,Code.isCaller,Code.frames,Code.isFrame,guardIds]
def dN{A:EK}{C:Addr}{us:EE}{a:Fj}:(A.under (.builtin "type.__call__" ⟨.ref C::us,a⟩)).units=A.units+1:=by
 first|rfl|simp[Around.under,Code.cUnits,Code.frames,Code.isFrame]
def wI.make(r:wI (k+1) A)(C:Addr)(us:EE)(a:Fj):wI k (A.under (.builtin "type.__call__" ⟨.ref C::us,a⟩)):=
 ⟨r.hd,by have:=r.dp;rw[dM];omega,by have:=r.un;rw[dN];omega⟩
def wI.depth(r:wI k A):A.depth<recursionLimit:=by have:=r.dp;omega
def wI.units(r:wI k A):A.units+64<cLine:=by have:=r.un;omega
def BX:TA:=λ_ H Q=>Q [] H
def rF(c:TE)(b:TA):TA:=λa H Q=>c a H λx f=>b a f λe d=>Q (x::e) d
section
variable {X:Cx}{e:Ey}{es:Ex}{te:TE}{t:TA}{pos:Pos}
def YL:PA X [] BX:=λ_ _ _ _ H Q I h=>a0f ⟨[],H,I,.nil,h⟩
def ve(q:PE X e te)(n:PA X es t)(d:starEach (e::es) X.env=(false,eval e X.env)::starEach es X.env:=by rfl):PA X (e::es) (rF te t):=by intro pos a s b H Q I h;rw[d];show wpAny _ _ (spliced ((false,eval e X.env)::backTo pos (starEach es X.env))) _ _ s;refine P6 (thn (q a s b H _ I h) λu i ⟨x,p,l,m,g⟩=>?_);exact thn (n pos a i b p _ l g) λv s2 ⟨r,o,j,c,f⟩=>⟨x::r,o,j,.cons m c,f⟩
def DY(t:TA):TE:=λc H Q=>t c H λa b=>a.length<=sizeLine/\∀p,b p=none->Q (.ref p) (upd b p (.tup a))
def DZ(t:TA):TE:=λc H Q=>t c H λa b=>a.length<=sizeLine/\∀p,b p=none->Q (.ref p) (upd b p (.lst a))
def oy{x1}(h:PA X es t):PE X (.Tuple es x1 pos) (DY t):=by intro a s g H Q I j;refine wpAny_Tuple_spliced (thn (h pos a s g H _ I j) λl c ⟨i,f,d,r,z,q⟩=>⟨by rw[<- r.length];exact z,?_⟩);have hf:f c.heap.objs.size=none:=d.hok.fresh (E5 _);refine⟨.ref c.heap.objs.size,upd f c.heap.objs.size (.tup i),d.laid (t':=c.toks) (λb u e=>v4 _ e) (E5 _) ?_,rfl,q _ hf⟩;exact⟨z,l,r,⟨_,G5 _ rfl,rfl,_,rfl⟩⟩
def oz(h:PA X es t):PE X (.List es pos) (DZ t):=by intro a s g H Q I j;refine a27 (thn (h pos a s g H _ I j) λl c ⟨i,d,f,r,z,q⟩=>⟨by rw[<- r.length];exact z,?_⟩);have hf:d c.heap.objs.size=none:=f.hok.fresh (E5 _);refine⟨.ref c.heap.objs.size,upd d c.heap.objs.size (.lst i),f.laid (t':=c.toks) (λb u e=>v4 _ e) (E5 _) ?_,rfl,q _ hf⟩;exact⟨z,l,0,r,G5 _ rfl⟩
end
abbrev Sp:=List V->Hp->VK->XK->Prop
abbrev CXT:=List Env->Hp->Shared->XK->Value->Shared->Prop
structure rG(P:Ez)(w:EF)(K:EC)(mg:Er)(base:Heap)(A:EK)(outer:List Env)(s:Eu)(H:Hp):Prop where
 frames:A.frames=some outer
 mod:Mod K mg base
 bs:∀b o,base.get? b=some o->s.heap.get? b=some o/\H b=none
 bsz:base.objs.size<=s.heap.objs.size
 dE:s.heap.FunFrames base outer
 frf:∀b∈frs outer,H b=none
 hok:HOk P w H s.heap
 bare:AllBare s.gens
def CE(a:List Env)(P:Ez)(w:EF)(H:Hp)(s:Eu)(Q:VK)(u:Value)(b:Eu):Prop:=
 ∃v c,b.os=s.os/\AllBare b.gens/\Un (frs a) [] H c s.heap b.heap/\HOk P w c b.heap/\RelV v u/\Q v c
def CR(CX:CXT)(a:List Env)(P:Ez)(w:EF)(H:Hp)(s:Eu)(Q:VK)(E:XK)(r:Result)(b:Eu):Prop:=
 match r with
 |.ok (.ret u)=>CE a P w H s Q u b
 |.ok _=>False
 |.error e=>CX a H s E e b
structure qY(P:Ez)(w:EF)(K:EC)(mg:Er)(base:Heap)(CX:CXT)(k:Nat)(f:Addr)(fd:EL)(ps:EB)(sp:Sp):Prop where
 len:∀vs H Q E,sp vs H Q E->vs.length=ps.length
 run:∀(A:EK)(outer:List Env)(s:Eu)(H:Hp)(args:Args)(us:EE)(vs:EH) (Q:VK) (E:XK),wI k A->rG P w K mg base A outer s H->BindsTo s fd args (ps.zip us)->Vals vs us->sp vs H Q E->
  codeAny (model P w) A (.call (.ref f) args) (CR CX outer P w H s Q E) s
def qY.imp{P:Ez}{w:EF}{K:EC}{e:Er}{a:Heap}{CX:CXT}{k:Nat}{f:Addr}{g:EL}{i:EB}{sp d:Sp}(F:qY P w K e a CX k f g i sp)
  (h:∀c H Q E,d c H Q E->sp c H Q E):qY P w K e a CX k f g i d:=
 ⟨λc H Q E q=>F.len c H Q E (h _ _ _ _ q),λA b s H args l c Q E o m p n j=>F.run A b s H args l c Q E o m p n (h _ _ _ _ j)⟩
def rG.make{P:Ez}{w:EF}{K:EC}{c:Er}{b:Heap}{A:EK}{a:List Env}{s:Eu}{H:Hp}(e:rG P w K c b A a s H)(C:Addr)(us:EE)(d:Fj):
  rG P w K c b (A.under (.builtin "type.__call__" ⟨.ref C::us,d⟩)) a s H:=⟨by first|exact e.frames|(simpa[Around.under,Code.envs,Code.isFrame,pushEnvs]using e.frames),e.mod,e.bs,e.bsz,e.dE,e.frf,e.hok,e.bare⟩
def Inv.BY(I:Inv X pins σ H s):rG X.prog X.w X.K X.mg X.base X.A X.stack s H:=
 ⟨I.ok.frames,I.ok.mod,I.bs,F9 I.ok.bsz I.sz,I.stack,I.WA,I.hok,I.bare⟩
def Inv.after(I:Inv X pins σ H s)(h:CE X.stack X.prog X.w H s Q u s')(l:X.m<=s'.toks:=by ac_rfl):EP X pins σ Q u s':=by obtain⟨v,f,i,a,un,e,r,q⟩:=h;obtain⟨j,g,d,t,c⟩:=s';obtain rfl:c=s.os:=i;exact⟨v,f,I.call (h':=j) (g':=g) (d':=d) (t':=t) (ch:=[]) un e a (λb z=>absurd z (by simp)),r,q⟩
def BZ(sp:Sp)(a:EH)(E:XK)(t:TA):TE:=λb H Q=>t b H λd c=>sp (d++a) c Q E
def B0(C:Addr)(sp:Sp)(b:EH)(E:XK)(t:TA):TE:=λd H Q=>t d H λf c=>∀x a,c x=none->c a=none->a≠x->
 sp (.ref x::(f++b)) (upd (upd c a (.own x)) x (.ins C a [])) (λv e=>v=.non/\Q (.ref x) e) E
def Binds(K:EC)(d:EL)(b:EB)(c:EE):Prop:=
 ∀(s:Eu)(a:EE),K.In s.heap->(a++c).length=b.length->BindsTo s d ⟨a,[]⟩ (b.zip (a++c))
def Binds.all{K:EC}{d:EL}{b:EB}(h:∀a:List Value,a.length=b.length->bindArgs d ⟨a,[]⟩=pure (b.zip a)):Binds K d b []:=λs a _ c=>by rw[O7]at c ⊢;exact .of_eq (h a c)
def Passes(CX:CXT)(X:Cx)(E:XK):Prop:=∀(a:Ep)(c:St)(H:Hp)(s:Eu)(e:Value)(b:Eu),Inv X a c H s->CX X.stack H s E e b->X.m<=b.toks->X.xe e b
section
variable {X:Cx}{CX:CXT}{k:Nat}{f C:Addr}{fd:EL}{ps:EB}{sp:Sp}{dvs:EH}{ds:EE}{E:XK}{x:Str}{p pos:Pos}{e:Ey}{es:Ex}{t:TA}
def u_(F:qY X.prog X.w X.K X.mg X.base CX k f fd ps sp)(v:wI k X.A)(i:Binds X.K fd ps ds)(g:Vals dvs ds)(w:Passes CX X E)
  (I:Inv X pins σ H s) (r:Vals c a) (h:sp (c++dvs) H Q E):wpAny (FK X) X.A (call (.ref f) a) (EP X pins σ Q) X.xe s:=by
 have d:Vals (c++dvs) (a++ds):=r.append g;have j:(a++ds).length=ps.length:=by rw[<- d.length];exact F.len _ _ _ _ h
 refine a0L (codeAny_with_toks (n:=X.m) I.tk<|a0b (F.run X.A X.stack s H ⟨a,[]⟩ (a++ds) (c++dvs) Q E v I.BY (i s a I.kIn j) d h) λr l b hn=>?_);cases r with
 |error e=>exact w pins σ H s e l I b hn
 |ok q=>
  cases q with
  |ret u=>exact I.after b
  |next=>exact False.elim b
  |brk=>exact False.elim b
  |cont=>exact False.elim b
def ao(F:qY X.prog X.w X.K X.mg X.base CX k f fd ps sp)(l:wI k X.A)(i:Gl X x)(y:X.mg x=some (.ref f))(v:PySem.W.keepIn X.K (.ref f)=true)(w:Binds X.K fd ps ds)(j:Vals dvs ds)(u:Passes CX X E)
  (n:PA X (e::es) t) (b:(x==("__debug__":Str))=false:=by decide) (he:starEach (e::es) X.env=(false,eval e X.env)::starEach es X.env:=by rfl) (c:(backTo pos (starEach es X.env)).any (·.1)=false:=by rfl):
  PE X (.Call (.Name x p) (e::es) [] pos) (BZ sp dvs E t):=by
 intro a s g H Q I h;refine a0n (WB I i y ?_ b);refine a1x (h₀:=X.base) I.ok.mod.kin v (thn (n pos a s g H _ I h) λz A ⟨D,B,d,r,q⟩=>⟨d.kIn,?_⟩) he c;exact u_ F l w j u d r q
structure Mk(K:EC)(C f:Addr):Prop where
 makes:PySem.W.makesIn K C=true
 init:PySem.W.findIn K (.ref C) "__init__"=some (some (.ref f))
 fn:PySem.W.isFn K (.ref f)=true
 kp:PySem.W.keepIn K (.ref C)=true
def lI(M:Mk X.K C f)(F:qY X.prog X.w X.K X.mg X.base CX k f fd ps sp)(y:wI (k+1) X.A)(D:Binds X.K fd ps ds)(w:Vals dvs ds)
  (B:Passes CX X E) (I:Inv X pins σ H s) (r:Vals vs us)
  (h:∀x b,H x=none->H b=none->b≠x->sp (.ref x::(vs++dvs)) (upd (upd H b (.own x)) x (.ins C b [])) (λv A=>v=.non/\Q (.ref x) A) E):
  wpAny (FK X) X.A (call (.ref C) us) (EP X pins σ Q) X.xe s:=by
 have i:=h (s.heap.objs.size+1) s.heap.objs.size (I.hok.fresh (G4 _)) (I.hok.fresh (E5 _)) (F1 (N9 _));have c:=Inv.made (C:=C) I;have d:Vals (V.ref (s.heap.objs.size+1)::(vs++dvs)) (Value.ref (s.heap.objs.size+1)::(us++ds)):=.cons rfl (r.append w);have G:(Value.ref (s.heap.objs.size+1)::us++ds).length=ps.length:=by have e:=d.length;rw[F.len _ _ _ _ i]at e;exact e.symm
 refine a0L (codeAny_with_toks (n:=X.m) I.tk<|lH (f:=f) I.kIn M.makes M.init (N6.mp M.fn) (a0b (F.run _ X.stack _ _ ⟨Value.ref (s.heap.objs.size+1)::us,[]⟩ (Value.ref (s.heap.objs.size+1)::(us++ds)) _ _ E (y.make C us [])
  (c.BY.make C us []) (D _ (Value.ref (s.heap.objs.size+1)::us) c.kIn G) d i) λr q a=>?_))
 cases r with
 |error e=>exact λhn=>B pins σ _ _ e q c a hn
 |ok j=>
  cases j with
  |ret u=>obtain⟨v,g,_,_,_,_,z,ev,_⟩:=id a;subst ev;refine⟨z,λhn=>?_⟩;obtain⟨v,g,J,_,_,l⟩:=c.after a hn;exact⟨V.ref (s.heap.objs.size+1),g,J,rfl,l⟩
  |next=>exact False.elim a
  |brk=>exact False.elim a
  |cont=>exact False.elim a
def rH(M:Mk X.K C f)(F:qY X.prog X.w X.K X.mg X.base CX k f fd ps sp)(l:wI (k+1) X.A)(i:Gl X x)(w:X.mg x=some (.ref C))(v:Binds X.K fd ps ds)(j:Vals dvs ds)(u:Passes CX X E)
  (n:PA X (e::es) t) (b:(x==("__debug__":Str))=false:=by decide) (he:starEach (e::es) X.env=(false,eval e X.env)::starEach es X.env:=by rfl) (c:(backTo pos (starEach es X.env)).any (·.1)=false:=by rfl):
  PE X (.Call (.Name x p) (e::es) [] pos) (B0 C sp dvs E t):=by
 intro a s g H Q I h;refine a0n (WB I i w ?_ b);refine a1x (h₀:=X.base) I.ok.mod.kin M.kp (thn (n pos a s g H _ I h) λy z ⟨B,A,d,r,q⟩=>⟨d.kIn,?_⟩) he c;exact lI M F l v j u d r q
end
structure zH(N P:EB)(sc:Scope):Prop where
 kind:sc.kind=.function
 co:sc.isCoroutine=false
 gen:sc.isGenerator=false
 nd:N.Nodup
 pre:N.take P.length=P
 par:∀x∈P,sc.names.lookup x=some .local\/sc.names.lookup x=some .cell
 Bl:∀y∈sc.names,y.2≠.free
theorem XX{a:Fo}{x:Str}:∀{binds:Fj}{m:Er},(∀v,(x,v)∉binds)->bindL a binds m x=m x
 |[],_,_=>rfl
 | (n,v)::r,m,h=>by
  unfold bindL;rw[XX λw b=>h w (E3 _ b)];split
  .have:x≠n:=by rintro rfl;exact h v E9
   simp[this]
  .rfl
theorem XY{a:Fo}{x:Str}:∀{binds:Fj}{m:Er},(∀v,(x,v)∉binds)->bindC a binds m x=m x
 |[],_,_=>rfl
 | (n,v)::r,m,h=>by
  unfold bindC;rw[XY λw b=>h w (E3 _ b)];split
  .rfl
  .have:x≠n:=by rintro rfl;exact h v E9
   simp[this]
theorem XZ{a:Fo}{x:Str}{v:Value}:∀{P:EB}{b:EE}{i:Nat}{m:Er},P.Nodup->P[i]?=some x->b[i]?=some v->a x=some .local->
  bindL a (P.zip b) m x=some v
 |[],_,_,_,_,h,_,_=>by simp at h
 |_::_,[],_,_,_,_,h,_=>by simp at h
 |p::P,w::b,0,m,nd,d,c,e=>by simp at d c;subst d;subst c;show bindL a ((p,w)::P.zip b) m p=_;unfold bindL;rw[XX λv f=>(I0.mp nd).1 (a2c f).1,if_pos e];simp
 |p::P,w::b,i+1,m,nd,d,c,e=>by show bindL a ((p,w)::P.zip b) m x=_;unfold bindL;exact XZ (i:=i) (I0.mp nd).2 (by simpa using d) (by simpa using c) e
theorem X0{a:Fo}{x:Str}{v:Value}:∀{P:EB}{b:EE}{i:Nat}{m:Er},P.Nodup->P[i]?=some x->b[i]?=some v->a x≠some .local->
  bindC a (P.zip b) m x=some v
 |[],_,_,_,_,h,_,_=>by simp at h
 |_::_,[],_,_,_,_,h,_=>by simp at h
 |p::P,w::b,0,m,nd,d,c,e=>by simp at d c;subst d;subst c;show bindC a ((p,w)::P.zip b) m p=_;unfold bindC;rw[XY λv f=>(I0.mp nd).1 (a2c f).1,if_neg e];simp
 |p::P,w::b,i+1,m,nd,d,c,e=>by show bindC a ((p,w)::P.zip b) m x=_;unfold bindC;exact X0 (i:=i) (I0.mp nd).2 (by simpa using d) (by simpa using c) e
def start(N:EB)(vs:EH):St:=vs.map some++List.replicate (N.length-vs.length) none
def eL(CX:CXT)(P:Ez)(w:EF)(K:EC)(h:Er)(d:Heap)(N:EB)(c:Str)(b:Scope)(f:Addr)(cd:Value)(A:EK)(a:List Env)(s:Eu)(H:Hp)(E:XK):Cx where
 prog:=P
 w:=w
 K:=K
 mg:=h
 base:=d
 A:=A.deeper (envOfC c b s.heap.objs.size f cd)
 N:=N
 s₀:=s
 H₀:=H
 env:=envOfC c b s.heap.objs.size f cd
 outer:=a
 stack:=envOfC c b s.heap.objs.size f cd::a
 ex:=[]
 calm:=true
 fn:=λ_=>true
 pn:=[]
 xe:=λe j=>wpAny (model P w) (A.deeper (envOfC c b s.heap.objs.size f cd)) (leaving (envOfC c b s.heap.objs.size f cd) e) (λ_ g=>CX a H s E e g) (λi g=>CX a H s E i g) j
def bN{a:Scope}{n:Nat}{x:Str}(h:a.names.lookup x=some .cell):∃c,(cellsFrom n a.names []).lookup x=some c:=by have q:=a2o a.names n [] (.inl h);exact L4.mp q
def e9{CX:CXT}{P:Ez}{w:EF}{K:EC}{I:Er}{m:Heap}{N t:EB}{j:Str}{d:Scope}{f:Addr}{cd:Value}{A:EK}{g:List Env}{s s1:Eu}{H:Hp}{E:XK}{us:EE}{vs:EH}
  (S:zH N t d) (M:A.handled=none) (o:rG P w K I m A g s H) (W:vs.length=t.length) (r:Vals vs us)
  (x:InCallC s s.heap.objs.size (bindL (envOfC j d s.heap.objs.size f cd).kindOf (t.zip us) λ_=>none) (cellsFrom (s.heap.objs.size+1) d.names []) (bindC (envOfC j d s.heap.objs.size f cd).kindOf (t.zip us) λ_=>none) s1):
  Inv (eL CX P w K I m N j d f cd A g s H E) [] (start N vs) H s1:=by
 have O:t.length<=N.length:=by have:=G8 List.length S.pre;rw[a0l]at this;omega
 obtain⟨F,T,rfl,J⟩:=x.done;have B:∀b:Addr,b∉(eL CX P w K I m N j d f cd A g s H E).ex:=λb z=>absurd (show b∈([]:List Addr)from z) (by simp);refine⟨⟨o.mod,S.kind,rfl,rfl,E5 _,λy z c F l=>?_,λy C=>?_,λy c _ h=>?_,λ_=>M,Around.frames_deeper o.frames,.inr ⟨rfl,rfl⟩,λb z=>absurd z (B b),o.bs,o.bsz,λb _ _=>B b,λb z=>absurd z (B b),o.dE,o.frf⟩,
  rfl,o.bare,Un.kept J,⟨_,x.toInCall.ns,λi y v F l U=>?_⟩,λy c h=>⟨_,x.cell y c h⟩,o.hok.fresh (E5 _),λy c h=>?_,λp hp=>absurd (show p∈([]:List (Addr×Obj))from hp) (by simp),o.hok.kept J,?_,P4 _⟩
 .exact name_of_addr x.apart (a0G F) (a0G l)
 .have C:d.names.lookup y=some .cell\/d.names.lookup y=some .free:=C;rcases C with C|C
  .exact bN C
  .exact absurd rfl (S.Bl _ (a0G C))
 .exact a1L (x.above y c (a0G h))
 .have G:i<vs.length:=by
   unfold start at l;by_cases G:i<vs.length
   .exact G
   .rw[N7 (by simpa using G)]at l;rw[a0H]at l;split at l<;>cases l
  have R:vs[i]?=some v:=by
   unfold start at l;rw[M8 (by simpa using G),G9]at l;cases e:vs[i]? with
   |none=>rw[e]at l;cases l
   |some a=>rw[e]at l;cases l;rfl
  obtain⟨u,L,Q⟩:=r.get R;have hp:t[i]?=some y:=by rw[<- S.pre,List.getElem?_take_of_lt (by omega)];exact F
  have D:t.Nodup:=by rw[<- S.pre];exact S.nd.sublist (List.take_sublist _ _)
  refine⟨u,Q,?_⟩;rcases S.par y (O2 hp)with k|k
  .exact .inl ⟨k,XZ D hp L k⟩
  .obtain⟨c,e⟩:=bN (n:=s.heap.objs.size+1) k;refine .inr ⟨.inl k,c,e,?_⟩;have q:=x.cell y c e;rw[X0 D hp L (by show d.names.lookup y≠_;rw[k];decide)]at q;exact q
 .exact o.hok.fresh (a1L (x.above y c (a0G h)))
 .unfold start;show _=N.length;rw[F7,u8,a0q];omega
def B3{CX:CXT}{P:Ez}{w:EF}{K:EC}{L:Er}{i:Heap}{k:Nat}{f:Addr}{z d:Str}{h:Arguments}{j:Fd}{a:Scope}{Y kV G pm g ct oc:Value}{an od:EY}
  {U:ER}{N M:EB}{sp:Sp}(lk:K.lookup f=some ⟨oc,od,.func (PySem.W.fnOf z d h j a Y kV G pm an g ct),U⟩) (R:PySem.W.codeIn K g d=true) (S:zH N M a)
  (len:∀m H Q E,sp m H Q E->m.length=M.length)
  (uz:∀(A:EK)(c:List Env)(s:Eu)(H:Hp)(m:EH)(Q:VK)(E:XK),wI k (A.deeper (envOfC d a s.heap.objs.size f g))->sp m H Q E->
   ∃t,PSs (eL CX P w K L i N d a f g A c s H E) j t/\t { nx:=λ_ p=>Q .non p,rt:=Q } (start N m) H):
  qY P w K L i CX (k+1) f (PySem.W.fnOf z d h j a Y kV G pm an g ct) M sp:=by
 refine⟨len,λA c s H args us m Q E W F hb r hsp=>?_⟩;have hl:=len _ _ _ _ hsp;have KX:K.In s.heap:=F.mod.kin.keeps λb o e=>(F.bs b o e).1;have O:s.heap.NoLimit:=F.mod.nolimit.keeps λb o e=>(F.bs b o e).1;have B:∀y∈M.zip us,a.names.lookup y.1=some .local\/(a.names.lookup y.1=some .cell/\((cellsFrom (s.heap.objs.size+1) a.names []).lookup y.1).isSome=true):=λ⟨n,v⟩ hy=>by
  rcases S.par n (a2c hy).1 with q|q
  .exact .inl q
  .exact .inr ⟨q,a2o _ _ _ (.inl q)⟩
 refine codeAny_call_function W.depth (KX _ _ lk) rfl S.co S.gen rfl (PySem.W.codeRec_of KX R) (hb _ _ _ _ ?_);refine wpAny_newFunctionEnv_cells S.kind B λenv he Z x=>?_;subst he;refine⟨O.keeps x.toInCall.keep,codeAny_func ?_⟩;obtain⟨t,ht,hq⟩:=uz A c s H m Q E (W.deeper _) hsp;have I:Inv (eL CX P w K L i N d a f g A c s H E) [] (start N m) H Z:=e9 S W.hd F hl r x;refine S9 (ht [] Z (start N m) H _ I hq) (λfl T C=>?_) λe T C=>C;have D:∀{l:St}{p:Hp}{v:V}{u:Value},Inv (eL CX P w K L i N d a f g A c s H E) [] l p T->RelV v u->Q v p->CE c P w H s Q u T:=
  λ{l p v u} J X q=>⟨v,p,J.os,J.bare,J.base,J.hok,X,q⟩
 cases fl with
 |ret u=>obtain⟨v,l,p,J,X,q⟩:=C;exact D J X q
 |next=>obtain⟨l,p,J,q⟩:=C;exact D (v:=V.non) (u:=Value.none) J rfl q
 |brk=>obtain⟨_,_,_,q⟩:=C;exact False.elim q
 |cont=>obtain⟨_,_,_,q⟩:=C;exact False.elim q
section
variable {X:Cx}{x:Str}{p pos:Pos}{e:Ey}{es:Ex}{t:TA}{id T:String}{r:List V->Hp->VK->Prop}
def tCB(r:List V->Hp->VK->Prop)(t:TA):TE:=λa H Q=>t a H λc b=>r c b Q
def WD(o:vz X (.builtin id) r)(f:Gl X x)(w:X.mg x=none)(l:bootBuiltins x=some (.builtin id))(v:PA X (e::es) t)(hn:x≠"__name__":=by decide)(b:(x==("__debug__":Str))=false:=by decide)
  (he:starEach (e::es) X.env=(false,eval e X.env)::starEach es X.env:=by rfl) (c:(backTo pos (starEach es X.env)).any (·.1)=false:=by rfl):PE X (.Call (.Name x p) (e::es) [] pos) (tCB r t):=by
 intro a s d H Q I h;refine a0n (V7 I f w l ?_ hn b);exact a1n (thn (v pos a s d H _ I h) λg j ⟨u,q,m,n,i⟩=>o a j d q u g Q m n i) he c
def wL(o:vz X (.type T) r)(f:Gl X x)(w:X.mg x=none)(l:bootBuiltins x=some (.type T))(v:PA X (e::es) t)(hn:x≠"__name__":=by decide)(b:(x==("__debug__":Str))=false:=by decide)
  (he:starEach (e::es) X.env=(false,eval e X.env)::starEach es X.env:=by rfl) (c:(backTo pos (starEach es X.env)).any (·.1)=false:=by rfl):PE X (.Call (.Name x p) (e::es) [] pos) (tCB r t):=by
 intro a s d H Q I h;refine a0n (V7 I f w l ?_ hn b);exact a0S (thn (v pos a s d H _ I h) λg j ⟨u,q,m,n,i⟩=>o a j d q u g Q m n i) he c
end
end L2
namespace HT
open PySem PyProof.Rows
end HT
namespace L2
open PySem PySem.Spec PyProof.Rows
def ixN(n:Nat)(i:Int):Option Nat:=if 0<=i then(if i<n then some i.toNat else none)else if -(n:Int)<=i then some (i+n).toNat else none
def atI{a:Type}(xs:List a)(i:Int):Option a:=(ixN xs.length i).bind λj=>xs[j]?
def rJ(h:ixN n i=some j):seqIndex? i n=some j/\j<n/\-(n:Int)<=i/\i<n:=by
 unfold ixN at h;by_cases b:0<=i
 .rw[if_pos b]at h;by_cases a:i<n
  .rw[if_pos a]at h;have e:i.toNat=j:=L5 h;exact⟨by rw[seqIndex_of b a,e],by omega,by omega,a⟩
  .rw[if_neg a]at h;cases h
 .rw[if_neg b]at h;by_cases a:-(n:Int)<=i
  .rw[if_pos a]at h;have e:(i+n).toNat=j:=L5 h;exact⟨by rw[seqIndex_neg (by omega) a,e],by omega,a,by omega⟩
  .rw[if_neg a]at h;cases h
def aq{a:Type}{xs:List a}{v:a}(h:atI xs i=some v):∃j,seqIndex? i xs.length=some j/\xs[j]?=some v/\j<xs.length/\-(xs.length:Int)<=i/\i<xs.length:=by
 unfold atI at h;cases e:ixN xs.length i with
 |none=>rw[e]at h;cases h
 |some j=>rw[e]at h;obtain⟨d,b,c,f⟩:=rJ e;exact⟨j,d,h,b,c,f⟩
def lJ{a:Type}(xs:List a)(v:a):atI (xs++[v]) (-1)=some v:=by
 have b:(xs++[v]).length=xs.length+1:=by simp
 have e:ixN (xs++[v]).length (-1)=some xs.length:=by unfold ixN;rw[b,if_neg (by decide),if_pos (by omega)];congr 1;omega
 unfold atI;rw[e];show(xs++[v])[xs.length]?=some v;simp
def wM(b:Ey):Prop:=∀o i,subscripted b false o i=operate [o,i] (getItem o i)
def IxR(X:Cx)(r:R2):Prop:=
 ∀(c a:Ey)(b:Ep)(s:Eu)(d:St)(H:Hp)(x y:V)(v u:Value) (Q:VK),Inv X b d H s->RelV x v->RelV y u->r x y H Q->
  subscripted a false v u=operate [v,u] (getItem v u)->wpAny (FK X) X.A (subscriptTail c a v u) (EP X b d Q) X.xe s
def MtR(X:Cx)(id:String)(r:V->List V->Hp->VK->Prop):Prop:=
 ∀(a:Ep)(s:Eu)(b:St)(H:Hp)(x:V)(c:EH)(v:Value) (d:EE) (Q:VK),Inv X a b H s->RelV x v->Vals c d->r x c H Q->
  wpAny (FK X) X.A (call (.builtin id) (v::d)) (EP X a b Q) X.xe s
section
variable {X:Cx}{a b:Ey}{ta tb:TE}{pos:Pos}
def IxR.or(h:IxR X r)(h':IxR X r'):IxR X (λx y H Q=>r x y H Q\/r' x y H Q):=by
 intro c d e s f H x y v u Q I g j q i;rcases q with q|q
 .exact h c d e s f H x y v u Q I g j q i
 .exact h' c d e s f H x y v u Q I g j q i
def lK(j:IxR X r)(m:PE X a ta)(n:PE X b tb)(f:wM b):PE X (.Subscript a b pos) (tOp r ta tb):=by intro c s d H Q I h;exact Subscript_ (BS m n I h λv u s2 x y l g e i q=>j a b c s2 d l x y v u Q g e i q (f _ _))
def Dg(K:EC):R2:=λx y H Q=>∃p c i v,x=.ref p/\y=.int i/\SqL K H p c/\atI c i=some v/\Q v H
def Dh(K:EC):R2:=λx y H Q=>∃p c i v,x=.ref p/\y=.int i/\SqT K H p c/\atI c i=some v/\Q v H
def Di:R2:=λx y H Q=>∃z i c,x=.str z/\y=.int i/\z.length<=sizeLine/\atI z.cps.toList i=some c/\Q (.str ⟨#[c]⟩) H
def rK:IxR X (Dg X.K):=by
 intro n f c s o H x y v u Q I D F h A;obtain⟨p,P,i,z,rfl,rfl,L,E,q⟩:=h;cases D;obtain⟨t,rfl⟩:=F;obtain⟨m,r,l,hz⟩:=I.list L;obtain⟨j,e,K,O,J,N⟩:=aq E;obtain⟨w,B,rw'⟩:=r.get K;have M:=r.length;have hn:=bM;have d:EP X c o Q w s:=⟨z,H,I,rw',q⟩;by_cases C:0<=i
 .have g:i.toNat=j:=by rw[seqIndex_of C N]at e;exact L5 e
  exact a2R l.isList C (by omega) (by rw[g];simpa using B) d A
 .have g:(i+(m.toArray.size:Int)).toNat=j:=by rw[seqIndex_neg (by omega) J]at e;rw[N5,<- M];exact L5 e
  exact a2p (x:=w) l.isList.typeIs slot_list_getitem.lookup
   (wpAny_getItem_list_neg (Q:=λr G=>r=w/\EP X c o Q r G) l.isList (by omega) (by rw[N5]<;>omega) (by omega) (by rw[g];simpa using B) ⟨rfl,d⟩) A
def xa:IxR X (Dh X.K):=by
 intro e d c s g H x y v u Q I m B h n;obtain⟨p,M,i,z,rfl,rfl,F,A,q⟩:=h;cases m;obtain⟨t,rfl⟩:=B;obtain⟨J,r,l,hz⟩:=I.tuple F;obtain⟨j,C,E,L,K,N⟩:=aq A;obtain⟨w,o,rw'⟩:=r.get E;have G:=r.length;have hn:=bM;have f:EP X c g Q w s:=⟨z,H,I,rw',q⟩;exact a2p (x:=w) l.typeIs slot_tuple_getitem.lookup
  (getItem_tuple (j:=j) (Q:=λr D=>r=w/\EP X c g Q r D) l (by omega) (by omega) (by rw[N5,<- G];exact C) (by simpa using o) ⟨rfl,f⟩) n
def xb:IxR X Di:=by
 intro e d g s D H x y v u Q I l p h m;obtain⟨z,i,c,rfl,rfl,hz,o,q⟩:=h;obtain⟨t,rfl⟩:=l;obtain⟨E,rfl⟩:=p;obtain⟨j,f,w,F,r,C⟩:=aq o;have A:z.cps.toList.length=z.length:=by simp[Str.length]
 rw[A]at f r C;have hn:=bM;exact tail_any (typeIs_str s z t) slot_str_getitem.lookup (getItem_str (c:=c) (by
  have B:decide (i < -(2 ^ 63:Int))=false:=G6 (by omega);have n:decide (i ≥ 2 ^ 63)=false:=G6 (by omega);rw[B,n,Bool.or_false]) (by rw[f];simpa using w) ⟨.str ⟨#[c]⟩,H,I.tok _,⟨_,rfl⟩,q⟩) m
def rIx(K:EC):R2:=λx y H Q=>Dg K x y H Q\/Dh K x y H Q\/Di x y H Q
def oA:IxR X (rIx X.K):=rK.or (xa.or xb)
def JT:V->Bool
 |.non=>true
 |.bl _=>true
 |.int _=>true
 |.str _=>true
 |_=>false
def eqV:V->V->Bool
 |.non,.non=>true
 |.bl a,.bl b=>a==b
 |.bl a,.int b=>(if a then 1 else 0)==b
 |.int a,.bl b=>a==(if b then 1 else 0)
 |.int a,.int b=>a==b
 |.str a,.str b=>a==b
 |_,_=>false
def oB(f:RelV y u)(c:RelV x v)(g:JT y=true)(e:JT x=true):SeqAt.EqAt A s u v (eqV y x):=by
 cases y with
 |non=>
  cases f;cases x with
  |non=>cases c;exact a2d _
  |bl b=>cases c;exact SeqAt.EqAt.none_bool b
  |int b=>obtain⟨t,rfl⟩:=c;exact SeqAt.EqAt.none_int b t
  |str b=>obtain⟨t,rfl⟩:=c;exact SeqAt.EqAt.none_str b t
  |_=>exact absurd (show false=true from e) F6
 |bl a=>
  cases f;cases x with
  |non=>cases c;exact SeqAt.EqAt.bool_none a
  |bl b=>cases c;exact SeqAt.EqAt.bool_bool a b
  |int b=>obtain⟨t,rfl⟩:=c;exact SeqAt.EqAt.bool_int a b t
  |str b=>obtain⟨t,rfl⟩:=c;exact SeqAt.EqAt.bool_str a b t
  |_=>exact absurd (show false=true from e) F6
 |int a=>
  obtain⟨d,rfl⟩:=f;cases x with
  |non=>cases c;exact SeqAt.EqAt.int_none a d
  |bl b=>cases c;exact SeqAt.EqAt.int_bool a d b
  |int b=>obtain⟨t,rfl⟩:=c;exact SeqAt.EqAt.int_int a d b t
  |str b=>obtain⟨t,rfl⟩:=c;exact a22 a d b t
  |_=>exact absurd (show false=true from e) F6
 |str a=>
  obtain⟨d,rfl⟩:=f;cases x with
  |non=>cases c;exact SeqAt.EqAt.str_none a d
  |bl b=>cases c;exact SeqAt.EqAt.str_bool a d b
  |int b=>obtain⟨t,rfl⟩:=c;exact a23 a d b t
  |str b=>obtain⟨t,rfl⟩:=c;exact SeqAt.EqAt.str_str a d b t
  |_=>exact absurd (show false=true from e) F6
 |_=>exact absurd (show false=true from g) F6
def eqU(x:V)(u:Value):Bool:=match u with
 |.none=>eqV .non x
 |.bool b=>eqV (.bl b) x
 |.int i _=>eqV (.int i) x
 |.str z _=>eqV (.str z) x
 |_=>false
def oC(r:RelV y u)(f:JT y=true):eqU x u=eqV y x:=by
 cases y with
 |non=>cases r;rfl
 |bl b=>cases r;rfl
 |int i=>obtain⟨t,rfl⟩:=r;rfl
 |str z=>obtain⟨t,rfl⟩:=r;rfl
 |_=>exact absurd (show false=true from f) F6
theorem Kp{x:V}:∀{c:EH}{d:EE},Vals c d->c.all JT=true->d.any (eqU x)=c.any λy=>eqV y x
 |_,_,.nil,_=>rfl
 |y::c,u::d,.cons r t,f=>by rw[a0r,O8]at f;rw[R4,R4,oC r f.1,Kp t f.2]
theorem YM{A:EK}{s:Eu}{x:V}{v:Value}(h:RelV x v)(g:JT x=true):∀{d:EH}{e:EE},Vals d e->d.all JT=true->∀u∈e,SeqAt.EqAt A s u v (eqU x u)
 |_,_,.nil,_=>λu c=>by cases c
 |y::d,u::e,.cons r t,f=>λi c=>by
  rw[a0r,O8]at f;rcases F0.mp c with rfl|c
  .rw[oC r f.1];exact oB r h f.1 g
  .exact YM h g t f.2 i c
def inV(x:V)(xs:EH):Bool:=xs.any λy=>eqV y x
def rIn(K:EC)(d:Bool):R2:=λx y H Q=>∃p c,y=.ref p/\(SqL K H p c\/SqT K H p c)/\JT x=true/\c.all JT=true/\Q (.bl (if d then !inV x c else inV x c)) H
def e_:OpR X (compareOp .In) (rIn X.K false):=by
 intro j s m H x y v u Q I g l h;obtain⟨p,n,rfl,d,i,fs,q⟩:=h;cases l;rcases d with d|d
 .obtain⟨c,r,e,hz⟩:=I.list d;refine SeqAt.in_listAt (eqU x) e.isList (λw f=>YM g i r fs w (by simpa using f)) ⟨.bl _,H,I,rfl,?_⟩;rw[show c.toArray.any (eqU x)=c.any (eqU x) by simp,Kp r fs];exact q
 .obtain⟨c,r,e,hz⟩:=I.tuple d;refine SeqAt.in_tupleAt (eqU x) e (λw f=>YM g i r fs w (by simpa using f)) ⟨.bl _,H,I,rfl,?_⟩;rw[show c.toArray.any (eqU x)=c.any (eqU x) by simp,Kp r fs];exact q
def X2:OpR X (compareOp .NotIn) (rIn X.K true):=by
 intro j s m H x y v u Q I g l h;obtain⟨p,n,rfl,d,i,fs,q⟩:=h;cases l;rcases d with d|d
 .obtain⟨c,r,e,hz⟩:=I.list d;refine SeqAt.notIn_listAt (eqU x) e.isList (λw f=>YM g i r fs w (by simpa using f)) ⟨.bl _,H,I,rfl,?_⟩;rw[show c.toArray.any (eqU x)=c.any (eqU x) by simp,Kp r fs];exact q
 .obtain⟨c,r,e,hz⟩:=I.tuple d;refine SeqAt.notIn_tupleAt (eqU x) e (λw f=>YM g i r fs w (by simpa using f)) ⟨.bl _,H,I,rfl,?_⟩;rw[show c.toArray.any (eqU x)=c.any (eqU x) by simp,Kp r fs];exact q
def X3:OpR X (compareOp .NotIn) (λx y H Q=>∃i j,x=.str i/\y=.str j/\Q (.bl (!(!(Builtin.Str.occurrences j i 0 j.length 1).isEmpty))) H):=by intro c s f H x y v u Q I d e h;obtain⟨i,j,rfl,rfl,q⟩:=h;obtain⟨t,rfl⟩:=d;obtain⟨g,rfl⟩:=e;exact notIn_str ⟨.bl _,H,I,rfl,q⟩
def vz.or(h:vz X f r)(h':vz X f r'):vz X f (λd H Q=>r d H Q\/r' d H Q):=by
 intro c s e H d i Q I g q;rcases q with q|q
 .exact h c s e H d i Q I g q
 .exact h' c s e H d i Q I g q
def X4:vz X (.type "list") (λC H Q=>∃p i,C=[.ref p]/\(SqL X.K H p i\/SqT X.K H p i)/\∀l,H l=none->Q (.ref l) (upd H l (.lst i))):=by
 intro v s D H C F Q I r h;obtain⟨p,i,rfl,m,q⟩:=h;obtain⟨u,rfl,E⟩:=vals1 r;cases E;have w:∀(c:EE),Vals i c->i.length<=sizeLine->∀(d:Heap)(g:Nat),(∀b B,s.heap.get? b=some B->d.get? b=some B)->
   d.get? s.heap.objs.size=some { cls:=.type "list",dict:=none,data:=.seq c.toArray g,slots:=#[] }->EP X v D Q (.ref s.heap.objs.size) { s with heap:=d }:=λc f hz d g j e=>
  ⟨.ref s.heap.objs.size,_,I.laid (t':=s.toks) j (E5 _) (show y8 X.prog X.w _ d _ (.lst i)from⟨hz,c,g,f,e⟩),rfl,q _ (I.hok.fresh (E5 _))⟩
 rcases m with m|m
 .obtain⟨c,f,y,hz⟩:=I.list m;have t:=f.length;obtain⟨o,x,A,n,z⟩:=y.isList;exact call_list_seq p (.inl rfl) x A z (λd g j e=>w c f hz d g j e) (by simp only[List.size_toArray]<;>omega)
 .obtain⟨c,f,y,hz⟩:=I.tuple m;have t:=f.length;obtain⟨o,x,A,n,z⟩:=y;exact call_list_seq p (.inr rfl) x A z (λd g j e=>w c f hz d g j e) (by simp only[List.size_toArray]<;>omega)
def tyV(K:EC)(T:String)(x:V)(H:Hp):Prop:=match x with
 |.str _=>T="str"
 |.int _=>T="int"
 |.ref p=>(T="list" /\ ∃d,SqL K H p d)\/(T="tuple" /\ ∃o,K.lookup p=some o/\o.cls=.type "tuple"/\o.dict=none)\/
   (T="dict"/\((∃c,H p=some (.dK c))\/∃c,H p=some (.dT c)))\/(T="set" /\ ∃S n,H p=some (.set S n))
 |_=>False
def oE(I:Inv X pins σ H s)(r:RelV x v)(g:tyV X.K T x H):
  s.TypeIs v T/\∀a,v=.ref a->∃ob,s.heap.get? a=some ob/\ob.dict=none:=by
 cases x with
 |str z=>obtain⟨t,rfl⟩:=r;cases(show T="str" from g);exact⟨typeIs_str s z t,λ_ e=>nomatch e⟩
 |int i=>obtain⟨t,rfl⟩:=r;cases(show T="int" from g);exact⟨typeIs_int s i t,λ_ e=>nomatch e⟩
 |ref p=>
  cases r;rcases g with⟨rfl,y,u⟩|⟨rfl,o,d,q,j⟩|⟨rfl,d⟩|⟨rfl,S,n,d⟩
  .obtain⟨w,_,m,_⟩:=I.list u;refine⟨m.isList.typeIs,λa e=>?_⟩;cases e;obtain⟨o,n,e,c,j,_⟩:=m;exact⟨o,e,j⟩
  .refine⟨⟨o,I.kIn p o d,q⟩,λa e=>?_⟩;cases e;exact⟨o,I.kIn _ o d,j⟩
  .have z:∃o,s.heap.get? p=some o/\o.ExactDict:=by
    rcases d with⟨l,d⟩|⟨l,d⟩
    .obtain⟨_,_,_,_,o,_,_,e,f,_⟩:=I.hok p _ d;exact⟨o,e,f⟩
    .obtain⟨_,_,_,_,o,_,_,e,f,_⟩:=I.hok p _ d;exact⟨o,e,f⟩
   obtain⟨o,e,f⟩:=z;refine⟨⟨o,e,f.1⟩,λa h=>?_⟩;cases h;exact⟨o,e,f.2.1⟩
  .obtain⟨o,_,_,_,e,f,_⟩:=I.hok p _ d;refine⟨⟨o,e,f.1⟩,λa h=>?_⟩;cases h;exact⟨o,e,f.2.1⟩
 |_=>exact False.elim g
def tBM(K:EC)(T:String)(r:V->List V->Hp->VK->Prop)(g:TE)(t:TA):TE:=λc H Q=>g c H λx d=>tyV K T x d/\t c d λf e=>r x f e Q
variable {o e:Ey}{es:Ex}{to:TE}{t:TA}{name:Str}{qo qr:Pos}{T id:String}{r:V->List V->Hp->VK->Prop}
def rL(w:PlainAttrs T)(f:Slot T name id)(i:typeOf (.builtin id)=pure (.type "method_descriptor"))(O:MtR X id r)(A:PE X o to)(M:PA X (e::es) t)
  (y:attributeBase o name X.env (eval o X.env)=eval o X.env:=by rfl)
  (G:((backTo qr (starEach (e::es) X.env)).all (λx=>!x.1)&&(backToKw qr (keywordEach [] X.env)).all (λx=>x.1.isSome)
   && decide ((e::es).length+([]:List Keyword).length+(if([]:List Keyword).isEmpty then 0 else 1)<30))=true:=by rfl)
  (n:(qo.endLine==qr.line)=true:=by rfl) (q:starEach (e::es) X.env=(false,eval e X.env)::starEach es X.env:=by rfl) (d:(backTo qr (starEach es X.env)).any (·.1)=false:=by rfl):
  PE X (.Call (.Attribute o name qo) (e::es) [] qr) (tBM X.K T r to t):=by
 intro c s g H Q I h;refine a2q y G n rfl (thn (A c s g H _ I h) λv C ⟨x,L,j,l,F,B⟩=>?_);obtain⟨E,J⟩:=oE j l F;refine⟨T,id,w,f,i,E,J,?_⟩;have m:=M qr c C g L _ j B;rw[q]at m ⊢;refine T7 (by show(false||(backTo qr (starEach es X.env)).any (·.1))=false;rw[d]<;>rfl) (a0U ?_);exact thn m λz s2 ⟨N,K,D,p,u⟩=>O c s2 g K x N v z Q D l p u
end
def MtM(X:Cx)(id:String)(r:V->List V->Hp->VK->Prop):Prop:=
 ∀(a:Ep)(s:Eu)(b:St)(H:Hp)(x:V)(c:EH)(v:Value) (d:EE) (Q:VK),Inv X a b H s->RelV x v->Vals c d->r x c H Q->
  wpAny (FK X) X.A (call (.builtin id) (v::d)) (EP X a b Q) X.xe s
def Vals.one:∀{x:V}{a:EE},Vals [x] a->∃u,a=[u]/\RelV x u
 |_,_,.cons r .nil=>⟨_,rfl,r⟩
def Vals.rep{xs:EH}{us:EE}(h:Vals xs us):∀k:Nat,Vals (List.replicate k xs).flatten (List.replicate k us).flatten
 |0=>.nil
 |k+1=>by rw[T6,T6,a0v,a0v];exact Vals.append h (Vals.rep h k)
theorem foldl_rep(its:EE):∀(k:Nat)(a:EE),
  List.foldl (λb c=>b++c) a.toArray (List.replicate k its.toArray)=(a++(List.replicate k its).flatten).toArray
 |0,a=>by simp
 |k+1,a=>by
  have e:a.toArray++its.toArray=(a++its).toArray:=by simp
  have d:(a++its)++(List.replicate k its).flatten=a++(List.replicate (k+1) its).flatten:=by rw[T6,a0v,T3]
  rw[<- d,<- foldl_rep its k (a++its),<- e,T6,R7]
def Inv.D0{its its':EE}{n:Nat}{f:Array Value->Array Value}{t':Nat}(I:Inv X pins σ H s)(d:H l=some (.lst xs))
  (e:s.heap.get? l=some { cls:=.type "list",data:=.seq its.toArray n }) (hf:f its.toArray=its'.toArray) (b:Vals ys its') (hz:ys.length<=sizeLine) (h:X.m<=t':=by ac_rfl):
  Inv X pins σ (upd H l (.lst ys)) { s with heap:=s.heap.update l (Obj.mapSeq f),toks:=t' }:=by
 have q:=PySem.IsL.update e f;rw[hf]at q;refine I.write (x:=l) (e:=l) (by rw[d];exact trivial) (.inl rfl) (λg u a c=>(P0 s.heap (Obj.mapSeq f) (Ne.symm a)).trans c) ⟨_,q⟩ ?_;exact⟨hz,its',_,b,q⟩
def Inv.B4(I:Inv X pins σ H s)(a:Vals ys its)(hz:ys.length<=sizeLine)(b:X.m<=t':=by ac_rfl):
  Inv X pins σ (upd H s.heap.objs.size (.lst ys)) { s with heap:=s.heap.push { cls:=.type "list",data:=.seq its.toArray },toks:=t' }:=
 I.laid (λ_ _ q=>v4 _ q) (E5 _) ⟨hz,its,0,a,G5 _ rfl⟩
def Inv.fresh(I:Inv X pins σ H s):H s.heap.objs.size=none:=I.hok.fresh (E5 _)
def Inv.Bp(I:Inv X pins σ H s)(b:H l=some (.lst xs)):xs.length<=sizeLine/\∃(a:EE)(n:Nat),Vals xs a/\xs.length=a.length/\s.heap.get? l=some { cls:=.type "list",data:=.seq a.toArray n }:=by obtain⟨z,a,n,r,e⟩:=I.hok l _ b;exact⟨z,a,n,r,r.length,e⟩
def lM(h:n<=sizeLine):Builtin.List.listTooLong n=false:=by unfold Builtin.List.listTooLong;exact G6 (by omega)
section
variable {X:Cx}
def rM:V->List V->Hp->VK->Prop:=λx b H Q=>∃l a y,x=.ref l/\b=[y]/\H l=some (.lst a)/\a.length<sizeLine/\Q .non (upd H l (.lst (a++[y])))
def Kq:MtM X "list.append" rM:=by intro c s i H x m v j Q I d g h;obtain⟨l,p,y,rfl,rfl,b,hz,q⟩:=h;cases d;obtain⟨u,rfl,f⟩:=g.one;obtain⟨z,a,n,r,o,e⟩:=I.Bp b;refine call_meets F.slot_list_append ⟨_,e,rfl⟩ F.entry_list_append (F.args_list_append_2 _ _) (PySem.list_append l a.toArray n u (by rw[N5];omega)) ⟨e,?_⟩;refine⟨.non,_,I.D0 (its':=a++[u]) b e (by simp) (r.append (.cons f .nil)) ?_,rfl,q⟩;rw[F7,List.length_singleton];omega
def Dj:R2:=λx y H Q=>∃l b c a,x=.ref l/\y=.ref b/\H l=some (.lst c)/\H b=some (.lst a)/\c.length+a.length<=sizeLine/\∀p,H p=none->Q (.ref p) (upd H p (.lst (c++a)))
def xf:OpR X (binaryOp .Add) Dj:=by
 intro d s t H x y v u Q I g o h;obtain⟨l,b,D,B,rfl,rfl,j,hB,hz,q⟩:=h;cases g;cases o;obtain⟨z,c,n,r,A,e⟩:=I.Bp j;obtain⟨w,a,C,f,p,m⟩:=I.Bp hB;refine PySem.P.add_list e m ?_ (by rw[N5,N5];omega);have i:c.toArray++a.toArray=(c++a).toArray:=by simp
 rw[i];exact⟨.ref _,_,I.B4 (t':=s.toks) (r.append f) (by rw[F7];omega),rfl,q _ I.fresh⟩
def Dk:R2:=λx y H Q=>∃l k a,x=.ref l/\y=.int k/\H l=some (.lst a)/\-(2 ^ 63)<=k/\k<2 ^ 63/\a.length*k.toNat<=sizeLine/\
 ∀p,H p=none->Q (.ref p) (upd H p (.lst (List.replicate k.toNat a).flatten))
def len_rep{b:Type}(xs:List b)(k:Nat):(List.replicate k xs).flatten.length=k*xs.length:=by
 induction k with
 |zero=>simp
 |succ k a=>rw[T6,a0v,F7,a,Nat.succ_mul,a1Q]
def xg:OpR X (binaryOp .Mult) Dk:=by
 intro p s K H x y v u Q I w C h;obtain⟨l,k,M,rfl,rfl,B,D,G,hz,q⟩:=h;cases w;obtain⟨t,rfl⟩:=C;obtain⟨z,b,n,r,J,e⟩:=I.Bp B;have f:b.toArray.size*k.toNat<=sizeLine:=by rw[N5,<- J];exact hz
 have i:¬b.toArray.size*k.toNat>(2 ^ 63-1) / 8:=by
  have:(sizeLine:Nat)<=(2 ^ 63-1) / 8:=by decide
  omega
 have g:¬(!Builtin.List.listFitsIndex k)=true:=by rw[fitsIndex_both D G];exact F6
 have c:¬Builtin.List.listTooLong (b.toArray.size*k.toNat)=true:=by rw[lM f];exact F6
 have d:List.foldl (λo j=>o++j) #[] (List.replicate (if b.toArray.isEmpty=true then 0 else k.toNat) b.toArray)=(List.replicate k.toNat b).flatten.toArray:=by
  have A:∀m:Nat,List.foldl (λo j=>o++j) #[] (List.replicate m b.toArray)=(List.replicate m b).flatten.toArray:=λm=>by have:=foldl_rep b m [];rw[a0Z]at this;exact this
  rw[A];cases b with
  |nil=>simp
  |cons a L=>rw[if_neg (by simp)]
 refine wpAny_binaryOp_repeat_ref (T:="list") (U:="int") (by decide) ⟨_,e,rfl⟩ (λE=>typeIs_int E k t) noFill_list_mul F.fills_int_mul F.slot_int_rmul repeat_list F.slot_int_index.lookup
  (call_meets F.slot_int_rmul (typeIs_int s k t) F.entry_int_rmul (F.args_int_rmul_2 _ _) (int___rmul___int_list k t l b.toArray n)
   ⟨e,rfl,⟨_,e,rfl⟩,call_meets F.slot_list_mul ⟨_,e,rfl⟩ F.entry_list_mul (F.args_list_mul_2 _ _) (AutoListH.list___mul___list_int_3 l b.toArray n k t g i c) ⟨e,?_⟩⟩)
 rw[d];exact⟨.ref _,_,I.B4 (t':=s.toks) (r.rep k.toNat) (by rw[len_rep,Nat.mul_comm];exact hz),rfl,q _ I.fresh⟩
end
section
variable {κ:Type}[DecidableEq κ]
def J5(kvs:List (κ×V))(k:κ):Option V:=(kvs.find? λa=>decide (a.1=k)).map (·.2)
def putK(kvs:List (κ×V))(k:κ)(v:V):List (κ×V):=
 if(kvs.any λa=>decide (a.1=k))=true then kvs.map (λa=>if a.1=k then(a.1,v)else a)else kvs++[(k,v)]
def X5(kvs:List (κ×V))(k:κ):List (κ×V):=kvs.filter λa=>decide (a.1≠k)
def J6{p:κ×V}{r:List (κ×V)}{k:κ}(e:p.1=k):J5 (p::r) k=some p.2:=by simp[J5,List.find?_cons,e]
def J7{p:κ×V}{r:List (κ×V)}{k:κ}(e:¬p.1=k):J5 (p::r) k=J5 r k:=by simp[J5,List.find?_cons,e]
theorem bO(k:κ):∀a:List (κ×V),(a.any λb=>decide (b.1=k))=(J5 a k).isSome
 |[]=>rfl
 |p::r=>by
  rw[R4];by_cases e:p.1=k
  .simp only[J6 e,decide_eq_true e,Bool.true_or,Option.isSome_some]
  .rw[J7 e,G6 e,Bool.false_or];exact bO k r
def vP(kvs:List (κ×V))(k:κ)(v:V):(putK kvs k v).length<=kvs.length+1:=by
 unfold putK;split
 .rw[u8];omega
 .rw[F7,E4,a2e];omega
def VL.wN(r:VL o u):o.isSome=u.isSome:=by
 cases o with
 |none=>cases u with
  |none=>rfl
  |some _=>exact(show False from r).elim
 |some _=>cases u with
  |none=>exact(show False from r).elim
  |some _=>rfl
def VL.getD(r:VL o u)(rd:RelV d d'):RelV (o.getD d) (u.getD d'):=by
 cases o with
 |none=>cases u with
  |none=>exact rd
  |some _=>exact(show False from r).elim
 |some _=>cases u with
  |none=>exact(show False from r).elim
  |some _=>exact r
def KV.val{kvs:List (κ×V)}{vs:List (κ×Value)}(r:KV kvs vs)(k:κ):VL (J5 kvs k) (valueAt vs k):=by
 unfold KV at r
 induction r with
 |nil=>exact True.intro
 |@cons p q i a h t g=>
  obtain⟨d,f⟩:=h;by_cases e:p.1=k
  .have c:q.1=k:=d.symm.trans e;have b:valueAt (q::a) k=some q.2:=by simp[valueAt,List.find?_cons,c]
   rw[J6 e,b];exact f
  .have c:¬q.1=k:=λz=>e (d.trans z);have b:valueAt (q::a) k=valueAt a k:=by simp[valueAt,List.find?_cons,c]
   rw[J7 e,b];exact g
def KV.any{kvs:List (κ×V)}{vs:List (κ×Value)}(r:KV kvs vs)(k:κ):(kvs.any λa=>decide (a.1=k))=vs.any λa=>decide (a.1=k):=by
 unfold KV at r
 induction r with
 |nil=>rfl
 |cons h t b=>rw[R4,R4,b,h.1]
def KV.B5{kvs:List (κ×V)}{vs:List (κ×Value)}(r:KV kvs vs)(k:κ)(d:RelV y u):
  KV (kvs.map λa=>if a.1=k then(a.1,y)else a) (vs.map λa=>if a.1=k then(a.1,u)else a):=by
 unfold KV at r ⊢
 induction r with
 |nil=>exact .nil
 |@cons p q i g h t f=>
  rw[F3,F3];refine .cons ?_ f;obtain⟨b,c⟩:=h;by_cases e:p.1=k
  .rw[if_pos e,if_pos (b.symm.trans e)];exact⟨b,d⟩
  .rw[if_neg e,if_neg (λz=>e (b.trans z))];exact⟨b,c⟩
def KV.put{kvs:List (κ×V)}{vs:List (κ×Value)}(r:KV kvs vs)(k:κ)(a:RelV y u):KV (putK kvs k y) (stored vs k u):=by
 unfold putK stored;rw[r.any k];by_cases e:(vs.any λb=>decide (b.1=k))=true
 .rw[if_pos e,if_pos e];exact r.B5 k a
 .rw[if_neg e,if_neg e];exact Paired.snoc r ⟨rfl,a⟩
def KV.drop{kvs:List (κ×V)}{vs:List (κ×Value)}(r:KV kvs vs)(k:κ):KV (X5 kvs k) (without vs k):=by
 unfold KV at r ⊢;unfold X5 without
 induction r with
 |nil=>exact .nil
 |@cons p q j i h t d=>
  obtain⟨c,f⟩:=h;rw[a1f,a1f];by_cases e:p.1=k
  .have a:¬decide (p.1≠k)=true:=by simp[e]
   have b:¬decide (q.1≠k)=true:=by simp[c.symm.trans e]
   rw[if_neg a,if_neg b];exact d
  .have g:¬q.1=k:=λz=>e (c.trans z);have a:decide (p.1≠k)=true:=by simp[e]
   have b:decide (q.1≠k)=true:=by simp[g]
   rw[if_pos a,if_pos b];exact .cons ⟨c,f⟩ d
def KV.length{kvs:List (κ×V)}{vs:List (κ×Value)}(r:KV kvs vs):kvs.length=vs.length:=P9 r
def lN(kvs:List (κ×V))(k:κ):(X5 kvs k).length<=kvs.length:=a1h _ _
end
def WE(r:RelV (kV k) u):(zV P w).is k u=true:=by
 cases k with
 |inl i=>obtain⟨t,e⟩:=(show ∃t,u=Value.int i t from r);subst e;exact U9 P w i t
 |inr x=>obtain⟨t,e⟩:=(show ∃t,u=Value.str x t from r);subst e;exact U_ P w x t
theorem X6{P:Ez}{w:EF}:∀{ks:EG}{a:EE},Vals (ks.map kV) a->ItemsAre (zV P w) ks a
 |[],_,r=>by rw[a0Q]at r;cases r;exact .nil
 |k::ks,_,r=>by
  rw[F3]at r;cases r with
  |cons h t=>exact .cons (WE h) (X6 t)
abbrev KT(H:Hp):List (List Key×V)->List (List Key×Addr×Value)->Prop:=Paired λp q=>p.1=q.1/\H q.2.1=some (.tup (p.1.map kV))/\RelV p.2 q.2.2
def KT.val(r:KT H kvs xs)(k:EG):VL (J5 kvs k) ((atKey xs k).map (·.2)):=by
 induction r with
 |nil=>exact True.intro
 |@cons p q i a h t g=>
  obtain⟨d,_,f⟩:=h;by_cases e:p.1=k
  .have c:q.1=k:=d.symm.trans e;have b:atKey (q::a) k=some q.2:=by simp[atKey,List.find?_cons,c]
   rw[J6 e,b];exact f
  .have c:¬q.1=k:=λz=>e (d.trans z);have b:atKey (q::a) k=atKey a k:=by simp[atKey,List.find?_cons,c]
   rw[J7 e,b];exact g
def KT.B5(r:KT H kvs xs)(k:EG)(f:RelV y u):
  KT H (kvs.map λb=>if b.1=k then(b.1,y)else b) (xs.map (putAt k u)):=by
 induction r with
 |nil=>exact .nil
 |@cons p q j i h t g=>
  rw[F3,F3];refine .cons ?_ g;obtain⟨a,c,d⟩:=h;unfold putAt;by_cases e:p.1=k
  .rw[if_pos e,if_pos (a.symm.trans e)];exact⟨a,c,f⟩
  .rw[if_neg e,if_neg (λz=>e (a.trans z))];exact⟨a,c,d⟩
def KT.put(r:KT H kvs xs)(k:EG)(c:H b=some (.tup (k.map kV)))(a:RelV y u):
  KT H (putK kvs k y) (storedH xs k b u):=by
 have e:(kvs.any λd=>decide (d.1=k))=(atKey xs k).isSome:=by rw[bO,(r.val k).wN,a0O]
 unfold putK storedH;rw[e];by_cases q:(atKey xs k).isSome=true
 .rw[if_pos q,if_pos q];exact r.B5 k a
 .rw[if_neg q,if_neg q];exact Paired.snoc r ⟨rfl,c,a⟩
def KT.keeps(r:KT H kvs xs)(c:∀b a,H b=some (.tup a)->H' b=some (.tup a)):KT H' kvs xs:=
 Paired.BI r λ_ _ z=>⟨z.1,c _ _ z.2.1,z.2.2⟩
def xh(ok:HOk P w H h)(e:Rd H a u):y8 P w H h a u:=e.ok ok
def vf(ok:HOk P w H h)(e:Rd H a (.dK kvs)):kvs.length<=sizeLine/\(a==sysModules)=false/\∃b,KV kvs b/\h.DictOf (zV P w) a b:=
 show y8 P w H h a (.dK kvs)from xh ok e
def lO(ok:HOk P w H h)(e:H a=some (.dK kvs)):kvs.length<=sizeLine/\(a==sysModules)=false/\∃b,KV kvs b/\h.DictOf (zV P w) a b:=vf ok (.inl e)
def V9(ok:HOk P w H h)(e:H a=some (.tup (ks.map kV))):(tupleKind (zV P w)).is h ks a:=by obtain⟨_,b,r,o,f,c,n,d⟩:=(show y8 P w H h a (.tup (ks.map kV))from ok a _ e);exact⟨o,b.toArray,n,f,c,d,by simpa using X6 r⟩
def ar(ok:HOk P w H h)(e:Rd H a (.dT kvs)):kvs.length<=sizeLine/\(a==sysModules)=false/\
  ∃c,KT H kvs c/\h.DictOfH (tupleKind (zV P w)) a c:=by
 obtain⟨z,y,c,r,o,g,u,i,n,s,j,v⟩:=(show y8 P w H h a (.dT kvs)from xh ok e);refine⟨z,y,c,r,o,g,u,i,n,s,j,λx b=>?_,v⟩;have all:∀{l:Fx}{m:List (List Key×Addr×Value)},KT H l m->∀x∈m,(tupleKind (zV P w)).is h x.1 x.2.1:=by
  intro l m q
  induction q with
  |nil=>intro x b;exact nomatch b
  |@cons p q B A d t f=>
   intro x b;rcases F0.mp b with e|b
   .subst e;exact V9 ok (by rw[<- d.1];exact d.2.1)
   .exact f x b
 exact all r x b
def B6(ok:HOk P w H h)(e:H a=some (.dT kvs)):kvs.length<=sizeLine/\(a==sysModules)=false/\
  ∃b,KT H kvs b/\h.DictOfH (tupleKind (zV P w)) a b:=ar ok (.inl e)
def XM(H:Hp)(a:Addr)(y:V)(r:Option V):Prop:=
 (∃c k,Rd H a (.dK c)/\y=kV k/\r=J5 c k)\/∃c k b,Rd H a (.dT c)/\y=.ref b/\H b=some (.tup (k.map kV))/\r=J5 c k
def oF(H:Hp)(a:Addr)(y v:V)(H':Hp):Prop:=
 (∃c k,H a=some (.dK c)/\y=kV k/\c.length<sizeLine/\H'=upd H a (.dK (putK c k v)))\/
 ∃c k b,H a=some (.dT c)/\y=.ref b/\H b=some (.tup (k.map kV))/\c.length<sizeLine/\H'=upd H a (.dT (putK c k v))
theorem XM.k{H:Hp}{a:Addr}{kvs:Et}{k:Fg}(e:H a=some (.dK kvs)):XM H a (kV k) (J5 kvs k):=.inl ⟨kvs,k,.inl e,rfl,rfl⟩
theorem oF.k{H:Hp}{a:Addr}{kvs:Et}{k:Fg}{v:V}(e:H a=some (.dK kvs))(b:kvs.length<sizeLine):oF H a (kV k) v (upd H a (.dK (putK kvs k v))):=.inl ⟨kvs,k,e,rfl,b,rfl⟩
def Inv.big(I:Inv X pins σ H s):sysModules<s.heap.objs.size:=by have h:mainGlobals<s.heap.objs.size:=(I.mod.glob.keeps I.bk).lt;exact a1o (by decide) h
def X7(B:A.units+1<cLine)(I:Inv X pins σ H s)(g:XM H a y (some v))(q:RelV y u)(h:∀d r,Inv X pins σ H r->RelV v d->Q d r):
  wpAny (FK X) A (getItem (.ref a) u) Q E s:=by
 rcases g with⟨m,k,e,j,l⟩|⟨m,k,b,e,j,x,l⟩
 .subst j;obtain⟨z,t,w,c,f⟩:=vf I.hok e;obtain⟨d,n,rw'⟩:=VL.some_of (v:=v) (o:=valueAt w k) (by rw[l];exact c.val k);exact wpAny_getItem_of (WE q) f.mapOf n (h d _ (I.tok _) rw')
 .subst j;cases(show u=Value.ref b from q);obtain⟨z,t,C,c,f⟩:=ar I.hok e;obtain⟨d,n,rw'⟩:=VL.some_of (v:=v) (o:=(atKey C k).map (·.2)) (by rw[l];exact c.val k);obtain⟨p,hp,i⟩:=v2.mp n;refine wpAny_getItem_heap (a0M B) (V9 I.hok x) f hp ?_;rw[i];exact h d _ (I.tok _) rw'
def D3(p:A.units+1<cLine)(I:Inv X pins σ H s)(g:XM H a y o)(m:RelV y u)(h:∀n,Inv X pins σ H n->Q (.bool o.isSome) n):
  wpAny (FK X) A (compareOp .In u (.ref a)) Q E s:=by
 rcases g with⟨f,k,e,i,l⟩|⟨f,k,b,e,i,r,l⟩
 .subst i;obtain⟨z,d,v,c,j⟩:=vf I.hok e;refine wpAny_in_of (WE m) d j.mapOf ?_;rw[<- (c.val k).wN,<- l];exact h _ (I.tok _)
 .subst i;cases(show u=Value.ref b from m);obtain⟨z,d,t,c,j⟩:=ar I.hok e;refine wpAny_in_heap (a0M p) (V9 I.hok r) d j ?_;have q:=(c.val k).wN;rw[a0O]at q;rw[<- q,<- l];exact h _ (I.tok _)
def rN(p:A.units+1<cLine)(I:Inv X pins σ H s)(g:XM H a y o)(m:RelV y u)(h:∀n,Inv X pins σ H n->Q (.bool (!o.isSome)) n):
  wpAny (FK X) A (compareOp .NotIn u (.ref a)) Q E s:=by
 rcases g with⟨f,k,e,i,l⟩|⟨f,k,b,e,i,r,l⟩
 .subst i;obtain⟨z,d,v,c,j⟩:=vf I.hok e;refine wpAny_notIn_of (WE m) d j.mapOf ?_;rw[<- (c.val k).wN,<- l];exact h _ (I.tok _)
 .subst i;cases(show u=Value.ref b from m);obtain⟨z,d,t,c,j⟩:=ar I.hok e;refine wpAny_notIn_heap (a0M p) (V9 I.hok r) d j ?_;have q:=(c.val k).wN;rw[a0O]at q;rw[<- q,<- l];exact h _ (I.tok _)
def Kr(I:Inv X pins σ H s)(f:Mut (H a))(d:Heap.SameBut a s.heap h')(he:∃q,h'.get? a=some q)(new:y8 X.prog X.w (upd H a ob) h' a ob)(g:X.m<=t':=by ac_rfl):
  Inv X pins σ (upd H a ob) { s with heap:=h',toks:=t' }:=
 I.write (x:=a) (e:=a) f (.inl rfl) (λb q c z=>(d.2 b c).trans z) he new
def V_(z:kvs.length<=sizeLine)(c:(a==sysModules)=false)(b:KV kvs vs)(d:h'.DictOf (zV P w) a vs):
  y8 P w H' h' a (.dK kvs):=⟨z,c,vs,b,d⟩
def X8(P:A.units+1<cLine)(I:Inv X pins σ H s)(g:oF H a y v H')(B:RelV y u)(D:RelV v r)(h:∀C,Inv X pins σ H' C->Q () C):
  wpAny (FK X) A (setItem (.ref a) u r) Q E s:=by
 rcases g with⟨f,k,e,o,l,p⟩|⟨f,k,b,e,o,F,l,p⟩
 .subst o p;obtain⟨z,t,N,d,n⟩:=lO I.hok e;have hz:N.length<=sizeLine:=by rw[<- d.length];exact z
  have w:(putK f k v).length<=sizeLine:=by have:=vP f k v;omega
  refine wpAny_setItem_pairs (hsz:=hz) (WE B) n λx i m=>h _ ?_;have G:∃q,x.get? a=some q:=let⟨q,_,_,j,_⟩:=i;⟨q,j⟩
  exact Kr I (by rw[e];exact True.intro) m G (V_ w t (d.put k D) i)
 .subst o p;cases(show u=Value.ref b from B);obtain⟨z,t,R,d,n⟩:=B6 I.hok e;have hz:R.length<=sizeLine:=by rw[<- P9 d];exact z
  have w:(putK f k v).length<=sizeLine:=by have:=vP f k v;omega
  refine wpAny_setItem_heap (hsz:=hz) (a0M P) (V9 I.hok F) n λx i m=>h _ ?_;obtain⟨q,J,O,j,L,M,K,_,S⟩:=i;refine Kr I (by rw[e];exact True.intro) m ⟨q,j⟩ ⟨w,t,_,(d.put k F D).keeps λc T ec=>?_,q,J,O,j,L,M,K,S⟩;rw[zh (BH ec e (λz=>nomatch z))];exact ec
def B7(I:Inv X pins σ H s)(e:H a=some (.dK kvs))(f:RelV (kV k) u)(l:J5 kvs k=some v)(n:more=[]\/∃x,more=[x])
  (h:∀d j,Inv X pins σ (upd H a (.dK (X5 kvs k))) j->RelV v d->Q d j):wpAny (FK X) A (call (.builtin "dict.pop") (.ref a::u::more)) Q E s:=by
 obtain⟨z,y,m,b,g⟩:=lO I.hok e;obtain⟨d,C,rw'⟩:=VL.some_of (v:=v) (o:=valueAt m k) (by rw[<- l];exact b.val k);have hp:(keyPart u).isSome=true:=by
  cases k with
  |inl i=>obtain⟨t,q⟩:=(show ∃t,u=Value.int i t from f);subst q;rfl
  |inr x=>obtain⟨t,q⟩:=(show ∃t,u=Value.str x t from f);subst q;rfl
 have B:argsOk "dict.pop" ⟨.ref a::u::more,[]⟩:=by
  rcases n with q|⟨x,q⟩
  .subst q;exact PySem.F.args_dict_pop_2 _ _
  .subst q;exact PySem.F.args_dict_pop_3 _ _ _
 refine a0c a2F g.typeIs PySem.F.entry_dict_pop B (meets_dict_pop_there (zV X.prog X.w) a (WE f) more n hp)
  ⟨m,d,g,by rw[<- b.length];exact z,C,λp c r=>h d _ ?_ rw'⟩
 have w:∃q,p.get? a=some q:=let⟨q,_,_,hq,_⟩:=c;⟨q,hq⟩
 exact Kr I (by rw[e];exact True.intro) r w (V_ (F9 (lN kvs k) z) y (b.drop k) c)
def B8(I:Inv X pins σ H s)(e:Rd H a (.dK kvs))(h:∀t c,Inv X pins σ H c->Q (.int kvs.length t) c):wpAny (FK X) A (call (.builtin "len") [.ref a]) Q E s:=by obtain⟨z,d,g,b,f⟩:=vf I.hok e;refine call_len_dict d f (by rw[<- b.length];rw[a0N]at z;omega) ?_;rw[<- b.length];exact h _ _ (I.tok _)
def au(I:Inv X pins σ H s)(g:XM H a y o):s.TypeIs (.ref a) "dict":=by
 rcases g with⟨c,k,e,_,_⟩|⟨c,k,b,e,_,_,_⟩
 .obtain⟨_,_,h,_,d⟩:=vf I.hok e;exact d.typeIs
 .obtain⟨_,_,f,_,d⟩:=ar I.hok e;exact d.typeIs
def B9(i d h:TE):TS:=λD b H=>h b H λv g=>i b g λx f=>d b f λy e=>∃a c,x=.ref a/\oF e a y v c/\D.nx b c
def B_(l f j:TE)(rd:V->V->Hp->VK->Prop):TS:=λD b H=>l b H λx h=>f b h λy d=>∃a v,x=.ref a/\XM d a y (some v)/\
 j b d λi g=>rd v i g λz e=>∃c,oF e a y z c/\D.nx b c
def fb(K:X.A.units+1<cLine)(l:PE X o td)(J:PE X i ty)(t:PE X value tv)(e:swapsWith value (some (.Subscript o i pos')) pos.line X.env=pure false):
  PS X (.Assign [.Subscript o i pos'] value pos) (B9 td ty tv):=by
 intro b s c H D I h;refine wpAny_Assign_Subscript (thn (t b s c H _ I h) λr n ⟨v,C,w,A,m⟩=>thn (l b n c C _ w m) λu s2 ⟨x,B,p,d,f⟩=>thn (J b s2 c B _ p f) λN L ⟨y,O,G,q,a,E,F,g,j⟩=>?_) e;subst F;obtain rfl:u=Value.ref a:=d;exact X8 K G g q A λM z=>⟨c,E,z,j⟩
def rO(m:X.A.units+1<cLine)(C:PE X o td)(W:PE X i ty)(L:PE X value tv)(j:uD X op rd)
  (S:∀e d new,augStore i e d new=(do holding [new,e,d] (setItem e d new);release [new,e,d] [];pure .next)):PS X (.AugAssign (.Subscript o i tpos) op value pos) (B_ td ty tv rd):=by
 intro b s c H D I h;refine wpAny_AugAssign_SubscriptAny (thn (C b s c H _ I h) λu J ⟨x,R,M,p,F⟩=>thn (W b J c R _ M F) λd s2 ⟨y,Q,K,l,a,v,T,g,q⟩=>?_) S;subst T;obtain rfl:u=Value.ref a:=p;refine X7 m K g l λO A U rw'=>thn (L b A c Q _ U q) λY B ⟨w,Z,P,f,r⟩=>thn (j b B c Z v w O Y _ P rw' f r) λw3 s5 ⟨z,H4,t,n,N,g5,E⟩=>?_;exact X8 m t g5 l n λs6 G=>⟨c,N,G,E⟩
def bP(h:Heap)(a:sysModules<h.objs.size):y8 P w H (h.push { cls:=.type "dict",data:=.dict #[] }) h.objs.size (.dK []):=
 ⟨P4 _,T5.mpr (Ne.symm (F1 a)),[],.nil,Heap.DictOf.new h⟩
def xi:TE:=λ_ H Q=>∀p,H p=none->Q (.ref p) (upd H p (.dK []))
def lP:PE X (.Dict [] [] pos) xi:=λb s c H Q I h=>
 wpAny_Dict_empty ⟨.ref s.heap.objs.size,_,I.laid (a:=s.heap.objs.size) (o:=.dK []) (t':=s.toks) (λ_ _ q=>v4 _ q) (E5 _) (bP s.heap I.big),rfl,h _ (I.hok.fresh (E5 _))⟩
def fc:List (TE×TE)->St->Hp->(List (V×V)->Hp->Prop)->Prop
 |[],_,H,Q=>Q [] H
 | (c,g)::r,a,H,Q=>c a H λx f=>g a f λy e=>fc r a e λb d=>Q ((x,y)::b) d
abbrev VV:List (V×V)->List (Value×Value)->Prop:=Paired λp q=>RelV p.1 q.1/\RelV p.2 q.2
def PPs(X:Cx)(e:Pos)(keys:List (Option Expr))(a:Ex)(d:List (TE×TE)):Prop:=
 ∀(b:Ep)(s:Eu)(c:St)(H:Hp)(Q:List (V×V)->Hp->Prop),Inv X b c H s->fc d c H Q->
  wpAny (FK X) X.A (evalPairs (pairTrees keys a X.env e)) (λh i=>∃f g,Inv X b c g i/\VV f h/\Q f g) X.xe s
def rP:PPs X pos [] [] []:=λa s b H Q I h=>pairTrees_nil_walk ⟨[],H,I,.nil,h⟩
def lQ(r:PE X k tk)(m:PE X v tv)(o:PPs X pos ks vs trs):
  PPs X pos (some k::ks) (v::vs) ((tk,tv)::trs):=λa s b H Q I h=>
 pairTrees_cons_walk (thn (r a s b H _ I h) λu i ⟨x,q,n,d,g⟩=>thn (m a i b q _ n g) λB s2 ⟨y,p,j,l,e⟩=>
  thn (o a s2 b p _ j e) λws A ⟨t,z,w,c,f⟩=>⟨(x,y)::t,z,w,.cons ⟨d,l⟩ c,f⟩)
def X9(kvs more:Et):List (Key×V):=more.foldl (λa b=>putK a b.1 b.2) kvs
def KV.merge:∀{more:Et}{c:EZ}{a:Et}{b:EZ},KV more c->KV a b->KV (X9 a more) (merged b c):=by
 intro more c a b r;unfold KV at r
 induction r generalizing a b with
 |nil=>intro q;exact q
 |@cons p q i g h t f=>
  intro d;have e:KV (putK a p.1 p.2) (stored b q.1 q.2):=by have:=d.put p.1 h.2;rw[<- h.1];exact this
  exact f e
theorem YN:∀(more a:Et),(X9 a more).length<=a.length+more.length
 |[],a=>by show a.length<=a.length+0;omega
 |p::r,a=>by have c:=YN r (putK a p.1 p.2);have b:=vP a p.1 p.2;show(X9 (putK a p.1 p.2) r).length<=_;rw[E4];omega
theorem Wa{P:Ez}{w:EF}:∀{d:Et}{ws:List (Value×Value)},VV (d.map λf=>(kV f.1,f.2)) ws->∃e,Carries (zV P w) ws e/\KV d e
 |[],_,r=>by rw[a0Q]at r;cases r;exact⟨[],True.intro,.nil⟩
 |p::d,_,r=>by
  rw[F3]at r;cases r with
  |@cons a b j bs h t=>obtain⟨e,c,q⟩:=Wa (P:=P) (w:=w) t;obtain⟨i,g⟩:=b;exact⟨(p.1,g)::e,⟨WE h.1,rfl,c⟩,.cons ⟨rfl,h.2⟩ q⟩
def Ca(b:List (TE×TE)):TE:=λe H Q=>∀p,H p=none->fc b e (upd H p (.dK [])) λf c=>c p=some (.dK [])/\∃a:List (Key×V),f=a.map (λd=>(kV d.1,d.2))/\a.length<=15/\Q (.ref p) (upd c p (.dK (X9 [] a)))
def rQ(h:PPs X pos keys values trs)(d:keys.all (·.isSome)=true)(D:keys.length=values.length)(y:keys≠[])
  (i:keys.length<=15):PE X (.Dict keys values pos) (Ca trs):=by
 intro g s n H Q I q;have hn:=I.hok.fresh (E5 s.heap.objs.size);have x:=I.laid (a:=s.heap.objs.size) (o:=.dK []) (h':=s.heap.push { cls:=.type "dict",data:=.dict #[] }) (t':=s.toks) (λ_ _ q=>v4 _ q) (E5 _) (bP s.heap I.big);refine wpAny_Dict_walk (knd:=zV X.prog X.w) d D y i (thn (h g _ n _ _ x (q _ hn)) λws s2 ⟨K,J,m,j,e,f,C,G,r⟩=>?_);subst C;obtain⟨u,c,rk⟩:=Wa (P:=X.prog) (w:=X.w) j;obtain⟨z,B,F,E,t⟩:=lO m.hok e;cases E;refine⟨u,c,t,λl b p=>⟨.ref s.heap.objs.size,_,?_,rfl,r⟩⟩;have hz:(X9 [] f).length<=sizeLine:=by have A:=YN f [];rw[a2e]at A;rw[a0N];omega
 have v:∃q,l.get? s.heap.objs.size=some q:=let⟨q,_,_,hq,_⟩:=b;⟨q,hq⟩
 exact Kr m (by rw[e];exact True.intro) p v (V_ hz B (rk.merge .nil) b)
structure M1(X:Cx)(o:Ey)(m:Str)(qo:Pos)(e:Ey)(qr:Pos):Prop where
 base:attributeBase o m X.env (eval o X.env)=eval o X.env
 few:((backTo qr (starEach [e] X.env)).all (λx=>!x.1)&&(backToKw qr (keywordEach [] X.env)).all (λx=>x.1.isSome)
  && decide (([e]:List Expr).length+([]:List Keyword).length+(if([]:List Keyword).isEmpty then 0 else 1)<30))=true
 line:(qo.endLine==qr.line)=true
 trees:backTo qr (starEach [e] X.env)=[(false,eval e X.env)]
structure M2(X:Cx)(o:Ey)(m:Str)(qo:Pos)(e f:Ey)(qr:Pos):Prop where
 base:attributeBase o m X.env (eval o X.env)=eval o X.env
 few:((backTo qr (starEach [e,f] X.env)).all (λx=>!x.1)&&(backToKw qr (keywordEach [] X.env)).all (λx=>x.1.isSome)
  && decide (([e,f]:List Expr).length+([]:List Keyword).length+(if([]:List Keyword).isEmpty then 0 else 1)<30))=true
 line:(qo.endLine==qr.line)=true
 trees:backTo qr (starEach [e,f] X.env)=[(false,eval e X.env),(false,eval f X.env)]
def IsD(H:Hp)(a:Addr):Prop:=(∃b,Rd H a (.dK b))\/∃b,Rd H a (.dT b)
def bQ(I:Inv X pins σ H s)(d:IsD H a):
  s.TypeIs (.ref a) "dict"/\(∀b,Value.ref a=.ref b->∃ob,s.heap.get? b=some ob/\ob.dict=none)/\(a==sysModules)=false:=by
 rcases d with⟨h,e⟩|⟨h,e⟩
 .obtain⟨_,f,l,_,c⟩:=vf I.hok e;refine⟨c.typeIs,λb q=>?_,f⟩;cases q;obtain⟨ob,_,_,i,g,_⟩:=c;exact⟨ob,i,g.2.1⟩
 .obtain⟨_,f,j,_,c⟩:=ar I.hok e;refine⟨c.typeIs,λb q=>?_,f⟩;cases q;obtain⟨ob,_,_,i,g,_⟩:=c;exact⟨ob,i,g.2.1⟩
def xj(q:A.units+1<cLine)(I:Inv X pins σ H s)(g:XM H a y o)(n:RelV y u)(h:∀m p,Inv X pins σ H p->RelV (o.getD .non) m->Q m p):
  wpAny (FK X) A (call (.builtin "dict.get") [.ref a,u]) Q E s:=by
 rcases g with⟨i,k,e,j,l⟩|⟨i,k,b,e,j,t,l⟩
 .subst j;obtain⟨z,f,v,c,d⟩:=vf I.hok e;refine a0c a1i d.typeIs a2r (a15 _ _) (meets_dict_get (zV X.prog X.w) a (WE n) f) ⟨_,d.mapOf,h _ _ (I.tok _) ?_⟩;rw[l];exact(c.val k).getD rfl
 .subst j;cases(show u=Value.ref b from n);obtain⟨z,f,r,c,d⟩:=ar I.hok e;refine a0c a1i d.typeIs a2r (a15 _ _) (meetsH_dict_get (tupleKind (zV X.prog X.w)) a b f) ⟨a0M q,k,r,V9 I.hok t,d,h _ _ (I.tok _) ?_⟩;rw[l];exact(c.val k).getD rfl
def xk(f e:TE):TE:=λb H Q=>f b H λx d=>∃a,x=.ref a/\IsD d a/\e b d λy c=>∃o,XM c a y o/\Q (o.getD .non) c
def xl(g f:TE):TE:=λc H Q=>g c H λx e=>∃a,x=.ref a/\IsD e a/\f c e λy d=>∃b k v,d a=some (.dK b)/\y=kV k/\J5 b k=some v/\Q v (upd d a (.dK (X5 b k)))
def lS(C:X.A.units+1<cLine)(n:PE X o td)(he:PE X e ty)(m:M1 X o "get" qo e qr):PE X (.Call (.Attribute o "get" qo) [e] [] qr) (xk td ty):=by intro b s c H Q I h;refine wpAny_Call_method m.base m.few m.line a0i a1i PySem.F.type_dict_get (thn (n b s c H _ I h) λu q ⟨x,z,f,i,a,A,d,p⟩=>?_);subst A;obtain rfl:u=Value.ref a:=i;obtain⟨j,v,_⟩:=bQ f d;refine⟨j,v,?_⟩;rw[m.trees];refine T7 rfl (a0U (P6 (thn (he b q c z _ f p) λG s2 ⟨y,w,r,t,E,g,l⟩=>a0f ?_)));exact xj C r g t λF D B rw'=>⟨_,w,B,rw',l⟩
def lU(p:PE X o td)(he:PE X e ty)(m:M1 X o "pop" qo e qr):PE X (.Call (.Attribute o "pop" qo) [e] [] qr) (xl td ty):=by intro b s c H Q I h;refine wpAny_Call_method m.base m.few m.line a0i a2F PySem.F.type_dict_pop (thn (p b s c H _ I h) λu r ⟨x,B,f,g,a,C,d,q⟩=>?_);subst C;obtain rfl:u=Value.ref a:=g;obtain⟨j,A,_⟩:=bQ f d;refine⟨j,A,?_⟩;rw[m.trees];refine T7 rfl (a0U (P6 (thn (he b r c B _ f q) λK s2 ⟨y,J,t,w,E,k,v,i,z,l,n⟩=>a0f ?_)));subst z;exact B7 t i w l (.inl rfl) λG F D rw'=>⟨v,_,D,rw',n⟩
def lV(I:Inv X pins σ H s)(e:Rd H a (.dK kvs))(h:∀p g,H p=none->Inv X pins σ (upd H p (.dK kvs)) g->Q (.ref p) g):wpAny (FK X) A (call (.type "dict") [.ref a]) Q E s:=by obtain⟨z,i,n,c,l⟩:=vf I.hok e;refine kt_call_dict i l (by rw[<- c.length];exact z) λm d j=>?_;refine h _ _ (I.hok.fresh (E5 _)) (I.laid (a:=s.heap.objs.size) (o:=.dK kvs) (t':=s.toks) (λb q f=>?_) (E5 _) (V_ z (T5.mpr (Ne.symm (F1 I.big))) c d));exact(j.2 b (F1 (E6 f))).trans (v4 _ f)
end L2
namespace Att
open PySem PySem.W PySem.Calls PyProof.Rows
def Kt:∀(c:EW)(d:EE),WellAll P h d (c.map WData.int)->IntsAre d c:=by
 intro c
 induction c with
 |nil=>intro d w;rw[a0Q]at w;cases w;exact .nil
 |cons n c e=>
  intro d w;rw[F3]at w;cases w with
  |cons a b=>cases a;exact .cons _ _ (e _ b)
def ff{l:OpenLaw}{n:Nat}(hn:l.most=some n){P:Params}{h:Heap}{args:List WData}{e:EE}
  (c:l.row.toRowW.claim.pre args=true) (m:WellAll P h e args):
  ∃a s b,e=[Value.ref a]/\args=[WData.list (b.map WData.int)]/\h.get? a=some { cls:=.type "list",data:=.seq s.toArray }/\IntsAre s b/\b.length<=n:=by
 have o:WShape.hasAll [] args [.list .int]=true:=(pre_splitW c).1;have p:l.pre.holds [] { args:=args }=true:=(pre_splitW c).2;obtain⟨d,r,rfl,u,v⟩:=hasAllW_cons o;obtain rfl:=hasAllW_nil v;obtain⟨A,rfl,w⟩:=hasW_list u;obtain⟨b,rfl⟩:=items_int w;have g:b.length<=n:=by
  unfold OpenLaw.pre at p;have i:(WTm.not (.lt (.lit (.int (n:Int))) (.len (.arg 0)))).holds [] { args:=[.list (b.map .int)] }=true:=by have i:=(holds_andW p).1;rw[hn]at i;exact i
  have j:=condW_of i (w_not (w_lt w_lit (w_len_list (w_arg rfl))));rw[u8]at j;refine Nat.le_of_not_lt λq=>?_;have x:(n:Int)<((b.length:Nat):Int):=by omega
  first
   | (rw[L9 x]at j;exact absurd j (by decide))
   | (simp at j;omega)
 cases m with
 |cons y z=>
  cases z;cases y with
  |list t f=>exact⟨_,_,b,rfl,rfl,t,Kt b _ f,g⟩
def fg(l:OpenLaw)(args:List WData):l.row.toRowW.claim.post args (.bool true) args=true:=
 postW_of (r:=l.row.toRowW) (X:=(true==true))
  (show WShape.has [] (.bool true) .bool=true by first|rfl|decide|simp[WShape.has,WShape.arms,WShape.armsAll])
  (show(WTm.eq .res (.lit (.bool true))).value [] { args:=args,res:=some (.bool true),after:=args }=some (.bool (true==true))from w_eq_bool (w_res rfl) w_lit) rfl
def aw{l:OpenLaw}{n:Nat}{q:Ez}{e:EB}{F:(Str->Option Value)->Heap->Prop}{C:World->Heap->Prop}{d:DefRec}
  (hn:l.most=some n) (B:d.params.defaults=[])
  (call:∀(w:EF)(c b:Eu)(s A:Er)(fa:Addr)(o:Obj)(z cd h:Value)(a:Addr) (i:EE) (u:EW),
   Ground q e [] F w c s A b.heap->C w b.heap->
   b.heap.get? fa=some o->o.data=.func (docDef d.name d.params d.body d.scope z cd h)->b.heap.CodeRec cd d.name->s d.name=some (.ref fa)->
   b.heap.get? a=some { cls:=.type "list",data:=.seq i.toArray }->IntsAre i u->u.length<=n->b.gens = #[]->
   codeAny (model l.prog w) callerA (.call (.ref fa) ⟨[.ref a],[]⟩) (λr t=>r=.ok (.ret (.bool true))/\OldK b.heap t.heap/\t.os=b.os/\AllBare t.gens) b):
  WalkO q e F C l.row.toRowW d [] (λf i=>PySem.call f i):=by
 intro w c b s A G Y fa o z cd h I kV K M y E x J args D T m H R v Q;obtain rfl:I=.none:=Dflts.none E B;obtain rfl:kV=.none:=Dflts.noKw E;obtain⟨a,i,u,rfl,rfl,j,g,p⟩:=ff hn m v;refine enter_call (a0b (call w c b s A fa o z cd h a i u G Y K (fd_plain M) y x j g p J) λr t P=>?_);obtain⟨rfl,N,O,L⟩:=P;exact⟨.inl ⟨.bool true,.bool true,[],rfl,λ_=>rfl,.bool true,fg l _,λ_=>⟨List.Pairwise.nil,λ_ S=>(nomatch S)⟩⟩,N,O,L⟩
end Att
namespace L2
open PySem PySem.Spec PyProof.Rows
theorem X_:∀{a:EE}{b:EW},IntsAre a b->Vals (b.map V.int) a
 |_,_,.nil=>.nil
 |_,_,.cons n t h=>.cons ⟨t,rfl⟩ (X_ h)
def Cb(H:Hp):Prop:=∀b,H b=none\/∃o a,H b=some (.frz o (.lst a))
def lW{P:Ez}{w:EF}{K:EC}{t N:Er}{CX:CXT}{k:Nat}{fa a:Addr}{X:EL}{x:Str}{sp:Sp}{c:Eu}{vs:EE}{ns:EW}
  (U:K.In c.heap) (E:c.heap.Ns mainGlobals t) (g:c.heap.Ns builtinsNs N) (O:∀x:Str,x≠"__name__"->N x=bootBuiltins x) (I:c.heap.NoLimit) (hg:c.gens = #[])
  (M:c.heap.get? a=some { cls:=.type "list",data:=.seq vs.toArray }) (hi:IntsAre vs ns) (Z:ns.length<=sizeLine) (hr:wI k callerA)
  (F:∀j:Heap,K.In j->j.Ns mainGlobals t->qY P w K t j CX k fa X [x] sp) (p:∀(s:Eu)(u:Value),BindsTo s X ⟨[u],[]⟩ [(x,u)])
  (hsp:∀H:Hp,Cb H->SqL K H a (ns.map V.int)->sp [.ref a] H (λv _=>v=.bl true) λ_ _ _=>False)
  (Q:∀H e i,CX [] H c (λ_ _ _=>False) e i->False):
  codeAny (model P w) callerA (.call (.ref fa) ⟨[.ref a],[]⟩) (λr i=>r=.ok (.ret (.bool true))/\OldK c.heap i.heap/\i.os=c.os/\AllBare i.gens) c:=by
 have W:=X_ hi;have C:=hi.length
 -- from an abstract heap in which nothing but the script may be tracked
 have core:∀H:Hp,Cb H->SqL K H a (ns.map V.int)->HOk P w H c.heap->(∀b,H b≠none->b=a)->(H a≠none->K.lookup a=none)->
   codeAny (model P w) callerA (.call (.ref fa) ⟨[.ref a],[]⟩) (λr i=>r=.ok (.ret (.bool true))/\OldK c.heap i.heap/\i.os=c.os/\AllBare i.gens) c:=by
  intro H hO hS y hA hK;have f:∀{b:Addr}{o:Obj},c.heap.get? b=some o->H b=none->(lr c.heap H).get? b=some o:=λe n=>lu e n;have S:∀{b:Addr}{o:Obj}{B:Array DictEntry}{G:Nat},c.heap.get? b=some o->o.data=.dict B G->H b=none:=λ{b o B G} e d=>by
   cases q:H b with
   |none=>rfl
   |some u=>have T:b=a:=hA b (by rw[q];simp);subst T;rw[M]at e;cases e;have d':Data.seq vs.toArray _=Data.dict B G:=d;cases d'
  have l:∀{b:Addr}{m:Er},c.heap.Ns b m->(lr c.heap H).Ns b m:=λ{b m} ⟨o,B,G,e,d,r⟩=>⟨o,B,G,f e (S e d),d,r⟩;have L:K.In (lr c.heap H):=λb o e=>f (U b o e) (by
   cases q:H b with
   |none=>rfl
   |some u=>
    have T:b=a:=hA b (by rw[q];simp);subst T;rw[hK (by rw[q];simp)]at e;cases e)
  have hM:Mod K t (lr c.heap H):=⟨L,l E,⟨N,l g,O⟩,let⟨mc,h1,h2⟩:=I;⟨mc,l h1,h2⟩⟩;have e0:rG P w K t (lr c.heap H) callerA [] c H:=⟨rfl,hM,λb o e=>rh e,a1P (eQ _ _),trivial,λb g=>absurd (show b∈([]:List Addr)from g) (by simp),y,.of_eq hg⟩;refine a0b ((F _ L (l E)).run callerA [] c H ⟨[.ref a],[]⟩ [.ref a] [.ref a] _ _ hr e0 (p c (.ref a)) (.cons rfl .nil) (hsp H hO hS)) λr i h=>?_;cases r with
  |error e=>exact(Q H e i h).elim
  |ok fl=>
   cases fl with
   |next=>exact False.elim h
   |brk=>exact False.elim h
   |cont=>exact False.elim h
   |ret u=>
    obtain⟨v,H',os,A,un,J,r',q⟩:=h;have q':v=.bl true:=q;subst q';obtain rfl:u=Value.bool true:=r';refine⟨rfl,OldK.of_keep λb o e=>?_,os,A⟩;cases q:H b with
    |none=>exact un.keep b o e q (by intro z;exact absurd (show b∈([]:List Addr)from z) (by simp)) (by simp)
    |some u=>
     rcases hO b with z|⟨ob,xs,z⟩
     .rw[q]at z;cases z
     .have z2:=un.i6 b ob _ z;obtain⟨Y,_⟩:=y b _ z;obtain⟨e2,_⟩:=J b _ z2;rw[e]at Y;cases Y;exact e2
 cases R:K.lookup a with
 |some o=>
  -- the script is one of the module's own objects
  have e:=U a o R;rw[M]at e;cases e;refine core (λ_=>none) (λ_=>.inl rfl) (.inr ⟨_,vs.toArray,_,R,rfl,rfl,rfl,by rw[N5,C];exact Z,by simpa using W⟩) (λb u z=>by have D:(none:Option HO)=some u:=z;cases D) (λb z=>absurd rfl z) λz=>absurd rfl z
 |none=>
  refine core (λb=>if b=a then some (.frz { cls:=.type "list",data:=.seq vs.toArray } (.lst (ns.map V.int)))else none) (λb=>?_) (.inl (.inr ⟨{ cls:=.type "list",data:=.seq vs.toArray },if_pos rfl⟩)) (λb u z=>?_) (λb z=>?_) λ_=>R
  .by_cases g:b=a
   .exact .inr ⟨_,_,if_pos g⟩
   .exact .inl (if_neg g)
  .by_cases g:b=a
   .have D:=(if_pos g).symm.trans z;cases D;subst g;exact⟨M,by rw[u8];exact Z,vs,_,W,M⟩
   .have D:=(if_neg g).symm.trans z;cases D
  .by_cases g:b=a
   .exact g
   .exact absurd (if_neg g) z
def rR{l:PySem.W.OpenLaw}{n k:Nat}{q:Ez}{g:EB}{Q:(Str->Option Value)->Heap->Prop}{I:World->Heap->Prop}{d:DefRec}{K:Params->PySem.W.Frag}{CX:World->CXT}{sp:World->Sp}{x:Str}
  (hn:l.most=some n) (z:n<=sizeLine) (A:d.params.defaults=[]) (O:wI k callerA)
  (hY:∀(w:EF)(h:Heap),I w h->(K w.params).In h)
  (F:∀(w:EF)(j:Er)(fa:Addr)(h:Heap),(K w.params).In h->h.Ns mainGlobals j->j d.name=some (.ref fa)->
   ∃C:FuncData,(∀(s:Eu)(u:Value),BindsTo s C ⟨[u],[]⟩ [(x,u)])/\
    ∀b:Heap,(K w.params).In b->b.Ns mainGlobals j->qY l.prog w (K w.params) j b (CX w) k fa C [x] (sp w))
  (hsp:∀(w:EF)(H:Hp)(a:Addr)(r:EW),r.length<=n->Cb H->SqL (K w.params) H a (r.map V.int)->sp w [.ref a] H (λv _=>v=.bl true) λ_ _ _=>False)
  (B:∀(w:EF)(H:Hp)(s:Eu)(e:Value)(y:Eu),CX w [] H s (λ_ _ _=>False) e y->False):
  PySem.W.WalkO q g Q I l.row.toRowW d [] (λf J=>PySem.call f J):=by
 refine Att.aw hn A λw D p j X fa o U cd R a J r G Y T W M t m i c L=>?_;have E:=hY w _ Y;obtain⟨C,P,hF⟩:=F w j fa _ E G.T.g t;exact lW E G.T.g G.T.b G.T.builtins G.T.nolimit L m i (F9 c z) O hF P (λH S N=>hsp w H a r c S N) λH e y=>B w H p e y
def inClass(s:Fh)(j:Nat):Stmt:=match s with
 |.ClassDef _ _ _ a _ _ _ _ _ _ _=>a.getD j (.Pass ⟨0,0,0,0⟩)
 |_=>.Pass ⟨0,0,0,0⟩
def Ku(s:Fh):Arguments:=match s with
 |.FunctionDef _ a _ _ _ _ _ _ _ _=>a
 |_=>{ posonlyargs:=[],args:=[],vararg:=none,kwonlyargs:=[],kw_defaults:=[],kwarg:=none,defaults:=[] }
def wO(s:Fh):List Stmt:=match s with
 |.FunctionDef _ _ b _ _ _ _ _ _ _=>b
 |_=>[]
def zt(s:Fh):Scope:=match s with
 |.FunctionDef _ _ _ _ _ _ a _ _ _=>a
 |_=>{ kind:=.function,names:=[],isGenerator:=false,isCoroutine:=false }
abbrev E0:XK:=λ_ _ _=>False
structure Fun(K:EC)(x qual:Str)(st:Fh)(f:Addr)(fd:EL):Prop where
 ex:∃(oc:Value)(od:EY)(kV doc pm:Value)(an:EY)(cdv ct:Value)(osl:ER),
  fd=PySem.W.fnOf x qual (Ku st) (wO st) (zt st) .none kV doc pm an cdv ct/\K.lookup f=some ⟨oc,od,.func fd,osl⟩/\PySem.W.codeIn K cdv qual=true
 kp:PySem.W.keepIn K (.ref f)=true
section
variable {K:EC}
def Fun.binds{x a:Str}{st:Fh}{f:Addr}{j:EL}{d:EB}(F:Fun K x a st f j)
  (h:∀(kV c e:Value)(i:EY)(b ct:Value)(g:EE),g.length=d.length->bindArgs (PySem.W.fnOf x a (Ku st) (wO st) (zt st) .none kV c e i b ct) ⟨g,[]⟩=pure (d.zip g)):Binds K j d []:=by
 obtain⟨n,o,kV,c,e,i,b,ct,l,rfl,p,m⟩:=F.ex;exact .all (h kV c e i b ct)
def oG{x a:Str}{st:Fh}{f:Addr}{i:Value}{od h:EY}{e:ER}{kV d g b ct:Value}(l:K.lookup f=some ⟨i,od,.func (PySem.W.fnOf x a (Ku st) (wO st) (zt st) .none kV d g h b ct),e⟩)
  (c:PySem.W.codeIn K b a=true) (k:PySem.W.keepIn K (.ref f)=true):Fun K x a st f (PySem.W.fnOf x a (Ku st) (wO st) (zt st) .none kV d g h b ct):=⟨⟨i,od,kV,d,g,h,b,ct,e,rfl,l,c⟩,k⟩
end
def yT(a:wI k A):A.units+1<cLine:=L8 (Nat.add_le_add_left (by decide:1<=64) _) a.units
def pv(i:Nat)(d:X.N[i]?=some x:=by rfl)(c:Vis X.env.scope x:=by first|exact Or.inl rfl|exact Or.inr (Or.inl rfl)|exact Or.inr (Or.inr rfl))(b:(x==("__debug__":Str))=false:=by decide)
  (a:(x==("__classdict__":Str))=false:=by decide):PE X (.Name x pos) (ZN i):=uQ d c b a
def lX{A B:Prop}(h:B):if false=true then A else B:=by rw[if_neg F6];exact h
def lY{A B:Prop}(h:A):if true=true then A else B:=by rw[if_pos rfl];exact h
def zA(H H':Hp):Prop:=∀b o,H b=some o->H' b=some o
def zA.refl(H:Hp):zA H H:=λ_ _ h=>h
def zA.trans(a:zA H H1)(b:zA H1 H2):zA H H2:=λc o h=>b c o (a c o h)
def zA.free(e:zA H H')(h:H' l=Option.none):H l=Option.none:=by
 cases q:H l with
 |none=>rfl
 |some o=>rw[e l o q]at h;cases h
end L2
set_option maxHeartbeats 4000000
namespace L2
open PySem PySem.Spec PyProof.Rows PySem.W
def jJ:List Value:=[.type "ValueError",.type "Exception",.type "BaseException",.type "object"]
def Ua:List Value->List Value
 |.ref _::r=>Ua r
 |l=>l
structure XN(K:Fc)(C:Addr):Prop where
 over:(clsIn K C).any (λcd=>Ua cd.mro==jJ && !cd.mro.isEmpty&&cd.hasDict)=true
 sa:findIn K (.ref C) "__setattr__"=some (some (.builtin "object.__setattr__"))
 ga:findIn K (.ref C) "__getattribute__"=some (some (.builtin "BaseException.__getattribute__"))
 gn:findIn K (.ref C) "__getattr__"=some none
 ty:typeIn K (.ref C)=some (.type "type")
theorem Jj(a:Value):∀l:List Value,Ua l=jJ->refuseLoop a "__setattr__" l=pure ()
 |[],e=>by cases e
 |.ref c::r,e=>by rw[refuseLoop_ref];exact Jj a r e
 |.type n::r,e=>by rw[show Value.type n::r=jJ from e];exact PySem.F.store_ValueError.passes a
 |.none::r,e=>by cases e
 |.bool _::r,e=>by cases e
 |.int _ _::r,e=>by cases e
 |.str _ _::r,e=>by cases e
 |.bytes _ _::r,e=>by cases e
 |.float _ _::r,e=>by cases e
 |.builtin _::r,e=>by cases e
 |.ellipsis::r,e=>by cases e
 |.notImplemented::r,e=>by cases e
theorem Ub{x:String}(a:jJ.contains (.type x)=true):∀l:List Value,Ua l=jJ->l.contains (.type x)=true
 |[],e=>by cases e
 |.ref c::r,e=>by rw[List.contains_cons,Ub a r e,Bool.or_true]
 |.type n::r,e=>by rw[show Value.type n::r=jJ from e];exact a
 |.none::r,e=>by cases e
 |.bool _::r,e=>by cases e
 |.int _ _::r,e=>by cases e
 |.str _ _::r,e=>by cases e
 |.bytes _ _::r,e=>by cases e
 |.float _ _::r,e=>by cases e
 |.builtin _::r,e=>by cases e
 |.ellipsis::r,e=>by cases e
 |.notImplemented::r,e=>by cases e
theorem XN.cd{K:Fc}{C:Addr}(c:XN K C):∃cd,clsIn K C=some cd/\Ua cd.mro=jJ/\cd.mro.isEmpty=false/\cd.hasDict=true:=by obtain⟨cd,a,h⟩:=any_some c.over;simp only[Bool.and_eq_true,beq_iff_eq,Bool.not_eq_true']at h;exact⟨cd,a,h.1.1,h.1.2,h.2⟩
def XN.sub{K:Fc}{C:Addr}(c:XN K C){x:String}(e:jJ.contains (.type x)=true):mroIn K C (.type x)=some true:=by obtain⟨cd,a,d,b,_⟩:=c.cd;unfold mroIn;rw[a,a0V,if_neg (by rw[b];decide),Ub e _ d]
def yU(C:Addr)(od:EY)(t:Addr)(T:Value)(sl:ER):Obj:=⟨.ref C,od,.fields #[.ref t,T,.none,.none,.bool false,.none],sl⟩
section
variable {prog:Ez}{w:EF}{A:EK}{E:En}{s:Eu}{K:Fc}{x dx C t:Addr}{T:Value}{sl:ER}{mA:Er}{name:Str}{v:Value}{R:Result->Shared->Prop}
def bR(X:K.In s.heap)(c:XN K C)(I:InstAt s.heap x (yU C od t T sl) C oo)(q:takerIn K C name=some none)
  (h:∀b,wpAny (model prog w) A.in1 (Builtin.ObjectAttr.storeInOwnDict (.ref x) (.ref C) (.str name tk) name v b)
   (λj i=>match j with | .done f=>R (.ok f) i | .again l=>l.quiet=true/\codeAny (model prog w) A l R i) (λe i=>R (.error e) i) s):
  codeAny (model prog w) A (.call (.builtin "object.__setattr__") ⟨[.ref x,.str name tk,v],[]⟩) R s:=by
 have g:=PySem.F.store_object;obtain⟨cd,n,m,z,_⟩:=c.cd;have sub:Looks (model prog w) s.heap (isInstance (.ref x) (.type "object")) true:=I.type.andThen (a2s X (c.sub (x:="object") (by decide)));refine a0A g.slot.plain g.entry (@check_slot (model prog w) _ _ s "object.__setattr__" "object" "__setattr__" (.ref x) [.str name tk,v] [] _ g.kind g.split sub (g.args (.ref x) (.str name tk) v) ?_);obtain⟨d,p,o⟩:=L6.mp q;have y:Looks (model prog w) s.heap (mroOf (.ref C)) cd.mro:=(a3g X n).andThen .now;have r:Looks (model prog w) s.heap (Builtin.ObjectAttr.storeTaker? d) none:=by
  cases d with
  |none=>exact .now
  |some a=>
   obtain⟨b,u,e⟩:=v2.mp o;refine(looks_takesIn X u).andThen ?_;cases b with
   |true=>cases e
   |false=>exact .now
 rw[osa_eq,refuse_eq];refine f8 (f8 (I.type.here (f8 (y.here ?_))));rw[Jj _ _ m];refine E2 (f8 (I.type.here (f8 ((a1R X p).here (f8 (r.here ?_))))));exact h _
def dP(X:K.In s.heap)(c:XN K C)(i:s.heap.get? x=some (yU C none t T sl))(G:takerIn K C name=some none)
  (h:∀a,a.get? x=some (yU C (some s.heap.objs.size) t T sl)->a.Ns1 s.heap.objs.size (λy=>if y=name then some v else none)->
   (∀b o,b≠x->s.heap.get? b=some o->a.get? b=some o)->Q () { s with heap:=a,toks:=s.toks+2 }):
  wpAny (model prog w) A (setAttr (.ref x) name v) Q E s:=by
 have I:InstAt s.heap x (yU C none t T sl) C none:=⟨i,rfl,rfl,trivial⟩;refine set_plain X I c.sa (bR (s:={ s with toks:=s.toks+1 }) X c I G λb=>?_);obtain⟨cd,F,_,_,B⟩:=c.cd;have g:x≠s.heap.objs.size:=F1 (E6 i);have d:(s.heap.push emptyDict).get? x=some (yU C none t T sl):=v4 _ i;refine f8 (E2 (f8 (f8 (a08 i (f8 (Looks.here (s:={ s with toks:=s.toks+1 }) (a3g X F) ?_))))));rw[B];refine f8 (wpAny_alloc' (f8 (wpAny_update' d (E2 ?_))));have j:((s.heap.push emptyDict).update x λo=>{ o with dict:=some s.heap.objs.size }).get? x=some (yU C (some s.heap.objs.size) t T sl):=T9 _ d rfl;have l:((s.heap.push emptyDict).update x λo=>{ o with dict:=some s.heap.objs.size }).get? s.heap.objs.size=some emptyDict:=(a20 _ _ _ _ g.symm).trans (Heap.get?_push_at rfl rfl);have q:((s.heap.push emptyDict).update x λo=>{ o with dict:=some s.heap.objs.size }).Ns s.heap.objs.size (λ_=>none):=⟨_,#[],_,l,rfl,λe u=>absurd u (by simp),λ_=>rfl⟩;refine f8 (E2 (f8 ?_));refine a26 (s:={ s with heap:=(s.heap.push emptyDict).update x λo=>{ o with dict:=some s.heap.objs.size },toks:=s.toks+1 }) (Heap.Ns1.of_empty q) λa f r=>?_;obtain⟨J,D,z,p,n,m⟩:=f.count (a1F name v PySem.Within.nil);refine f8 (a1N p (by rw[n];exact a1O (F9 m (by rw[E4,a2e,a0N];omega))) ?_);refine E2 (h _ ((r.2 _ g).trans j) f λb o H e=>?_);exact(r.2 _ (F1 (E6 e))).trans ((a20 _ _ _ _ H).trans (v4 _ e))
def fh(X:K.In s.heap)(c:XN K C)(m:s.heap.get? x=some (yU C (some dx) t T sl))(hn:s.heap.Ns1 dx mA)(z:dx≠x)(u:takerIn K C name=some none)
  (B:PySem.Within mA ns) (hsz:ns.length<=sizeLine)
  (h:∀e,e.Ns1 dx (λy=>if y=name then some v else mA y)->Heap.SameBut dx s.heap e->Q () { s with heap:=e,toks:=s.toks+2 }):
  wpAny (model prog w) A (setAttr (.ref x) name v) Q E s:=by
 obtain⟨n,f,_⟩:=Ko hn;have I:InstAt s.heap x (yU C (some dx) t T sl) C (some n):=⟨m,rfl,rfl,f⟩;refine set_plain X I c.sa (bR (s:={ s with toks:=s.toks+1 }) X c I u λb=>?_);obtain⟨cd,r,_,_,p⟩:=c.cd;refine f8 (E2 (f8 (f8 (a08 m (f8 (Looks.here (s:={ s with toks:=s.toks+1 }) (a3g X r) ?_))))));rw[p];refine E2 (a:=some dx) (f8 (E2 (f8 ?_)));refine a26 (s:={ s with toks:=s.toks+1 }) hn λe d l=>?_;obtain⟨D,q,o,j,i,g⟩:=d.count (a1F name v B);refine f8 (a1N j (by rw[i];exact a1O (F9 g (by rw[E4];omega))) ?_);exact E2 (h _ d l)
end
def strKeys(es:Array DictEntry):Bool:=es.toList.all λe=>match e.key with | .str _ _=>true|_=>false
def Uc(K:Fc):List Value->Bool
 |.ref a::r=>(match K.lookup a with
   |some ⟨_,_,.cls cd,_⟩=>(match K.lookup cd.ns with
     |some ⟨_,_,.dict b _,_⟩=>strKeys b&&(b.toList.all λe=>!e.key.isStr "__init__")
     |_=>false)
   |_=>false)&&Uc K r
 |l=>l==jJ
def dQ{h:Heap}{N:Addr}{c:Value}{f:EY}{es:Array DictEntry}{ep:Nat}{sl:ER}(e:h.get? N=some ⟨c,f,.dict es ep,sl⟩)(k:strKeys es=true)
  (d:(es.toList.all λe=>!e.key.isStr "__init__")=true):∃m,h.Ns N m/\m "__init__"=none:=by
 refine⟨λn=>nsFind es n,⟨_,es,ep,e,rfl,λx a=>?_,λ_=>rfl⟩,?_⟩
 .have q:=O5.mp k x (a2Q.mpr a);split at q
  .rename_i n t b;exact⟨n,t,b⟩
  .cases q
 .show nsFind es "__init__"=none;unfold nsFind findBy;rw[<- a25,a28.mpr λx a=>by simpa using O5.mp d x a];rfl
theorem fi{K:Fc}{h:Heap}(X:K.In h):∀l:List Value,Uc K l=true->OwnTail h jJ l
 |.ref a::r,e=>by
  unfold Uc at e;obtain⟨b,i⟩:=a2S.mp e;split at b
  .rename_i c u cd t q;split at b
   .rename_i x g v w j d;obtain⟨o,s⟩:=a2S.mp b;obtain⟨m,p,f⟩:=dQ (X _ _ d) o s;exact .own (X _ _ q) p f (fi X r i)
   .cases b
  .cases b
 |[],e=>by cases e
 |.type n::r,e=>by rw[show Value.type n::r=jJ from N6.mp e];exact .base
 |.none::r,e=>by rw[show Value.none::r=jJ from N6.mp e];exact .base
 |.bool _::r,e=>by rw[N6.mp e];exact .base
 |.int _ _::r,e=>by rw[N6.mp e];exact .base
 |.str _ _::r,e=>by rw[N6.mp e];exact .base
 |.bytes _ _::r,e=>by rw[N6.mp e];exact .base
 |.float _ _::r,e=>by rw[N6.mp e];exact .base
 |.builtin _::r,e=>by rw[N6.mp e];exact .base
 |.ellipsis::r,e=>by rw[N6.mp e];exact .base
 |.notImplemented::r,e=>by rw[N6.mp e];exact .base
structure XMk(K:Fc)(C f:Addr):Prop where
 cls:∃nm q N bs bm sn sub ab col dd k0 k1 k2 k3 k5,K.lookup C=some (excClassObj nm q C N bs bm true sn sub ab col dd k0 k1 k2 k3 k5 "ValueError.__new__")/\Uc K bm=true
 init:findIn K (.ref C) "__init__"=some (some (.ref f))
 fn:typeIn K (.ref f)=some (.type "function")
 kp:keepIn K (.ref C)=true
section
variable {prog:Ez}{w:EF}{A:EK}{E:En}{K:Fc}{C f:Addr}{h:Heap}{g:Array GenState}{d:Drawn}{t:Nat}{os:OsState}
def oH(rest:EE):Obj:={ cls:=.type "tuple",data:=.seq rest.toArray }
def Cc{rest:EE}{Q:En}(M:XMk K C f)(X:K.In h)(hrest:rest.length<=sizeLine)
  (hq:codeAny (model prog w) (A.under (.builtin "type.__call__" ⟨.ref C::rest,[]⟩)) (.call (.ref f) ⟨.ref (h.objs.size+1)::rest,[]⟩) (λr s'=>match r with | .ok (.ret v)=>v=.none/\Q (.ref (h.objs.size+1)) s' | .ok _=>False | .error e=>E e s')
   ⟨(h.push (oH rest)).push (yU C none h.objs.size .none #[]),g,d,t,os⟩):
  wpAny (model prog w) A (call (.ref C) rest) Q E ⟨h,g,d,t,os⟩:=by
 obtain⟨nm,q,N,bs,bm,sn,sub,ab,col,dd,k0,k1,k2,k3,k5,hK,hT⟩:=M.cls;have hC:=X _ _ hK;have T:=fi X _ hT;have F:=PySem.F.excBase_ValueError;have f1:=tc_lookup;have f2:=tc_bind (.ref C);have hTy:(⟨h,g,d,t,os⟩:Shared).TypeIs (.ref C) "type":=⟨_,hC,rfl⟩;refine a0L (a2f ?_);show wpAny _ _ (callAny (.ref C) _) _ _ _
 repeat(any_goals(first|assumption|with_reducible refine wpAny_loadPart_at hC ?_|wp_step))
 refine And.intro rfl (codeAny_call_builtin_at (a03 _ (by decide +kernel)) entry_typeCall (wpAny_check_type_call_sub hC ?_))
 repeat(first|with_reducible refine wpAny_loadPart_at hC ?_|with_reducible refine wpAny_madeBy_exc hC ?_|wp_step)
 refine codeAny_call_builtin_code (a03 _ F.quiet) (wpAny_check_new_subT F T hC (codeAny_exc_new_subT F T hC ?_ hrest));show wpAny _ _ _ _ _ ⟨(h.push (oH rest)).push (yU C none h.objs.size .none #[]),g,d,t,os⟩;have kp:∀b o,h.get? b=some o->((h.push (oH rest)).push (yU C none h.objs.size .none #[])).get? b=some o:=λb o e=>v4 _ (v4 _ e);have hx:((h.push (oH rest)).push (yU C none h.objs.size .none #[])).get? (h.objs.size+1)=some (yU C none h.objs.size .none #[]):=by heap_get
 have X1:K.In ((h.push (oH rest)).push (yU C none h.objs.size .none #[])):=X.keeps kp;have t1:Looks (model prog w) ((h.push (oH rest)).push (yU C none h.objs.size .none #[])) (typeOf (.ref (h.objs.size+1))) (.ref C):=(Looks.ld hx).andThen .now;have s1:Looks (model prog w) ((h.push (oH rest)).push (yU C none h.objs.size .none #[])) (isSubtype (.ref C) (.ref C)) true:=a2s X1 (by
  unfold mroIn clsIn;rw[hK];simp)
 have i1:=a1R (M:=model prog w) X1 M.init;have b1:=bind_fn (M:=model prog w) X1 (.ref (h.objs.size+1)) M.fn;unfold isInstance callSpecial? specialOf
 repeat(first|with_reducible refine a0L ?_|lk)
 refine a0b hq λr s' z=>?_;rcases r with e|(v|_|_|_)<;>first|exact z|exact z.elim|skip
 obtain⟨rfl,z⟩:=z;exact E2 (E2 z)
end
def XO(e C:Addr)(od:EY)(T:Value):HO:=.ext λh=>∃t a,h.get? e=some (yU C od t T a)
def XD(b:Addr)(fs:E_):HO:=.ext λh=>∃a,h.Ns1 b a/\(∀f,VL (fs.lookup f) (a f))/\PySem.Within a (fs.map (·.1))/\fs.length<=1000
def XO.ok(x:h.get? e=some (yU C od t T sl)):y8 P w H h e (XO e C od T):=
 ⟨⟨t,sl,x⟩,⟨_,x⟩,λ_ _ ⟨b,a,p⟩ k=>⟨b,a,k _ p⟩⟩
def XO.get(x:y8 P w H h e (XO e C od T)):∃t a,h.get? e=some (yU C od t T a):=x.1
def XD.ok(n:h.Ns1 dx mA)(r:∀f,VL (fs.lookup f) (mA f))(d:PySem.Within mA (fs.map (·.1)))(l:fs.length<=1000):y8 P w H h dx (XD dx fs):=by refine⟨⟨mA,n,r,d,l⟩,?_,λi g ⟨m,⟨o,c,b,a,q⟩,e⟩ k=>⟨m,⟨o,c,b,k _ a,q⟩,e⟩⟩;obtain⟨o,c,b,a,_⟩:=n;exact⟨o,a⟩
def XD.get(x:y8 P w H h dx (XD dx fs)):∃a,h.Ns1 dx a/\(∀f,VL (fs.lookup f) (a f))/\PySem.Within a (fs.map (·.1))/\fs.length<=1000:=x.1
def Inv.rS(I:Inv X pins σ H s)(he:H e=some (XO e C od T))(ch:Ff)(d:∀b∈ch,X.s₀.heap.objs.size<=b/\H b=none/\b≠X.env.locals/\(∀x c,X.env.cells.lookup x=some c->c≠b)/\∀p∈X.pn++pins,p.1≠b)
  (keep:∀b o,b≠e->b∉ch->b∉frs X.stack->s.heap.get? b=some o->h'.get? b=some o)
  (l:∀b o,b∈frs X.stack->s.heap.get? b=some o->∃f,h'.get? b=some { o with slots:=f })
  (K:∃t f,h'.get? e=some (yU C od t T' f)):Inv X pins σ (upd H e (XO e C od T')) { s with heap:=h' }:=by
 have w:∀b,H b=none->b≠e:=λb n z=>by rw[z,he]at n;cases n
 have E:∀b o,H b=some o->b∉frs X.stack:=λb o q z=>by rw[I.WA b z]at q;cases q
 have D:∀b o,H b=some o->b∉ch:=λb o q z=>by rw[(d b z).2.1]at q;cases q
 obtain⟨J,L,j⟩:=K;have any:∀b o,b∉ch->b≠e->s.heap.get? b=some o->∃f,h'.get? b=some { o with slots:=f }:=λb o h B q=>by
  by_cases hf:b∈frs X.stack
  .exact l b o hf q
  .exact⟨o.slots,keep b o B h hf q⟩
 refine I.step (g':=s.gens) (d':=s.drawn) (t':=s.toks) (ch:=ch) (λb h=>⟨.inr (d b h).1,(d b h).2.2⟩) (λb o y h g q n=>keep b o (w b n) g (λz=>?_) q) (λb o _ _ g q n=>any b o g (w b n) q)
  (λb o _ _ n=>by rw[zh (w b n)];exact n) (λb o g q=>?_) (λb N q=>?_) (λb o u q=>?_) (λb P q=>⟨#[],?_⟩) (λm O=>?_) (λb u q=>?_) I.bare
 .rcases F0.mp (I.V6 b z)with z|z
  .exact y z
  .exact h z
 .by_cases a:b=e
  .exact⟨_,a▸j⟩
  .obtain⟨f,A⟩:=any b o g a q;exact⟨_,A⟩
 .have:b≠e:=λz=>by rw[z,he]at q;cases q
  rw[zh this];exact q
 .have:b≠e:=λz=>by rw[z,he]at q;cases q
  rw[zh this];exact q
 .have:b≠e:=λz=>by rw[z,he]at q;cases q
  rw[zh this,q];simp
 .obtain⟨o,G,M,F,r⟩:=O;have y:H X.env.locals=none:=I.free;obtain⟨f,A⟩:=any _ o (λz=>(d _ z).2.2.1 rfl) (w _ y) F;exact⟨_,G,M,A,r⟩
 .by_cases a:b=e
  .subst a;rw[zd]at q;cases q;exact XO.ok j
  .rw[zh a]at q;refine(I.hok b u q).oh (λc v g r=>?_) (λc r=>?_) λc N r=>?_
   .rcases g with z|z
    .subst z;exact keep c v a (D c u q) (E c u q) r
    .have:c≠e:=λi=>by rw[i,he]at z;cases z
     exact keep c v this (D c _ z) (E c _ z) r
   .have:c≠e:=λi=>by rw[i,he]at r;cases r
    rw[zh this];exact r
   .have:c≠e:=λi=>by rw[i,he]at r;cases r
    rw[zh this];exact r
structure Tb(X:Cx)(pins:Ep)(H:Hp)(s:Eu)(Ta:Addr)(fl:Value):Prop where
 tbk:∃oT ts,s.heap.get? Ta=some oT/\oT.data=.fields ts/\ts[3]?=some fl
 new:X.s₀.heap.objs.size<=Ta
 free:H Ta=none
 pin:∀p∈X.pn++pins,p.1≠Ta
def Own(X:Cx):Prop:=X.stack=X.env::X.outer/\X.env.frame=some X.env.locals
def Tb.ok(I:Inv X pins σ H s)(b:Tb X pins H s Ta fl):Ta≠X.env.locals/\(∀x c,X.env.cells.lookup x=some c->c≠Ta)/\Ta∉frs X.stack:=by
 obtain⟨i,l,e,f,_⟩:=b.tbk;have g:Ta≠X.env.locals:=λz=>by obtain⟨m,⟨o,j,h,a,d,_⟩,_⟩:=I.loc;rw[z]at e;rw[e]at a;cases a;rw[f]at d;cases d
 refine⟨g,λx c q z=>?_,λz=>?_⟩
 .obtain⟨v,o,a,d⟩:=I.cell x c q;rw[z,e]at a;cases a;rw[f]at d;cases d
 .rcases F0.mp (I.V6 _ z)with z|z
  .exact g z
  .obtain⟨_,o,a,hn⟩:=I.dE.mem z;rw[e]at a;cases a;exact hn _ f
def fj(I:Inv X pins σ H s)(he:H e=some (XO e C od (.ref Ta)))(b:Tb X pins H s Ta fl)
  (p:∀h,Inv X pins σ (upd H e (XO e C od (.ref Ta))) { s with heap:=h }->Tb X pins (upd H e (XO e C od (.ref Ta))) { s with heap:=h } Ta (f.elim .none λf=>rawInt f)->Q () { s with heap:=h }):
  wpAny M A (setFlight (.ref e) f) Q E s:=by
 obtain⟨t,m,l⟩:=XO.get (I.hok e _ he);obtain⟨y,w,j,i,n⟩:=id b.tbk;obtain⟨v,u,r⟩:=b.ok I;have g:Ta≠e:=λz=>by have:=b.free;rw[z,he]at this;cases this
 have sz:=(a1A.mp n).1;unfold setFlight;refine f8 (a1v l rfl (x:=.ref Ta) rfl ?_);rw[if_pos (show(Value.ref Ta != Value.none)=true from by simp)];refine a2G j i sz ?_;have a:∀c,c≠Ta->(s.heap.update Ta (Obj.mapFields (·.setIfInBounds 3 (f.elim .none λf=>rawInt f)))).get? c=s.heap.get? c:=λc d=>P0 _ _ (Ne.symm d);refine p _ (I.rS he [Ta] (λc d=>?_) (λc o _ d _ q=>(a c (by simpa using d)).trans q) (λc o d q=>⟨o.slots,(a c (λz=>r (z▸d))).trans q⟩) ⟨t,m,(a e (Ne.symm g)).trans l⟩) ⟨⟨_,_,Heap.get?_update_self _ j (Obj.isFreed_of_fields (Obj.data_mapFields i _)),Obj.data_mapFields i _,by simp[sz]⟩,b.new,by rw[zh g];exact b.free,b.pin⟩;obtain rfl:c=Ta:=by simpa using d
 exact⟨b.new,b.free,v,u,b.pin⟩
def lZ(I:Inv X pins σ H s)(he:H e=some (XO e C od .none))(a:Q () s):wpAny M A (setFlight (.ref e) f) Q E s:=by obtain⟨t,c,b⟩:=XO.get (I.hok e _ he);unfold setFlight;refine f8 (a1v b rfl (x:=.none) rfl ?_);exact E2 a
def Ud(b:Own X)(y:A.frames=some X.stack)(I:Inv X pins σ H s)(he:H e=some (XO e C od T))
  (F:∀n m,Inv X pins σ (upd H e (XO e C od (.ref n))) { s with heap:=m }->Tb X pins (upd H e (XO e C od (.ref n))) { s with heap:=m } n (rawInt X.env.locals)->Q () { s with heap:=m }):
  wpAny M A (do setField (.ref e) 1 (<- EntryCells.newEntry head (<- frameOf X.env) .none (rawInt X.env.locals) .none (<- entryPlaceOf X.env.locals hadNext))) Q E s:=by
 obtain⟨t,w,D⟩:=XO.get (I.hok e _ he);have l:=I.stack;rw[b.1]at l y;refine f8 (wpAny_frameOf_fun y l b.2 λg a=>?_);refine f8 (wpAny_entryPlaceOf λG h=>?_);unfold EntryCells.newEntry newFields;refine f8 (a1a ?_ (h.sizeOk5 _ _ _ _ _));have j:e∉frs (X.env::X.outer):=λz=>by have:=I.WA e (by rw[b.1];exact z);rw[he]at this;cases this
 have f:g.get? e=some (yU C od t T w):=(a.2.1 e j).trans D;have i:e≠g.objs.size:=F1 (E6 f);refine a2G (v4 _ f) rfl (by show 1<6;decide) ?_;have d:∀c o,c≠e->g.get? c=some o->∀x:Obj,((g.push x).update e (Obj.mapFields (·.setIfInBounds 1 (Value.ref g.objs.size)))).get? c=some o:=λc o r q x=>
  (P0 _ _ (Ne.symm r)).trans (v4 _ q)
 have v:H g.objs.size=none:=I.hok.fresh (a1P a.1.symm);refine F g.objs.size _ (I.rS he [] (λ_ z=>nomatch z) (λc o r _ hf q=>d c o r ((a.2.1 c (by rw[b.1]at hf;exact hf)).trans q) _) (λc o hf q=>?_) ⟨t,w,?_⟩) ⟨⟨_,_,(P0 _ _ i).trans (G5 _ rfl),rfl,?_⟩,?_,?_,λp hp z=>?_⟩
 .obtain⟨u,B⟩:=a.2.2 c o q;exact⟨u,d c _ (λz=>j (by rw[b.1]at hf;exact z▸hf)) B _⟩
 .exact T9 _ (v4 _ f) rfl
 .rcases h with rfl|⟨_,_,_,_,_,_,_,rfl⟩<;>simp
 .rw[a.1];exact I.sz
 .rw[zh (Ne.symm i)];exact v
 .have q:=(I.pin p hp).1;exact absurd (E6 q) (by rw[z,a.1];exact S0 _)
structure XIs(K:Fc)(C:Addr):Prop where
 ha:findIn K (.ref C) "__class__"=some (some (.builtin "object.__class__"))
 hn:specialIn K (.builtin "object.__class__") "__get__"=some (some (.builtin "getset_descriptor.__get__"))
 htk:takesIn K (.builtin "object.__class__")=some true
section
variable {prog:Ez}{w:EF}{A:EK}{E:En}{s:Eu}{K:Fc}{x C:Addr}{sl:ER}
def xm(X:K.In s.heap)(c:XN K C)(z:XIs K C)(I:InstAt s.heap x ox C (some od))
  (h:Q (some (.ref C)) { s with toks:=s.toks+1 }):wpAny (model prog w) A (getAttr? (.ref x) "__class__") Q E s:=by
 obtain⟨cd,hc,ho,ne,hdct⟩:=c.cd;have hm:=c.sub (x:="object") (by decide);obtain⟨hp,g,d,tk,os⟩:=s;have L0:=I.type (M:=model prog w);have L1:=a1R (M:=model prog w) X c.ga;have L2:=a1R (M:=model prog w) X c.gn;have Lb:Looks (model prog w) hp (isInstance (.ref x) (.type "BaseException")) true:=L0.andThen (a2s X (c.sub (x:="BaseException") (by decide)));have hf:findObj K C (some od) "__class__"=some (.bind (.builtin "getset_descriptor.__get__") (.builtin "object.__class__")):=findObj_data (by rw[hc];rfl) z.ha z.hn z.htk;have L3:=looks_find (M:=model prog w) X I hf;have ga:=PySem.F.excAttr_ValueError.ga;have f3:=ga.bind (.ref x);unfold getAttr? getAttrBy? getAttrBy;refine f8 (a29 (f8 (a1B (N8 (f8 (L0.at (f8 (L1.at ?_))))))));dsimp only;rw[show(onTheHeap (Value.ref C)&&Value.builtin "BaseException.__getattribute__"==Value.builtin "object.__getattribute__")=false from by
  rw[show(Value.builtin "BaseException.__getattribute__"==Value.builtin "object.__getattribute__")=false from by decide +kernel];rfl]
 show wpAny _ _ (getAttrByItsOwn _ _ _ _ _ _) _ _ _;unfold getAttrByItsOwn;refine f8 (show wpAny _ _ (typeLookup (.ref C) "__getattr__") _ _ _ from L2.at ?_);refine f8 (a1B (N8 ?_));show wpAny _ _ (bindSpecial _ _ >>= _) _ _ _;rw[f3];refine f8 (E2 (a0L (a0A ga.plain F.entry_bexc_ga ?_)));have hk:builtinKind "BaseException.__getattribute__"=some .slot:=by decide +kernel
 have hs:splitId "BaseException.__getattribute__"=some ("BaseException","__getattribute__"):=by decide +kernel
 refine @check_slot (model prog w) _ _ ⟨hp,g,d,tk+1,os⟩ "BaseException.__getattribute__" "BaseException" "__getattribute__" (.ref x) [.str "__class__" tk] [] _ hk hs Lb (F.args_bexc_ga (.ref x) (.str "__class__" tk)) ?_;unfold Builtin.«object.__getattribute__»
 repeat(first|with_reducible refine a0L ?_|lk)
 refine class_get (s:=⟨hp,g,d,tk+1,os⟩) (ox:=ox) (od:=some od) X I hm ?_;exact E2 (E2 (E2 h))
def l4{ox od:Obj}(c:XN K C)(z:XIs K C):KitX K (.ref x) (.ref C) (λh=>InstAt h x ox C (some od))where
 ty:=λ_ _ _ I=>I.type
 it:=λ_ _ X _=>by
  obtain⟨cd,a,_⟩:=c.cd;unfold clsIn at a;split at a
  .rename_i i g d e f;intro r u p o k q;unfold isType loadHead;exact f8 (a08 (k _ _ (X _ _ f)) (E2 q))
  .cases a
 ne:=λh j m l n sl X b=>by
  obtain⟨cd,a,_⟩:=c.cd;refine a1G.mpr λq=>?_;obtain rfl:C=j:=Value.ref.inj (N6.mp q);unfold clsIn at a;split at a
  .rename_i i g d e f;cases(X _ _ f).symm.trans b
  .cases a
 ca:=λX I k=>xm X c z I k
end
def WG(h:H a=some o):upd H a o=H:=by
 funext b;unfold upd;split
 .rename_i e;rw[e,h]
 .rfl
def XC(e C b:Addr):HO:=.ext λh=>∃t T a,h.get? e=some (yU C (some b) t T a)
def XC.get(x:y8 P w H h e (XC e C dx)):∃t T a,h.get? e=some (yU C (some dx) t T a):=x.1
section
variable {X:Cx}{pins:Ep}{σ:St}{H:Hp}{s:Eu}{e C Ta:Addr}{od:EY}{T fl:Value}{M:Model}{A:EK}{E:En}{Q:Unit->Shared->Prop}
def Fl(X:Cx)(pins:Ep)(H:Hp)(s:Eu)(e C:Addr)(od:EY):Prop:=
 ∃T,H e=some (XO e C od T)/\(T=.none\/∃Ta fl,T=.ref Ta/\Tb X pins H s Ta fl/\(fl=.none\/∃n:Int,fl=rawInt n))
def bS(h:Own X)(w:A.frames=some X.stack)(I:Inv X pins σ H s)(f:Fl X pins H s e C od)
  (n:∀j i,Inv X pins σ (upd H e (XO e C od (.ref j))) { s with heap:=i }->Tb X pins (upd H e (XO e C od (.ref j))) { s with heap:=i } j (rawInt X.env.locals)->Q () { s with heap:=i }):
  wpAny M A (noteFrame (.ref e) X.env) Q E s:=by
 obtain⟨T,a,F⟩:=f;obtain⟨t,B,v⟩:=XO.get (I.hok e _ a);unfold noteFrame;simp only[h.2];refine f8 (a1v v rfl (x:=T) rfl ?_);rcases F with rfl|⟨Ta,fl,rfl,b,y⟩
 .rw[if_neg (by decide)];exact Ud h w I a n
 .rw[if_pos (show(Value.ref Ta != Value.none)=true from by simp)];obtain⟨N,L,p,r,u⟩:=id b.tbk;refine f8 (a1v p r u ?_);by_cases l:¬(fl==rawInt X.env.locals)=true
  .rw[if_neg l];obtain⟨K,J,G⟩:=b.ok I;have m:Ta≠e:=λz=>by have:=b.free;rw[z,a]at this;cases this
   have sz:=(a1A.mp u).1;refine f8 (a2G p r sz ?_);have d:∀c,c≠Ta->(s.heap.update Ta (Obj.mapFields (·.setIfInBounds 3 .none))).get? c=s.heap.get? c:=λc g=>P0 _ _ (Ne.symm g);have D:Inv X pins σ H { s with heap:=s.heap.update Ta (Obj.mapFields (·.setIfInBounds 3 .none)) }:=by
    have:=I.rS (T':=.ref Ta) a [Ta] (h':=s.heap.update Ta (Obj.mapFields (·.setIfInBounds 3 .none))) (λc g=>by
     obtain rfl:c=Ta:=by simpa using g
     exact⟨b.new,b.free,K,J,b.pin⟩) (λc o _ g _ q=>(d c (by simpa using g)).trans q) (λc o g q=>⟨o.slots,(d c (λz=>G (z▸g))).trans q⟩) ⟨t,B,(d e (Ne.symm m)).trans v⟩
    rwa [WG a]at this
   exact Ud h w D a λj i=>n j i
  .have l:=Classical.not_not.mp l;rw[if_pos l];obtain rfl:fl=rawInt X.env.locals:=eq_of_beq l;refine E2 ?_;have:=n Ta s.heap (by rw[WG a];exact I) (by rw[WG a];exact b);exact this
end
def Cd(X:Cx)(E:XK)(v:Value)(c:Eu):Prop:=∃d a e C b,v=.ref e/\Inv X.nox [] d a c/\Fl X.nox [] a c e C (some b)/\E (.ref e) (some b) (upd a e (XC e C b))
def CXe(P:Ez)(w:EF):CXT:=λa H s E v c=>∃e C f d g h b,v=.ref e/\c.os=s.os/\AllBare c.gens/\Un (frs a) [] H b s.heap c.heap/\HOk P w b c.heap/\
 b e=some (XO e C (some f) (.ref d))/\c.heap.get? d=some g/\g.data=.fields h/\h[3]?=some .none/\b d=none/\s.heap.objs.size<=d/\E (.ref e) (some f) (upd b e (XC e C f))
abbrev thr(X:Cx)(E:XK):Cx:=X.VM (Cd X E)
def Inv.thrown(I:Inv X pins σ H s)(h:CXe X.prog X.w X.stack H s E v s')(w:X.m<=s'.toks:=by ac_rfl):
  ∃a e C c,v=.ref e/\Inv X pins σ a s'/\Fl X pins a s' e C (some c)/\E (.ref e) (some c) (upd a e (XC e C c)):=by
 obtain⟨e,C,c,u,n,i,a,rfl,o,d,un,f,j,m,r,t,hn,g,q⟩:=h;have l:Inv X pins σ a s':=I.uP o un f d λb z=>absurd z (by simp);refine⟨a,e,C,c,rfl,l,⟨_,j,.inr ⟨u,_,rfl,⟨⟨n,i,m,r,t⟩,F9 I.sz g,hn,λp hp z=>?_⟩,.inl rfl⟩⟩,q⟩;have:=E6 (I.pin p hp).1;rw[z]at this;exact absurd g (Nat.not_le.mpr this)
def Inv.bT(I:Inv X pins σ H s):Inv X [] σ H s:=I.aa λ_ h=>nomatch h
def Fl.bT(f:Fl X pins H s e C od):Fl X [] H s e C od:=by obtain⟨T,d,h⟩:=f;refine⟨T,d,h.imp id λ⟨a,g,c,b,i⟩=>⟨a,g,c,⟨b.tbk,b.new,b.free,λp hp=>b.pin p ?_⟩,i⟩⟩;rw[O7]at hp;exact a0a _ hp
def Fl.VM(f:Fl X pins H s e C od):Fl (X.VM E) pins H s e C od:=by obtain⟨T,d,h⟩:=f;exact⟨T,d,h.imp id λ⟨a,g,c,b,i⟩=>⟨a,g,c,⟨b.tbk,b.new,b.free,b.pin⟩,i⟩⟩
def zE:Passes (CXe X.prog X.w) (thr X E) E:=λa b H s v j I h i=>by obtain⟨c,e,C,g,rfl,d,f,q⟩:=Inv.thrown (X:=thr X E) I h i;exact⟨b,c,e,C,g,rfl,(d.j6.VM _).bT,(Fl.VM (X:=thr X E) f.bT),q⟩
def oJ:Passes (CXe P w) X E0:=λa b H s v j I h _=>by obtain⟨e,C,g,c,f,i,d,_,_,_,_,_,_,_,_,_,_,_,q⟩:=h;exact False.elim q
def yi(a:Own X):PassesOwn (FK X) X.A X.env (Cd X E):=λv s ⟨i,r,e,C,j,l,I,f,q⟩=>by
 subst l;have n:X.A.frames=some X.nox.stack:=I.ok.frames;refine bS (X:=X.nox) a n I f λc o d b=>?_;obtain⟨t,p,m⟩:=XO.get (d.hok e _ zd);refine f8 (a1v m rfl (x:=.ref c) rfl ?_);rw[if_neg (show ¬((Value.ref c==Value.none)=true)from by simp)];refine fj d zd b λu h g=>?_;rw[QU]at h g;refine⟨i,_,e,C,j,rfl,h,⟨_,zd,.inr ⟨c,_,rfl,g,.inr ⟨(X.env.locals:Int),?_⟩⟩⟩,?_⟩
 .rw[a.2];rfl
 .rw[QU];exact q
def xn{P:Ez}{w:EF}{K:Fc}{j:Er}{g:Heap}{N:EB}{d:Str}{a:Scope}{f:Addr}{cd:Value}{A:EK}{c:List Env}{s:Eu}{H:Hp}{E:XK}{v:Value}{n:Eu}
  (h:Cd (eL (CXe P w) P w K j g N d a f cd A c s H E) E v n):(eL (CXe P w) P w K j g N d a f cd A c s H E).xe v n:=by
 obtain⟨G,J,e,C,r,y,I,p,q⟩:=h;subst y;have o:Own (eL (CXe P w) P w K j g N d a f cd A c s H E):=⟨rfl,rfl⟩;show wpAny (model P w) _ (leaving _ (.ref e)) _ _ n;unfold leaving;refine f8 (bS (X:=(eL (CXe P w) P w K j g N d a f cd A c s H E).nox) o I.ok.frames I p λu F x b=>?_);refine fj x zd b λL i l=>?_;rw[QU]at i l;obtain⟨B,t,z,m,D⟩:=l.tbk;exact⟨e,C,r,u,B,t,_,rfl,i.os,i.bare,i.base,i.hok,zd,z,m,D,l.free,l.new,by rw[QU];exact q⟩
def PSs.Ce{X:Cx}{E:En}{st:Fd}{t:TS}(h:PSs (X.VM E) st t)(b:∀v s,E v s->X.xe v s):PSs X st t:=λa s c H D I d=>
 S9 (h a s c H D (I.VM E) d) (λ_ _ q=>q.j6) b
section
variable {P:Ez}{w:EF}{K:Fc}{mg:Er}{base:Heap}
def Fun.okX{x b:Str}{st:Fh}{f:Addr}{i:EL}{N g:EB}{k:Nat}{sp:Sp}(F:Fun K x b st f i)(S:zH N g (zt st))(len:∀d H Q E,sp d H Q E->d.length=g.length)
  (l:∀(c:Value)(A:EK)(a:List Env)(s:Eu)(H:Hp)(d:EH)(Q:VK) (E:XK),wI k (A.deeper (envOfC b (zt st) s.heap.objs.size f c))->sp d H Q E->
   ∃t,PSs (thr (eL (CXe P w) P w K mg base N b (zt st) f c A a s H E) E) (wO st) t/\t { nx:=λ_ j=>Q .non j,rt:=Q } (start N d) H):qY P w K mg base (CXe P w) (k+1) f i g sp:=by
 obtain⟨y,r,kV,p,u,z,c,ct,n,rfl,m,e⟩:=F.ex;refine B3 m e S len λA a s H d Q E o hsp=>?_;obtain⟨t,h,q⟩:=l c A a s H d Q E o hsp;exact⟨t,h.Ce λv s h=>xn h,q⟩
end
def xo(C:Addr)(sp:Sp)(E:XK)(t:TA):TE:=λc H Q=>t c H λb a=>b.length<=1000/\∀x,a x=none->sp (.ref x::b) (upd a x (XO x C none .none)) (λv d=>v=.non/\Q (.ref x) d) E
def Inv.Cf(I:Inv X pins σ H s):
  Inv X pins σ (upd H (s.heap.objs.size+1) (XO (s.heap.objs.size+1) C none .none)) { s with heap:=(s.heap.push (oH us)).push (yU C none s.heap.objs.size .none #[]) }:=
 I.laid (t':=s.toks) (λb u e=>v4 _ (v4 _ e)) (G4 _) (XO.ok (t:=s.heap.objs.size) (sl:=#[]) (by heap_get))
def fk(M:XMk X.K C f)(F:qY X.prog X.w X.K X.mg X.base CX k f fd ps sp)(y:wI (k+1) X.A)(D:Binds X.K fd ps [])
  (B:Passes CX X E) (I:Inv X pins σ H s) (r:Vals vs b) (L:vs.length<=1000) (h:∀x,H x=none->sp (.ref x::vs) (upd H x (XO x C none .none)) (λv A=>v=.non/\Q (.ref x) A) E):
  wpAny (FK X) X.A (call (.ref C) b) (EP X pins σ Q) X.xe s:=by
 have o:=h (s.heap.objs.size+1) (I.hok.fresh (G4 _));have c:=Inv.Cf (C:=C) (us:=b) I;have j:Vals (V.ref (s.heap.objs.size+1)::vs) (Value.ref (s.heap.objs.size+1)::b):=.cons rfl r;have i:(Value.ref (s.heap.objs.size+1)::b++[]).length=ps.length:=by have e:=j.length;rw[F.len _ _ _ _ o]at e;rw[O7];exact e.symm
 have m:=D _ (Value.ref (s.heap.objs.size+1)::b) c.kIn i;rw[O7]at m;obtain⟨t,g,d,J,K⟩:=s;refine O1 (n:=X.m) I.tk<|Cc M I.kIn (by rw[<- r.length,a0N];omega) (a0b (F.run _ X.stack _ _ ⟨_::b,[]⟩ _ _ _ E (y.make C b []) (c.BY.make C b []) m j o) λr w a=>?_)
 cases r with
 |error e=>exact λhn=>B pins σ _ _ e w c a hn
 |ok p=>
  cases p with
  |ret u=>obtain⟨v,l,_,_,_,_,z,ev,_⟩:=id a;subst ev;refine⟨z,λhn=>?_⟩;obtain⟨v,l,G,_,_,q⟩:=c.after a hn;exact⟨V.ref (t.objs.size+1),l,G,rfl,q⟩
  |next=>exact False.elim a
  |brk=>exact False.elim a
  |cont=>exact False.elim a
def l5(M:XMk X.K C f)(F:qY X.prog X.w X.K X.mg X.base CX k f fd ps sp)(j:wI (k+1) X.A)(i:Gl X x)(u:X.mg x=some (.ref C))(n:Binds X.K fd ps [])(m:Passes CX X E)
  (l:PA X (e::es) t) (b:(x==("__debug__":Str))=false:=by decide) (he:starEach (e::es) X.env=(false,eval e X.env)::starEach es X.env:=by rfl) (c:(backTo pos (starEach es X.env)).any (·.1)=false:=by rfl):
  PE X (.Call (.Name x p) (e::es) [] pos) (xo C sp E t):=by
 intro a s g H Q I h;refine a0n (WB I i u ?_ b);refine a1x (h₀:=X.base) I.ok.mod.kin M.kp (thn (l pos a s g H _ I h) λv w ⟨z,y,d,r,o,q⟩=>⟨d.kIn,?_⟩) he c;exact fk M F j n m d r o q
def Cg(K:Fc)(d h:TE)(f:Str):TS:=λD c H=>h c H λy g=>d c g λx b=>∃e C T,x=.ref e/\XN K C/\takerIn K C f=some none/\
  ((b e=some (XO e C none T)/\∀a,b a=none->D.nx c (upd (upd b a (XD a [(f,y)])) e (XO e C (some a) T)))\/
   (∃a fs,b e=some (XO e C (some a) T)/\b a=some (XD a fs)/\a≠e/\fs.length<1000/\D.nx c (upd b a (XD a (J4 f y fs)))))
section
variable {X:Cx}{o value:Ey}{f:Str}{pos pos':Pos}{ta tv:TE}
def fm(ha:PE X o ta)(hv:PE X value tv)(Y:swapsWith value (some (.Attribute o f pos')) pos.line X.env=pure false):PS X (.Assign [.Attribute o f pos'] value pos) (Cg X.K ta tv f):=by
 intro p s G H D I h;refine a1m (thn (hv p s G H _ I h) λu s1 ⟨y,H1,I1,Q,q⟩=>thn (ha p s1 G H1 _ I1 q) λov s2 ⟨x,S,j,W,e,C,T,ex,c,O,w⟩=>?_) Y;subst ex;obtain rfl:ov=Value.ref e:=W;rcases w with⟨a,w⟩|⟨J,fs,a,R,ne,l,w⟩
 .obtain⟨t,Z,L⟩:=XO.get (j.hok e _ a);have hne:s2.heap.objs.size≠e:=a0C (E6 L);have B:S s2.heap.objs.size=none:=j.hok.fresh (E5 _);refine dP j.kIn c L O λF A i K=>⟨G,_,?_,w _ B⟩;have lt:∀b o,s2.heap.get? b=some o->b≠s2.heap.objs.size:=λb o q=>F1 (E6 q);have d:∀b o,S b=some o->b≠s2.heap.objs.size:=λb o q z=>by rw[z,B]at q;cases q
  refine j.un (h':=F) (t':=s2.toks+2) ⟨λb o q n _ _=>K b o (λz=>by rw[z,a]at n;cases n) q,λb o q n _ _=>⟨o.slots,K b o (λz=>by rw[z,a]at n;cases n) q⟩,λb o q n _=>?_,λb o q _=>?_,λb xs q=>?_,λb o u q=>?_,λb ps q=>⟨#[],?_⟩⟩ λb ob q=>?_
  .rw[zh (λz=>by rw[z,a]at n;cases n),zh (lt b o q)];exact n
  .by_cases m:b=e
   .exact⟨_,m▸A⟩
   .exact⟨o,K b o m q⟩
  .rw[zh (λz=>by rw[z,a]at q;cases q),zh (d b _ q)];exact q
  .rw[zh (λz=>by rw[z,a]at q;cases q),zh (d b _ q)];exact q
  .rw[zh (λz=>by rw[z,a]at q;cases q),zh (d b _ q),q];simp
  .by_cases m:b=e
   .subst m;rw[zd]at q;cases q;exact XO.ok A
   .rw[zh m]at q;by_cases E:b=s2.heap.objs.size
    .subst E;rw[zd]at q;cases q;refine XD.ok i (λg=>?_) (λg M=>?_) (by show 1<=1000;decide)
     .show VL (List.lookup g [(f,y)]) (if g=f then some u else none);by_cases z:g=f
      .subst z;rw[if_pos rfl];simp only[List.lookup,beq_self_eq_true];exact Q
      .rw[if_neg z];simp only[List.lookup,beq_eq_false_iff_ne.mpr z];exact True.intro
     .by_cases z:g=f
      .subst z;exact E8.mpr rfl
      .exact absurd (if_neg z) M
    .rw[zh E]at q;refine(j.hok b ob q).oh (λc v hc r=>K c v ?_ r) (λc r=>?_) λc xs r=>?_
     .rcases hc with z|z
      .rw[z];exact m
      .intro z2;rw[z2,a]at z;cases z
     .rw[zh (λz=>by rw[z,a]at r;cases r),zh (d c _ r)];exact r
     .rw[zh (λz=>by rw[z,a]at r;cases r),zh (d c _ r)];exact r
 .obtain⟨t,Z,L⟩:=XO.get (j.hok e _ a);obtain⟨P,hn,r,U,l1⟩:=XD.get (j.hok J _ R);refine fh j.kIn c L hn ne O U (by rw[u8,a0N];omega) λF i sb=>⟨G,_,?_,w⟩;have N:∃u,F.get? J=some u:=let⟨o,_,_,e',_⟩:=i;⟨o,e'⟩
  refine j.write (x:=J) (e:=J) (t':=s2.toks+2) (by rw[R];exact True.intro) (.inl rfl) (λb u m z=>(sb.2 b m).trans z) N (XD.ok i (λg=>?_) (λg M=>?_) ?_)
  .show VL ((J4 f y fs).lookup g) (if g=f then some u else P g);rw[Yj];by_cases q:g=f
   .rw[if_pos q,if_pos q];exact Q
   .rw[if_neg q,if_neg q];exact r g
  .by_cases q:g=f
   .rw[q];exact(wK f y fs).1
   .refine(wK f y fs).2 g (U g λz=>M ?_);show(if g=f then some u else P g)=none;rw[if_neg q];exact z
  .have:=Yk f y fs;omega
def Ci(I:Inv X pins σ H s)(he:H e=some (XC e C dx)\/∃T,H e=some (XO e C (some dx) T)):∃t T a,s.heap.get? e=some (yU C (some dx) t T a):=by
 rcases he with he|⟨T,he⟩
 .exact XC.get (I.hok e _ he)
 .obtain⟨t,a,h⟩:=XO.get (I.hok e _ he);exact⟨t,T,a,h⟩
def xp(K:Fc)(E:XK)(c:TE):TS:=λ_ d H=>c d H λv b=>∃e C a,v=.ref e/\XN K C/\b e=some (XO e C (some a) .none)/\E (.ref e) (some a) (upd b e (XC e C a))
def l6(y:X.calm=true)(he:PE (thr X E) e te):PS (thr X E) (.Raise (some e) none pos) (xp X.K E te):=by
 intro g s l H D I h;rw[arm_exec_Raise];refine f8 (a1c ?_);show wpAny _ _ (raiseStmt X.env (some (do let v<-eval e X.env;standAt pos;pure v)) none) _ _ s;unfold raiseStmt;refine f8 (f8 (thn (he g s l H _ I h) λu b ⟨v,B,d,A,a,C,r,ev,c,i,q⟩=>f8 (a1c (E2 ?_))));subst ev;obtain rfl:u=Value.ref a:=A;obtain⟨t,G,m⟩:=XO.get (d.hok a _ i);obtain⟨cd,w,_⟩:=c.cd;have n:Looks (FK X) b.heap (typeOf (.ref a)) (.ref C):=(Looks.ld m).andThen .now;have p:Looks (FK X) b.heap (isSubtype (.ref C) (.type "BaseException")) true:=a2s d.kIn (c.sub (x:="BaseException") (by decide));have LI:Looks (FK X) b.heap (isInstance (.ref a) (.type "BaseException")) true:=n.andThen p;have j:(thr X E).xe (.ref a) b:=⟨l,B,a,C,r,rfl,(d.j6.VM _).bT,⟨.none,i,.inl rfl⟩,q⟩;have z:(thr X E).A.handled=none:=d.ok.hd y;have LT:Looks (FK X) b.heap (isType (.ref a)) false:=by intro L M K J k q;unfold isType loadHead;exact f8 (a08 (k _ _ m) (E2 q))
 have LE:Looks (FK X) b.heap (isExcClass (.ref a)) false:=LT.andThen .now;refine f8 (E2 ?_);dsimp only;refine f8 (N8 ?_);unfold excFromValue;refine f8 (LE.here ?_);simp only[Bool.false_eq_true,if_false];refine f8 (LI.here ?_);simp only[if_true];refine E2 (f8 (LT.here ?_));simp only[Bool.false_eq_true,if_false];have LC:Looks (FK X) b.heap (typeOf (.ref C)) (.type "type"):=looks_typeIn d.kIn c.ty;have F:Looks (FK X) b.heap (raisedInstance (.ref a)) (.ref a):=by unfold raisedInstance;refine n.andThen (LC.andThen ?_);rw[if_pos (by simp)];exact .now
 refine f8 (F.here (f8 (lZ d i ?_)));exact wpAny_raiseNew_none z j
end
def TyX(K:Fc)(H:Hp)(x:V)(t:Value):Prop:=eK K H x t\/
 ∃e C a fs,x=.ref e/\t=.ref C/\XN K C/\XIs K C/\(H e=some (XC e C a)\/∃T,H e=some (XO e C (some a) T))/\H a=some (XD a fs)
def Cj:V->Option Value
 |.ref a=>some (.ref a)
 |.ty n=>some (.type n)
 |_=>none
def l7(r:RelV c u)(e:Cj c=some v):u=v:=by
 cases c with
 |ref a=>cases e;exact r
 |ty n=>cases e;exact r
 |_=>cases e
def ax(I:Inv X pins σ H s)(rx:RelV x u)(ty:TyX X.K H x t):∃P,KitX X.K u t P/\P s.heap/\u≠.builtin "__main__.__loader__#opaque":=by
 rcases ty with ty|⟨e,C,dx,fs,rfl,rfl,c,z,he,hd⟩
 .cases ty with
  |non=>cases(show u=Value.none from rx);exact⟨_,kitx_none,True.intro,λz=>nomatch z⟩
  |bl y=>cases(show u=Value.bool y from rx);exact⟨_,kitx_bool,True.intro,λz=>nomatch z⟩
  |int i=>obtain⟨t,q⟩:=(show ∃t,u=Value.int i t from rx);cases q;exact⟨_,kitx_int,True.intro,λz=>nomatch z⟩
  |str y=>obtain⟨t,q⟩:=(show ∃t,u=Value.str y t from rx);cases q;exact⟨_,kitx_str,True.intro,λz=>nomatch z⟩
  |flt y=>obtain⟨t,q⟩:=(show ∃t,u=Value.float y t from rx);cases q;exact⟨_,kitx_float,True.intro,λz=>nomatch z⟩
  |@lst a xs ea=>cases(show u=Value.ref a from rx);obtain⟨_,_,n,_,h1⟩:=(show y8 X.prog X.w H s.heap a (.lst xs)from I.hok a _ ea);exact⟨_,kitx_list,⟨_,h1,rfl⟩,λz=>nomatch z⟩
  |@frz a ob xs ea=>cases(show u=Value.ref a from rx);obtain⟨_,_,_,n,_,h1⟩:=(show y8 X.prog X.w H s.heap a (.frz ob (.lst xs))from I.hok a _ ea);exact⟨_,kitx_list,⟨_,h1,rfl⟩,λz=>nomatch z⟩
  |@tup a xs ea=>cases(show u=Value.ref a from rx);obtain⟨_,_,_,p⟩:=(show y8 X.prog X.w H s.heap a (.tup xs)from I.hok a _ ea);obtain⟨o,h1,h2,_⟩:=p;exact⟨_,kitx_tuple,⟨o,h1,h2⟩,λz=>nomatch z⟩
  |@dK a kvs ea=>cases(show u=Value.ref a from rx);obtain⟨_,_,vs,_,p⟩:=(show y8 X.prog X.w H s.heap a (.dK kvs)from I.hok a _ ea);obtain⟨o,es,ep,h1,h2,_⟩:=p;exact⟨_,kitx_dict,⟨o,h1,h2.1⟩,λz=>nomatch z⟩
  |@dT a kvs ea=>cases(show u=Value.ref a from rx);obtain⟨_,_,xs,_,o,es,ep,h1,h2,_⟩:=(show y8 X.prog X.w H s.heap a (.dT kvs)from I.hok a _ ea);exact⟨_,kitx_dict,⟨o,h1,h2.1⟩,λz=>nomatch z⟩
  |@ins a C dx fs ea cl ha hn htk hm=>cases(show u=Value.ref a from rx);obtain⟨mA,O,_⟩:=aj I.hok ea;obtain⟨od,J,_⟩:=O.look;exact⟨_,kitx_own (cl.get _) cl.hd ha hn htk hm,J,λz=>nomatch z⟩
 .cases(show u=Value.ref e from rx);obtain⟨t,T,sl,hx⟩:=Ci I he;obtain⟨mA,hn,_⟩:=XD.get (I.hok dx _ hd);obtain⟨od,hod,_⟩:=Ko hn;exact⟨_,l4 c z,⟨hx,rfl,rfl,hod⟩,λz=>nomatch z⟩
abbrev TEx:=St->Hp->VK->XK->Prop
def l8(i j:Int):Prop:=i.natAbs<2 ^ 8192/\j.natAbs<2 ^ 8192
def l8.ok(h:l8 i j):IntMulOk i j:=IntMulOk.of_le (intBits_le_iff.mpr h.1) (intBits_le_iff.mpr h.2) (by decide)
def rT:OpR X (binaryOp .Mult) (rI l8 λi j=>.int (i*j)):=opI λ_ _ _ _ _ _ _ a q=>mul_int q a.ok
theorem zA.upd{H:Hp}{p:Addr}{o:HO}(h:H p=Option.none):zA H (upd H p o):=λb q e=>by rw[zh (yx e h)];exact e
def ay(cells:EX):List (Str×NameKind)->List (Str×Addr)->List (Str×Addr)
 |[],a=>a
 | (n,k)::r,a=>ay cells r (if k == .free then(match cells.lookup n with|some c=>(n,c)::a|none=>a)else a)
theorem Jk{env:Env}:∀(b:Fb)(d:EX),(∀y∈b,y.2=.free->(env.cells.lookup y.1).isSome=true)->
  (forIn b d λx r=>if(x.2==NameKind.free)=true then do let a<-cellOf env x.1;pure (ForInStep.yield ((x.1,a)::r))else pure (ForInStep.yield r))=(pure (ay env.cells b d):Sem _)
 |[],d,_=>rfl
 | (n,k)::r,d,h=>by
  rw[List.forIn_cons];have i:=λd=>Jk (env:=env) r d λy m=>h y (E3 _ m);unfold ay;by_cases e:(k==NameKind.free)=true
  .have j:=h (n,k) E9 (N6.mp e);obtain⟨c,l⟩:=L4.mp j;have f:List.lookup n env.cells=some c:=l;simp only[e,if_true,cellOf,f,pure_bind];exact i _
  .have g:(k==NameKind.free)=false:=by simpa using e
   simp only[g,Bool.false_eq_true,if_false,pure_bind];exact i _
def dR(h:∀y∈scope.names,y.2=.free->(env.cells.lookup y.1).isSome=true):closureFor scope env=pure (ay env.cells scope.names []):=by have:=Jk scope.names [] h;simp only[closureFor];rw[this];rfl
theorem Zy{cells:EX}{x:Str}{c:Addr}:∀(b:Fb)(f:EX),(∀d,f.lookup x=some d->cells.lookup x=some d)->(ay cells b f).lookup x=some c->cells.lookup x=some c
 |[],f,h,e=>h c e
 | (n,k)::r,f,h,e=>by
  unfold ay at e;refine Zy r _ (λd a=>?_) e;by_cases i:(k==NameKind.free)=true
  .rw[if_pos i]at a;split at a
   .rename_i l g;rw[O3]at a;split at a
    .rename_i j;cases a;rw[N6.mp j];exact g
    .exact h d a
   .exact h d a
  .rw[if_neg i]at a;exact h d a
theorem WH{cells:EX}{x:Str}:∀(a:Fb)(d:EX),((d.lookup x).isSome=true\/((x,NameKind.free)∈a/\(cells.lookup x).isSome=true))->((ay cells a d).lookup x).isSome=true
 |[],d,h=>by
  rcases h with h|⟨h,_⟩
  .exact h
  .cases h
 | (n,k)::r,d,h=>by
  unfold ay;refine WH r _ ?_;rcases h with h|⟨h,b⟩
  .left;by_cases f:(k==NameKind.free)=true
   .rw[if_pos f];split
    .rw[O3];split
     .rfl
     .exact h
    .exact h
   .rw[if_neg f];exact h
  .rcases F0.mp h with e|e
   .left;cases e;rw[if_pos (by rfl)];obtain⟨c,b⟩:=L4.mp b;rw[b,O3];simp
   .exact .inr ⟨e,b⟩
theorem rV{x:Str}{c:Addr}:∀(a:Fb)(h:Heap)(b:EX),(cellsFrom h.objs.size a b).lookup x=some c->b.lookup x=some c\/(h.objs.size<=c/\∃v,(pushCells h a).IsCell c v)
 |[],_,_,e=>.inl e
 | (n,k)::r,h,b,e=>by
  unfold cellsFrom at e;unfold pushCells;split at e
  .rename_i d;rw[if_pos d];have f:(cellsFrom (h.push { cls:=.type "cell",data:=.cell none }).objs.size r ((n,h.objs.size)::b)).lookup x=some c:=by rw[T0];exact e
   rcases rV r _ _ f with z|⟨z,v⟩
   .rw[O3]at z;split at z
    .cases z;exact .inr ⟨E5 _,none,_,a2g r _ _ _ (G5 _ rfl),rfl⟩
    .exact .inl z
   .rw[T0]at z;exact .inr ⟨a1H z,v⟩
  .rename_i d;rw[if_neg d];exact rV r h b e
theorem fo:∀(a:Fb)(i:Nat)(b:EX),(∀x y c,b.lookup x=some c->b.lookup y=some c->x=y)->(∀x c,b.lookup x=some c->c<i)->∀x y c,(cellsFrom i a b).lookup x=some c->(cellsFrom i a b).lookup y=some c->x=y
 |[],_,_,h,_=>h
 | (n,k)::r,i,b,h,g=>by
  unfold cellsFrom;split
  .refine fo r _ _ (λx y c d f=>?_) λx c e=>?_
   .rw[O3]at d f;split at d<;>split at f
    .rename_i j _ l;rw[N6.mp j,N6.mp l]
    .cases d;exact absurd (g _ _ f) (S0 _)
    .cases f;exact absurd (g _ _ d) (S0 _)
    .exact h x y c d f
   .rw[O3]at e;split at e
    .cases e;exact N9 _
    .exact a0g (g x c e)
  .exact fo r _ _ h g
theorem fq{x:Str}:∀(a:Fb)(c:Nat)(b:EX),((b.lookup x).isSome=true\/(x,NameKind.cell)∈a)->((cellsFrom c a b).lookup x).isSome=true
 |[],_,_,h=>h.elim id λz=>nomatch z
 | (n,k)::r,c,b,h=>by
  unfold cellsFrom;split
  .refine fq r _ _ ?_;rcases h with h|h
   .left;rw[O3];split
    .rfl
    .exact h
   .rcases F0.mp h with e|e
    .cases e;left;rw[O3];simp
    .exact .inr e
  .rename_i d;refine fq r _ _ (h.imp id λz=>?_);rcases F0.mp z with e|e
   .cases e;exact absurd rfl d
   .exact e
theorem fu{x:Str}:∀(a:Fb)(c:Nat)(b:EX),(x,NameKind.cell)∉a->(cellsFrom c a b).lookup x=b.lookup x
 |[],_,_,_=>rfl
 | (n,k)::r,c,b,h=>by
  unfold cellsFrom;split
  .rename_i d;rw[fu r _ _ λz=>h (E3 _ z),O3];have:(x==n)=false:=by
    cases q:x==n with
    |false=>rfl
    |true=>exact absurd (by rw[N6.mp q,N6.mp d];exact E9) h
   rw[this]
  .exact fu r _ _ λz=>h (E3 _ z)
theorem fv{x:Str}{c:Addr}:∀(a:Fb)(i b:Nat)(j:EX),b<=i->((x,NameKind.cell)∈a\/∀d,j.lookup x=some d->b<=d)->(cellsFrom i a j).lookup x=some c->b<=c
 |[],_,_,_,_,h,e=>h.elim (λz=>nomatch z) λz=>z c e
 | (n,k)::r,i,b,j,g,h,e=>by
  unfold cellsFrom at e;split at e
  .refine fv r _ b _ (a1E g) ?_ e;rcases h with h|h
   .rcases F0.mp h with z|z
    .cases z;refine .inr λd f=>?_;rw[O3]at f;simp at f;rw[<- f];exact g
    .exact .inl z
   .refine .inr λd f=>?_;rw[O3]at f;split at f
    .cases f;exact g
    .exact h d f
  .rename_i l;refine fv r _ b _ g (h.imp (λz=>?_) id) e;rcases F0.mp z with q|q
   .cases q;exact absurd rfl l
   .exact q
def dS
  (h:Q (newEnv scope s.heap.objs.size globals (cellsFrom (s.heap.objs.size+1) scope.names cl) qual none .none (some env) builtinsNs) { s with heap:=pushCells (s.heap.push { cls:=.type "dict",data:=.dict #[] }) scope.names }):
  wpAny M A (newFunctionEnv scope globals cl [] qual none .none (some env)) Q E s:=by
 simp only[newFunctionEnv,Option.isSome_some,if_true];refine f8 (wpAny_alloc ?_);refine f8 (wpAny_layCells _ (λd a b=>by cases c:a==NameKind.cell<;>simp[c]) _ _ _ _ ?_);rw[show({ s with heap:=s.heap.push { cls:=.type "dict",data:=.dict #[] } }:Shared).heap.objs.size=s.heap.objs.size+1 from T0 ..];refine f8 ?_;rw[List.forIn_nil];exact E2 (E2 h)
abbrev bU(scope:Scope)(cl:EX)(L:Addr)(env:Env):Env:={ compEnvC scope cl L env with cells:=cellsFrom (L+1) scope.names cl }
abbrev y4(X:Cx)(scope:Scope)(N:EB)(fp:Ff)(pn:Ep)(s:Eu)(H:Hp)(L:Addr):Cx:=
 { X with N:=N,s₀:=s,H₀:=H,env:=bU scope (ay X.env.cells scope.names []) L X.env,outer:=X.stack,ex:=fp,fn:=λx=>scope.names.contains (x,.cell),pn:=pn,xe:=λ_ _=>False }
def eM(X:Cx)(scope:Scope)(N:EB)(fr:EI):Bool:=
 scope.kind == .function&&scope.names.all (λy=>y.2 != .cell || !scope.names.contains (y.1,.free))&&scope.names.all (λy=>y.2 != .local||scope.names.lookup y.1==some .local) &&
 scope.names.all (λy=>y.2 != .free||(X.env.kindOf y.1==some .cell||X.env.kindOf y.1==some .free))&&N.length==fr.length &&
 (N.zip fr).all λp=>match p.2 with|none=>true|some j=>X.N[j]?==some p.1&&scope.names.contains (p.1,.free)&&((relabel scope X.env).names.lookup p.1==some .cell||(relabel scope X.env).names.lookup p.1==some .free)
def i9(a:St)(fr:EI):St:=fr.map λo=>match o with|none=>none|some j=>(a[j]?).join
def PTs(X:Cx)(d:Ex)(t:TT):Prop:=
 ∀(a:Ep)(s:Eu)(b:St)(H:Hp)(Q:Bool->Hp->Prop),Inv X a b H s->t b H Q->
  wpAny (FK X) X.A (forIn d true λc r=>if r=true then do let ok<-isTrue c X.env (eval c X.env);pure (ForInStep.yield ok)else pure (ForInStep.yield r)) (TP X a b Q) X.xe s
def D4:TT:=λ_ H Q=>Q true H
def fA:PTs X [] D4:=λ_ _ a H _ I h=>wpAny_tests_nil ⟨H,I,h⟩
def rW(h:PT X c t):PTs X [c] t:=λa s b H Q I q=>wpAny_tests_one (h a s b H Q I q)
def Ue(h:(relabel scope env).names.lookup x=some .cell\/(relabel scope env).names.lookup x=some .free):(x,NameKind.free)∈scope.names\/(x,NameKind.cell)∈scope.names:=by
 have b:∀(a:Fb) k,(a.map λ(n,k)=>if(k==NameKind.free&&env.scope.kind == .function&&env.kindOf n==some .cell)then(n,NameKind.cell)else(n,k)).lookup x=some k->(k=.cell\/k=.free)->(x,NameKind.free)∈a\/(x,NameKind.cell)∈a:=by
  intro a
  induction a with
  |nil=>intro k e _;simp at e
  |cons y r g=>
   intro k e d;obtain⟨n,kd⟩:=y;rw[F3,O3]at e;by_cases q:(kd==NameKind.free&&env.scope.kind == .function&&env.kindOf n==some .cell)=true
   .simp only[q,if_true]at e;split at e
    .rename_i c;have hf:kd=.free:=by simp only[Bool.and_eq_true,beq_iff_eq]at q;exact q.1.1
     left;rw[N6.mp c,hf];exact E9
    .exact(g k e d).imp (E3 _) (E3 _)
   .simp only[q,Bool.false_eq_true,if_false]at e;split at e
    .rename_i c;have f:kd=k:=L5 e;rcases d with z|z
     .right;rw[N6.mp c,f,z];exact E9
     .left;rw[N6.mp c,f,z];exact E9
    .exact(g k e d).imp (E3 _) (E3 _)
 rcases h with h|h
 .exact b _ _ h (.inl rfl)
 .exact b _ _ h (.inr rfl)
def az(I:Ft)
  (a:∀n s,I n s->wpAny (model prog w) A (pyNext it) (λr f=>match r with
   |none=>R (.ok .next) f
   |some v=>wpAny (model prog w) A (letOwnedTupleGo target it v) (λ_ b=>wpAny (model prog w) A (assign target env v) (λ_ s2=>
     wpAny (model prog w) A (forIn ifs true λc r=>if r=true then do let ok<-isTrue c env (eval c env);pure (ForInStep.yield ok)else pure (ForInStep.yield r)) (λok e=>
      if ok=true then wpAny (model prog w) A (eval elt env) (λx i=>wpAny (model prog w) A (call (.builtin "list.append") [acc,x]) (λ_ g=>∃m,m<n/\I m g) (λ_ _=>False) i) (λ_ _=>False) e
      else ∃m,m<n/\I m e) (λ_ _=>False) s2) (λ_ _=>False) b) (λ_ _=>False) f) (λ_ _=>False) s)
  (n:Nat) (h:I n s):codeAny (model prog w) A (.compLoop (.ListComp elt [⟨target,iter,ifs,0⟩] scope pos) 0 it acc env) R s:=by
 refine codeAny_loop rfl I (λn s o=>?_) n h;show wpAny _ A ((compTurn (.ListComp elt [⟨target,iter,ifs,0⟩] scope pos) 0 it acc env).onRaise (λx=>do noteFrame x env;theTreesLotGoes x)) _ _ s;refine wpAny_noted ?_;rw[compTurn_list];refine f8 (a1c (f8 (S9 (a n s o) (λr f j=>?_) λ_ _ z=>False.elim z)));cases r with
 |none=>exact E2 j
 |some v=>
  refine f8 (S9 j (λ_ b d=>f8 (S9 d (λ_ s2 q=>f8 (S9 q (λok e l=>?_) λ_ _ z=>False.elim z)) λ_ _ z=>False.elim z)) λ_ _ z=>False.elim z);cases ok with
  |false=>exact E2 ⟨rfl,l⟩
  |true=>exact f8 (f8 (S9 l (λx i p=>f8 (S9 p (λ_ g t=>E2 (E2 ⟨rfl,t⟩)) λ_ _ z=>False.elim z)) λ_ _ z=>False.elim z))
def dU{X:Cx}{f:Ep}{B:St}{H2:Hp}{s2:Eu}{elt C tg:Ey}{Q:Ex}{a:Scope}{pos:Pos}{N:EB}{fr:EI}{it:Addr}{l:Ff}{tn:Nat->Heap->Prop}{J:It}
  {E:En}{RR:Value->Addr->Result->Shared->Prop}
  (hc:X.calm=true) (M:eM X a N fr=true) (I2:Inv X f B H2 s2) (T:Turn X.prog X.w X.K tg J l it tn) (st:tn 0 s2.heap) (O:∀b∈l,i8 X f H2 b)
  (k:∀(d:Eu)(H:Heap),Inv X f B (upd H2 s2.heap.objs.size (.lst [])) d->Inv (y4 X a N l (X.pn++f) d (upd H2 s2.heap.objs.size (.lst [])) d.heap.objs.size) [] (i9 B fr) (upd H2 s2.heap.objs.size (.lst [])) { d with heap:=H,toks:=d.toks+0 }->(∀b o,s2.heap.get? b=some o->H.get? b=some o)->(∀b∈l,(upd H2 s2.heap.objs.size (.lst [])) b=none)->(∀Y:Hp,(∀b∈l,Y b=none)->∀b∈l,i8 (y4 X a N l (X.pn++f) d (upd H2 s2.heap.objs.size (.lst [])) d.heap.objs.size) [] Y b)->
   codeAny (FK X) X.A (.compLoop (.ListComp elt [⟨tg,C,Q,0⟩] a pos) 0 (.ref it) (.ref s2.heap.objs.size) (bU a (ay X.env.cells a.names []) d.heap.objs.size X.env)) (RR (.ref s2.heap.objs.size) d.heap.objs.size) { d with heap:=H,toks:=d.toks+0 }):
  wpAny (FK X) X.A (newList []) (λR d=>wpAny (FK X) X.A (newFunctionEnv a X.env.globals (ay X.env.cells a.names []) [] X.env.qual none .none (some X.env)) (λD s4=>
   codeAny (FK X) X.A (.compStart (.ListComp elt [⟨tg,C,Q,0⟩] a pos) 0 (.ref it) R { D with scope:=relabel a X.env }) (RR R D.locals) s4) E d) E s2:=by
 unfold eM at M;simp only[Bool.and_eq_true,beq_iff_eq,List.all_eq_true]at M;obtain⟨⟨⟨⟨⟨k1,k2⟩,k3⟩,k4⟩,k5⟩,k6⟩:=M;have hcf:∀x,(x,NameKind.free)∈a.names->(x,NameKind.cell)∉a.names:=λx hf A=>by have:=k2 _ A;simp only[bne_self_eq_false,Bool.false_or,Bool.not_eq_true',List.contains_eq_mem,decide_eq_false_iff_not]at this;exact this hf
 refine a1a ?_;have g:Inv X f B (upd H2 s2.heap.objs.size (.lst [])) { s2 with heap:=s2.heap.push { cls:=.type "list",data:=.seq ([]:List Value).toArray } }:=I2.B4 (ys:=[]) (its:=[]) (t':=s2.toks) .nil (P4 _);refine dS ?_;generalize hs3:({ s2 with heap:=s2.heap.push { cls:=.type "list",data:=.seq ([]:List Value).toArray } }:Shared)=d at g ⊢;have F:=(Heap.Ns.new d.heap (.type "dict")).keeps (a2g a.names _);have n:∀b o,d.heap.get? b=some o->(pushCells (d.heap.push { cls:=.type "dict",data:=.dict #[] }) a.names).get? b=some o:=λb o e=>a2g _ _ b o (v4 _ e);have t:∀x c,(cellsFrom (d.heap.objs.size+1) a.names (ay X.env.cells a.names [])).lookup x=some c->X.env.cells.lookup x=some c\/(d.heap.objs.size+1<=c/\∃v,(pushCells (d.heap.push { cls:=.type "dict",data:=.dict #[] }) a.names).IsCell c v):=λx c e=>by have:=rV (x:=x) (c:=c) a.names (d.heap.push { cls:=.type "dict",data:=.dict #[] }) (ay X.env.cells a.names []) (by rw[T0];exact e);rw[T0]at this;exact this.imp (Zy _ [] λ_ z=>by simp at z) id
 generalize hh1:pushCells (d.heap.push { cls:=.type "dict",data:=.dict #[] }) a.names=H at F n t ⊢;have I:∀b o,s2.heap.get? b=some o->d.heap.get? b=some o:=λb o e=>by rw[<- hs3];exact v4 _ e
 have L:∀b∈l,b<d.heap.objs.size/\(upd H2 s2.heap.objs.size (.lst [])) b=none:=λb h=>by obtain⟨o,ho,_⟩:=T.obj _ _ st b h;refine⟨E6 (I _ _ ho),?_⟩;rw[zh (F1 (E6 ho))];exact(O b h).1
 have s:(y4 X a N l (X.pn++f) d (upd H2 s2.heap.objs.size (.lst [])) d.heap.objs.size).Ok:=by
  refine⟨g.ok.mod,k1,g.ok.glob,g.ok.blt,E5 _,fo _ _ _ (λx y c e1 r=>g.ok.inj x y c (Zy _ [] (λ_ z=>by simp at z) e1) (Zy _ [] (λ_ z=>by simp at z) r)) (λx c e=>?_),λx hx=>?_,λx c z e=>?_,λ_=>g.ok.hd hc,g.ok.frames,.inl rfl,
   λb h=>⟨F1 (L b h).1,λx c e=>?_⟩,g.bs,F9 g.ok.bsz g.sz,λb o e h=>?_,λb h z=>?_,g.stack,g.WA⟩
  .obtain⟨v,hv⟩:=g.cell x c (Zy _ [] (λ_ z=>by simp at z) e);exact a0g hv.lt
  .refine L4.mp (fq _ _ _ ?_);rcases Ue hx with hf|hf
   .have U:=k4 _ hf;simp only[bne_self_eq_false,Bool.false_or,Bool.or_eq_true,beq_iff_eq]at U;obtain⟨c,hcx⟩:=g.ok.has x U;exact .inl (WH _ [] (.inr ⟨hf,by rw[hcx];rfl⟩))
   .exact .inr hf
  .exact fv a.names (d.heap.objs.size+1) d.heap.objs.size _ (G4 _) (.inl (List.contains_iff_mem.mp z)) e
  .rcases t x c e with z|⟨z,_⟩
   .exact(O b h).2.2.2.2.1 x c z
   .exact λq=>absurd (L8 (a1H z) (show c<d.heap.objs.size by rw[q];exact(L b h).1)) (S0 _)
  .rcases(O b h).2.2.2.1 with z|z
   .exact I2.ok.Bj b o e z
   .have:=E6 e;exact absurd (F5 this I2.ok.bsz) (Nat.not_lt.mpr z)
  .rcases F0.mp (g.V6 b z)with z|z
   .exact(O b h).2.1 z
   .exact(O b h).2.2.1 z
 have P:(i9 B fr).length=N.length:=by unfold i9;rw[u8];exact k5.symm
 have J0:Inv (y4 X a N l (X.pn++f) d (upd H2 s2.heap.objs.size (.lst [])) d.heap.objs.size) [] (i9 B fr) (upd H2 s2.heap.objs.size (.lst [])) { d with heap:=H,toks:=d.toks+0 }:=by
  have S:=g.kept (h':=H) (t':=d.toks+0) n;refine⟨s,rfl,g.bare,Un.kept n,⟨_,F,λi x v e1 r _=>?_⟩,λx c e=>(t x c e).elim (S.cell x c) λz=>z.2,g.hok.fresh (E5 _),λx c e=>(t x c e).elim (S.JZ x c) λz=>g.hok.fresh (a1H z.1),λp hp=>?_,S.hok,P,g.tk⟩
  .unfold i9 at r;rw[G9]at r;cases K:fr[i]? with
   |none=>rw[K]at r;cases r
   |some o=>
    rw[K]at r;cases o with
    |none=>cases r
    |some j=>
     have Z:(B[j]?).join=some v:=L5 r;have hm:(x,some j)∈N.zip fr:=by refine O2 (i:=i) ?_;rw[List.getElem?_zip_eq_some];exact⟨e1,K⟩
     have U:=k6 _ hm;simp only[Bool.and_eq_true,Bool.or_eq_true,beq_iff_eq,List.contains_iff_mem]at U;obtain⟨⟨g1,g2⟩,g3⟩:=U;have hσ:B[j]?=some (some v):=by
      cases q:B[j]? with
      |none=>rw[q]at Z;cases Z
      |some w=>rw[q]at Z;cases w with
       |none=>cases Z
       |some w=>cases Z;rfl
     have G:=k4 _ g2;simp only[bne_self_eq_false,Bool.false_or,Bool.or_eq_true,beq_iff_eq]at G;obtain⟨m,_,hl⟩:=S.loc;obtain⟨u,ru,lk⟩:=hl j x v g1 hσ (by rcases G with z|z;exact .inr (.inl z);exact .inr (.inr z));refine⟨u,ru,.inr ⟨g3,?_⟩⟩;rcases lk with⟨z,_⟩|⟨_,c,ec,z⟩
     .rcases G with q|q<;>(rw[z]at q;cases q)
     .obtain⟨c',A⟩:=L4.mp (WH (cells:=X.env.cells) (x:=x) a.names [] (.inr ⟨g2,by rw[ec];rfl⟩));have:=Zy _ [] (λ_ z=>by simp at z) A;rw[ec]at this;cases this;exact⟨c,(fu _ _ _ (hcf x g2)).trans A,z⟩
  .have hp':p∈X.pn++f:=by rw[O7]at hp;exact hp
   obtain⟨q1,q2,q3,q4,q5⟩:=S.pin p hp';refine⟨q1,q2,F1 (E6 (g.pin p hp').1),λz=>?_,q5⟩;rcases F0.mp (g.V6 _ z)with z|z
   .exact q3 z
   .exact q4 z
 have W:∀{Y:Hp},(∀b∈l,Y b=none)->∀b∈l,i8 (y4 X a N l (X.pn++f) d (upd H2 s2.heap.objs.size (.lst [])) d.heap.objs.size) [] Y b:=λhn b h=>
  ⟨hn b h,(s.exf b h).1,λz=>s.Bk b h z,.inl h,(s.exf b h).2,λp hp=>by rw[O7]at hp;exact(O b h).2.2.2.2.2 p hp⟩
 have loop:=k d H g J0 (λb o e=>n b o (I b o e)) (λb h=>(L b h).2) (λ_ hn=>W hn);exact codeAny_compStart_list loop (T.self _ 0 _ _ _ (T.keep _ _ _ st λb _ o e=>n b o (I b o e)) loop)
def bV{X:Cx}{f:Ep}{σ:St}{H2:Hp}{s2:Eu}{elt iter tg:Ey}{ifs:Ex}{a:Scope}{pos:Pos}{N:EB}{fr:EI}{g:TG}{tc:TT}{te:TE}{it:Addr}{t:Ff}{tn:Nat->Heap->Prop}{J:It}
  {E:En}{RR:Value->Addr->Result->Shared->Prop}{Q:VK}
  (hc:X.calm=true) (hok:eM X a N fr=true) (I2:Inv X f σ H2 s2) (T:Turn X.prog X.w X.K tg J t it tn) (st:tn 0 s2.heap) (f2:∀b∈t,i8 X f H2 b)
  (hg:∀t pn s H L,PG (y4 X a N t pn s H L) tg g) (hi:∀t pn s H L,PTs (y4 X a N t pn s H L) ifs tc) (he:∀t pn s H L,PE (y4 X a N t pn s H L) elt te)
  (h:∀j,H2 j=none->∃W:Nat->Nat->St->Hp->Prop,(∃m,W 0 m (i9 σ fr) (upd H2 j (.lst [])))/\∀i m l q,W i m l q->
   (J.stop i q/\Q (.ref j) q)\/(J.go i q/\∃N:St->Hp->Prop,(∀l q,N l q->∃m',m'<m/\W (i+1) m' l q)/\∀x H3,J.yld i q x H3->g x l H3 λF H4=>tc F H4 λb O=>
    if b=true then te F O λv H6=>∃ys,H6 j=some (.lst ys)/\ys.length<sizeLine/\N F (upd H6 j (.lst (ys++[v])))else N F O))
  (hRR:∀j C m U q,Inv X f σ q U->U.heap.Ns C m->X.s₀.heap.objs.size<=C->q C=none->C≠X.env.locals->(∀x c,X.env.cells.lookup x=some c->c≠C)->(∀p∈X.pn++f,p.1≠C)->Q (.ref j) q->RR (.ref j) C (.ok .next) U):
  wpAny (FK X) X.A (newList []) (λj w=>wpAny (FK X) X.A (newFunctionEnv a X.env.globals (ay X.env.cells a.names []) [] X.env.qual none .none (some X.env)) (λM s4=>
   codeAny (FK X) X.A (.compStart (.ListComp elt [⟨tg,iter,ifs,0⟩] a pos) 0 (.ref it) j { M with scope:=relabel a X.env }) (RR j M.locals) s4) E w) E s2:=by
 have hDf:H2 s2.heap.objs.size=none:=I2.hok.fresh (E5 _);obtain⟨W,⟨m0,w0⟩,turn⟩:=h _ hDf;refine dU hc hok I2 T st f2 λw h1 I3 J0 kp fpn B=>?_;have hcc:(y4 X a N t (X.pn++f) w (upd H2 s2.heap.objs.size (.lst [])) w.heap.objs.size).calm=true:=hc;refine az (λn U=>∃i l q,Inv (y4 X a N t (X.pn++f) w (upd H2 s2.heap.objs.size (.lst [])) w.heap.objs.size) [] l q U/\tn i U.heap/\(∀b∈t,q b=none)/\W i n l q) ?_ m0
  ⟨0,_,_,J0,T.keep _ _ _ st λb _ o e=>kp b o e,fpn,w0⟩
 rintro n s5 ⟨i,I,O,I5,st5,fr5,w5⟩
 rcases turn i n I O w5 with⟨stop,qn⟩|⟨go,NN,hNN,step⟩
 .refine thn (T.done (y4 X a N t (X.pn++f) w (upd H2 s2.heap.objs.size (.lst [])) w.heap.objs.size) rfl rfl rfl hcc i [] s5 I O _ I5 (B _ fr5) st5 stop) λr s6 ⟨hr,P⟩=>?_;subst hr;have I7:Inv X f σ O s6:=I3.uP (ch:=t) P.os P.base P.hok P.bare (λb G=>⟨(f2 b G).2.2.2.1,(f2 b G).2.1,(f2 b G).2.2.2.2.1,(f2 b G).2.2.2.2.2⟩) P.tk;obtain⟨mm,hmm,_⟩:=P.loc;refine hRR _ _ mm s6 O I7 hmm I3.sz P.free (a0C I3.lt) (λx c e z=>?_) (λp hp z=>?_) qn
  .obtain⟨v,hv⟩:=I3.cell x c e;exact absurd hv.lt (by rw[z];exact S0 _)
  .exact absurd (E6 (I3.pin p hp).1) (by rw[z];exact S0 _)
 .refine thn (T.item (y4 X a N t (X.pn++f) w (upd H2 s2.heap.objs.size (.lst [])) w.heap.objs.size) rfl rfl rfl hcc i [] s5 I O _ I5 (B _ fr5) st5 go) λr s6 ⟨u,hr,h6⟩=>?_;subst hr;refine thn h6 λ_ s7 ⟨x,H7,I7,r7,y7,R,fr7⟩=>?_;have I7':=I7.pinned (B _ fr7) (T.obj _ _ R);have A:∀{D:St}{S:Hp}{Y:Eu},Inv (y4 X a N t (X.pn++f) w (upd H2 s2.heap.objs.size (.lst [])) w.heap.objs.size) ([]++XW t s7.heap) D S Y->NN D S->
    ∃m,m<n/\∃i l q,Inv (y4 X a N t (X.pn++f) w (upd H2 s2.heap.objs.size (.lst [])) w.heap.objs.size) [] l q Y/\tn i Y.heap/\(∀b∈t,q b=none)/\W i m l q:=λ{D S Y} Z n9=>by
   obtain⟨m',hm,w9⟩:=hNN D S n9;refine⟨m',hm,i+1,D,S,Z.J3,T.keep _ _ _ R λb G o e=>(Z.pin (b,o) (M4 _ (M4 _ (Zx G e)))).1,λb G=>?_,w9⟩;obtain⟨o,e,d⟩:=T.obj _ _ R b G;exact(Z.pin (b,o) (M4 _ (M4 _ (Zx G e)))).2.1
  refine thn (hg _ _ _ _ _ _ s7 I H7 x u _ I7' r7 (step x H7 y7)) λ_ s8 ⟨K,H8,I8,q8⟩=>?_;refine thn (hi _ _ _ _ _ _ s8 K H8 _ I8 q8) λok Y ⟨S,Z,q9⟩=>?_;cases ok with
  |false=>rw[if_neg (by decide)]at q9 ⊢;exact A Z q9
  |true=>rw[if_pos rfl]at q9 ⊢;refine thn (he _ _ _ _ _ _ Y K S _ Z q9) λy s10 ⟨v,H10,I10,r10,ys,h10,l10,q10⟩=>?_;refine thn (Kq (X:=y4 X a N t (X.pn++f) w (upd H2 s2.heap.objs.size (.lst [])) w.heap.objs.size) _ s10 K H10 (.ref s2.heap.objs.size) [v] (.ref s2.heap.objs.size) [y] (λ_ H11=>NN K H11) I10 rfl (.cons r10 .nil) ⟨_,ys,v,rfl,rfl,h10,l10,q10⟩) λ_ s11 ⟨_,H11,I11,_,q11⟩=>?_;exact A I11 q11
def tLC(t:TI)(g:TG)(q:TT)(r:TE)(fr:EI):TE:=λh H Q=>t h H λJ o=>∀c,o c=none->∃W:Nat->Nat->St->Hp->Prop,(∃m,W 0 m (i9 h fr) (upd o c (.lst [])))/\∀i m a e,W i m a e->
 (J.stop i e/\Q (.ref c) e)\/(J.go i e/\∃N:St->Hp->Prop,(∀a e,N a e->∃n,n<m/\W (i+1) n a e)/\∀x p,J.yld i e x p->g x a p λd s=>q d s λb l=>
  if b=true then r d l λv j=>∃f,j c=some (.lst f)/\f.length<sizeLine/\N d (upd j c (.lst (f++[v])))else N d l)
def bW{X:Cx}{d:Ep}{i:St}{H:Hp}{s:Eu}{a:Scope}{N:EB}{fr:EI}(b:eM X a N fr=true)(I:Inv X d i H s):
  a.kind=.function/\(∀y∈a.names,y.2=.local->a.names.lookup y.1=some .local)/\closureFor a X.env=pure (ay X.env.cells a.names []):=by
 unfold eM at b;simp only[Bool.and_eq_true,beq_iff_eq,List.all_eq_true]at b;obtain⟨⟨⟨⟨⟨h,m⟩,l⟩,j⟩,n⟩,o⟩:=b;refine⟨h,λy g z=>?_,dR λy g z=>?_⟩
 .have:=l y g;rw[z]at this;simpa using this
 .have e:=j y g;rw[z]at e;simp only[bne_self_eq_false,Bool.false_or,Bool.or_eq_true,beq_iff_eq]at e;obtain⟨c,f⟩:=I.ok.has y.1 e;rw[f];rfl
def l9(N:EB)(fr:EI)(G:X.calm=true)(i:eM X scope N fr=true)(U:PI X tg iter wi)(w:∀d f s H L,PG (y4 X scope N d f s H L) tg g)(O:∀d f s H L,PTs (y4 X scope N d f s H L) ifs tc)(he:∀d f s H L,PE (y4 X scope N d f s H L) elt te)
  (t:∀x,foldedSetIterable iter X.env x=pure x:=by intro _;rfl):PE X (.ListComp elt [⟨tg,iter,ifs,0⟩] scope pos) (tLC wi g tc te fr):=by
 intro a s r H Q I h;obtain⟨F,W,l⟩:=bW i I;rw[eval_ListComp];refine a1S (use:=none) rfl t l F W (thn (U a s r H _ I h) λv Z n=>thn n λS s2 p=>?_);obtain⟨it,d,tn,J,H2,e,A,T,j,R,K⟩:=p;subst e;refine bV (Q:=Q) (RR:=λc C=>compPost (FK X) X.A X.xe none (EP X a r Q) c C) G i A T j R w O he K λc C m D z y hn n p M E u q=>?_;exact⟨m,hn,λY B=>⟨.ref c,z,y.turned (t':=D.toks) (λb o P e=>(B.2 b P).trans e) p M (.inr n) E u,rfl,q⟩⟩
def Ck(N:EB)(fr:EI)(S:X.N.Nodup)(hy:X.N[i]?=some y)(O:X.env.scope.names.lookup y=some .local)(hc:X.calm=true)(l:eM X scope N fr=true)(hi:PI X tg iter wi)(U:∀f j s H L,PG (y4 X scope N f j s H L) tg g)
  (ht:∀f j s H L,PTs (y4 X scope N f j s H L) ifs tc) (he:∀f j s H L,PE (y4 X scope N f j s H L) elt te) (w:swapsWith (.ListComp elt [⟨tg,iter,ifs,0⟩] scope pos) (some (.Name y py)) eJ.line X.env=pure true:=by rfl)
  (P:∀x,foldedSetIterable iter X.env x=pure x:=by intro _;rfl):PS X (.Assign [.Name y py] (.ListComp elt [⟨tg,iter,ifs,0⟩] scope pos) eJ) (oj (tLC wi g tc te fr) (VP i)):=by
 intro c s G H D I h;obtain⟨k1,k3,t⟩:=bW l I;rw[exec_Assign_Name_used _ _ _ _ w];refine f8 (a1c (f8 ?_));show wpAny _ X.A (do let _<-comprehension (.ListComp elt [⟨tg,iter,ifs,0⟩] scope pos) scope X.env _ (newList []) false (eval iter X.env) (some (assign (.Name y py) X.env))) _ _ s;refine f8 (S9 (a1S (use:=some (assign (.Name y py) X.env)) (Q:=λ_ n=>SP X c D .next n) rfl P t k1 k3
  (thn (hi c s G H _ I h) λv s1 u=>thn u λitv s2 B=>?_)) (λ_ n hq=>E2 (E2 hq)) λ_ _ z=>z)
 obtain⟨it,f,tn,J,H2,e,I2,T,p,f2,hr⟩:=B;subst e;refine bV (Q:=λv H1=>VP i v G H1 D.nx) (RR:=λd C=>compPost (FK X) X.A X.xe (some (assign (.Name y py) X.env)) (λ_ n=>SP X c D .next n) d C) hc l I2 T p f2 U ht he hr λd C m n Z W hn u B M K R q=>?_;show wpAny _ X.A (assign (.Name y py) X.env (.ref d)) _ _ _;refine wpAny_assign_Name (XT (v:=.ref d) W S hy (.inl O) rfl (λF E ⟨a,sb,ha⟩=>?_) (.inr O));have A:C≠a:=λz=>by
  rcases ha with e|e
  .exact M (z.trans e)
  .exact K y a e z.symm
 obtain⟨o,es,ep,Y,rr⟩:=id hn;refine⟨m,⟨o,es,ep,(sb.2 C A).trans Y,rr⟩,λh' r=>⟨_,Z,E.turned (t':=F.toks) (λb o hb e=>(r.2 b hb).trans e) B M (.inr u) K R,q⟩⟩
section
variable {X:Cx}
theorem WI:∀{bs:Ew}{a:EE},Vals (bs.map V.bl) a->a=bs.map Value.bool
 |[],_,.nil=>rfl
 |b::bs,_,.cons e r=>by have c:_=Value.bool b:=e;subst c;rw[WI r];rfl
def Kv{prog:Ez}{w:EF}{A:EK}{bs:Ew}:TruthOf prog w A (λi v=>(bs.map Value.bool).toArray[i]?=some v) (λi=>bs.getD i false):=by
 intro i v s Q E h q;have a:(bs.map Value.bool)[i]?=some v:=by simpa using h
 rw[G9]at a;cases e:bs[i]? with
 |none=>rw[e]at a;cases a
 |some b=>
  rw[e]at a;cases a;have:bs.getD i false=b:=by simp[List.getD,e]
  dsimp only at q;rw[this]at q;exact E2 q
def range_all(bs:Ew):(List.range bs.length).all (λi=>bs.getD i false)=bs.all id:=by
 induction bs with
 |nil=>rfl
 |cons b bs a=>rw[E4,a2t,a0r,List.all_map,a0r,<- a];rfl
def Dm(K:Fc):List V->Hp->VK->Prop:=λa H Q=>∃(p:Addr)(bs:Ew),a=[.ref p]/\SqL K H p (bs.map V.bl)/\Q (.bl (bs.all id)) H
def l_(w:X.calm=true):vz X (.builtin "all") (Dm X.K):=by
 intro a s j H C B Q I r h;obtain⟨p,bs,rfl,v,q⟩:=h;obtain⟨u,rfl,l⟩:=vals1 r;cases l;obtain⟨z,x,d,_⟩:=I.list v;have e:=WI x;subst e;have f:p≠s.heap.objs.size:=by obtain⟨o,c,_⟩:=d.isList;exact F1 (E6 c)
 refine O1 (n:=X.m) (by ac_rfl)<|call_all_walk (a0w d.isList ⟨s.heap.objs.size,_,_,_,_,_,_,rfl,a2T (A:=X.A.in1) (I.ok.hd w) s.heap.objs.size p f (bs.map Value.bool).toArray,?_,Kv (bs:=bs),λi g y=>?_⟩)
 .refine⟨⟨_,G5 _ rfl,rfl,rfl⟩,?_⟩;obtain⟨o,c,t⟩:=d.isList;exact⟨o,v4 _ c,t⟩
 .intro hn;have m:Inv X a j H { s with heap:=i,toks:=g }:=I.kept (t':=g) λb o e=>y b o (by simp;exact F1 (E6 e)) (v4 _ e);refine⟨.bl _,H,m,rfl,?_⟩;have:(List.map Value.bool bs).toArray.size=bs.length:=by simp
  rw[this,range_all];exact q
end
abbrev TJ:=St->Hp->Str->(Str->Hp->Prop)->Prop
section
variable {X:Cx}
def xq:R2:=λx y H Q=>∃z i,x=.str z/\y=.int i/\z.length<=16/\-2 ^ 63<=i/\i<=1048576/\Q (.str (Txt.mul z i)) H
def dW:OpR X (binaryOp .Mult) xq:=by intro a s g H x y v u Q I b c h;obtain⟨z,i,rfl,rfl,hz,d,f,q⟩:=h;obtain⟨t,rfl⟩:=b;obtain⟨e,rfl⟩:=c;exact O1 (n:=X.m) (by ac_rfl)<|PySem.W.KXi.mul rfl hz d f λe k _ _ hn=>⟨.str _,H,I.tok _ hn,⟨_,rfl⟩,q⟩
end
def PE1(X:Cx)(e:Ey)(t:TE):Prop:=
 ∀(a:Ep)(s:Eu)(b:St)(H:Hp)(Q:VK),1<=s.toks->Inv X a b H s->t b H Q->wpAny (FK X) X.A (eval e X.env) (EP X a b Q) X.xe s
def PS1(X:Cx)(st:Fh)(t:TS):Prop:=
 ∀(a:Ep)(s:Eu)(b:St)(H:Hp)(D:Ends),1<=s.toks->Inv X a b H s->t D b H->wpAny (FK X) X.A (exec st X.env) (SP X a D) X.xe s
def Dp(X:Cx)(st:Fd)(t:TS):Prop:=
 ∀(a:Ep)(s:Eu)(b:St)(H:Hp)(D:Ends),1<=s.toks->Inv X a b H s->t D b H->wpAny (FK X) X.A (execs st X.env) (SP X a D) X.xe s
def Dq{b:Type}{t:Sem b}{Q c:b->Shared->Prop}(e:1<=s.toks)(h:wpAny M A t Q E s)(d:∀a s,1<=s.toks->Q a s->c a s):wpAny M A t c E s:=
 S9 (wpAny_toks_of e h) (λa f ⟨z,q⟩=>d a f z q) λ_ _ x=>x.2
section
variable {X:Cx}{e:Ey}{st:Fh}{t:TS}{te:TE}{pos:Pos}
def mq(j:PS1 X st t):Dp X [st] t:=by
 intro d s g H D hn I h;refine a1M (Dq hn (j d s g H D hn I h) λf l i q=>?_);cases f with
 |next=>exact a0Y q
 |ret v=>exact q
 |brk=>exact q
 |cont=>exact q
def rX(he:PE1 X e te):PS1 X (.Return (some e) pos) (C7 te):=by intro d s f H D hn I h;exact wpAny_Return_some (thn (he d s f H _ hn I h) λv m ⟨x,i,j,l,g⟩=>⟨x,f,i,j,l,g⟩)
end
section
variable {X:Cx}
def xt(i j:Int):Prop:=j≠0/\j.natAbs<2 ^ 8192
def mr:OpR X (binaryOp .FloorDiv) (rI xt λi j=>.int (i.fdiv j)):=opI λ_ j _ _ _ _ _ a q=>floordiv_int a.1 q (.inl (PyProof.noPylong_of_log2 (by
 have b:j.natAbs≠0:=by have:=a.1;omega
 have:=(Nat.log2_lt b).mpr a.2;omega)))
def Ds(K:Fc):List V->Hp->VK->Prop:=λb H Q=>∃(p:Addr)(a:EW),b=[.ref p]/\SqL K H p (a.map V.int)/\Q (.int a.sum) H
theorem fB:∀{b:EW}{c:EE},Vals (b.map V.int) c->∃a:List (Int×Tok),c=a.map (λz=>Value.int z.1 z.2)/\a.map Prod.fst=b
 |[],_,.nil=>⟨[],rfl,rfl⟩
 |n::b,_,.cons ⟨t,e⟩ r=>by subst e;obtain⟨a,rfl,rfl⟩:=fB r;exact⟨(n,t)::a,rfl,rfl⟩
def fC(j:X.calm=true):vz X (.builtin "sum") (Ds X.K):=by
 intro c s w H t x Q I r h;obtain⟨p,y,rfl,g,q⟩:=h;obtain⟨u,rfl,f⟩:=vals1 r;cases f;obtain⟨o,l,i,_⟩:=I.list g;obtain⟨a,rfl,rfl⟩:=fB l;have e:(a.map (λz=>Value.int z.1 z.2)).toArray=intItems a.toArray:=by unfold intItems;simp
 refine O1 (n:=X.m) (by ac_rfl)<|sum_intListG (xs:=a.toArray) (I.ok.hd j) (by rw[<- e];exact i.isList) λv d b m hn=>?_
 refine⟨.int _,H,I.kept (t':=d) m,⟨b,?_⟩,q⟩;rw[preSum_eq,O6 (by simp)]
end
def bX{A:EK}{xs ys:EH}{us ws:EE}{e:FE}(f:Vals xs us)(c:Vals ys ws)(he:∀j x y u v,xs[j]?=some x->ys[j]?=some y->RelV x u->RelV y v->SeqAt.EqAt A s u v (e j)):
  ∀j (a:j<us.toArray.size) (b:j<ws.toArray.size),SeqAt.EqAt A s us.toArray[j] ws.toArray[j] (e j):=by
 intro j a b;rw[N5]at a b;have i:j<xs.length:=by rw[f.length];exact a
 have h:j<ys.length:=by rw[c.length];exact b
 have g:xs[j]?=some xs[j]:=E1 i;have d:ys[j]?=some ys[j]:=E1 h;obtain⟨u,o,l⟩:=f.get g;obtain⟨w,p,rw'⟩:=c.get d;have n:us.toArray[j]=u:=by have:=E1 a;rw[o]at this;simpa using(L5 this).symm
 have m:ws.toArray[j]=w:=by have:=E1 b;rw[p]at this;simpa using(L5 this).symm
 rw[n,m];exact he j _ _ _ _ g d l rw'
theorem zA.none(s:zA H H')(h:H' q=Option.none):H q=Option.none:=by
 cases e:H q with
 |none=>rfl
 |some o=>rw[s _ _ e]at h;cases h
inductive PV where
 |i (n:Int)|s (x:Str)|b (c:Bool)|n
 |l (xs:List PV)|t (xs:List PV)|d (kvs:List (Key×PV))|o (c:Nat) (fs:List (Str×PV))|x (c:Nat) (fs:List (Str×PV))|sc (ns:EW)|dt (kvs:List (List Key×Int))
abbrev EA:=(List (Key×PV))
abbrev EO:=List PV
abbrev EV:=(List (Str×PV))
abbrev Fn:=Option PV
abbrev Fp:=(PV->PV->Option Bool)
abbrev Fv:=(PV->PV->Bool)
def dtV(kvs:List (List Key×Int)):List (List Key×V):=kvs.map λq=>(q.1,V.int q.2)
inductive Out(α:Type)where
 |ok (a:α)|exc (c:Nat) (fs:EV)|wall
abbrev EJ:=(List PV->Out PV)
def Out.bind{d b:Type}:Out d->(d->Out b)->Out b
 |.ok a,f=>f a
 |.exc c fs,_=>.exc c fs
 |.wall,_=>.wall
structure RC where
 K:Frag
 cls:Nat->Addr
def KL(K:Fc)(a:Addr)(xs:EH):Prop:=∃(o:Obj)(b:ET)(n:Nat),K.lookup a=some o/\o.cls=.type "list"/\o.dict=none/\o.data=.seq b n/\b.size<=sizeLine/\Vals xs b.toList
def aA(K:Fc)(N:Es)(H:Hp)(p:Addr)(vs:EH):Prop:=(N p/\Rd H p (.lst vs))\/KL K p vs
def aA.sq{K:Fc}{N:Es}{H:Hp}{p:Addr}{vs:EH}(h:aA K N H p vs):SqL K H p vs:=h.elim (λz=>.inl z.2) .inr
mutual
def Rep(W:RC)(M:Es)(H:Hp):PV->V->Prop
 |.i n,v=>v=.int n
 |.s x,v=>v=.str x
 |.b c,v=>v=.bl c
 |.n,v=>v=.non
 |.l f,v=>∃p e,v=.ref p/\M p/\H p=some (.lst e)/\yy W M H f e
 |.t f,v=>∃p e,v=.ref p/\SqT W.K H p e/\yy W M H f e
 |.d b,v=>∃p a,v=.ref p/\M p/\Rd H p (.dK a)/\yG W M H b a
 |.sc g,v=>∃p,v=.ref p/\aA W.K M H p (g.map V.int)
 |.dt b,v=>∃p,v=.ref p/\M p/\Rd H p (.dT (dtV b))
 |.o c fs,v=>∃p d a,v=.ref p/\M p/\H p=some (.ins (W.cls c) d a)/\vA W M H fs a
 |.x c fs,v=>∃p d a,v=.ref p/\H p=some (XC p (W.cls c) d)/\H d=some (XD d a)/\vA W M H fs a
def yy(W:RC)(M:Es)(H:Hp):List PV->List V->Prop
 |[],a=>a=[]
 |x::b,a=>∃v r,a=v::r/\Rep W M H x v/\yy W M H b r
def yG(W:RC)(M:Es)(H:Hp):List (Key×PV)->List (Key×V)->Prop
 |[],a=>a=[]
 |b::r,a=>∃v q,a=(b.1,v)::q/\Rep W M H b.2 v/\yG W M H r q
def vA(W:RC)(M:Es)(H:Hp):List (Str×PV)->List (Str×V)->Prop
 |[],a=>a=[]
 |b::r,a=>∃v q,a=(b.1,v)::q/\Rep W M H b.2 v/\vA W M H r q
end
def Imm:HO->Prop
 |.lst _=>False | .dK _=>False | .dT _=>False | .set _ _=>False | .ins _ _ _=>False | .tbl _=>False
 |_=>True
def Fr(M:Es)(H H':Hp):Prop:=∀a o,H a=some o->(M a\/Imm o)->H' a=some o
def Fr.rd(f:Fr M H H')(h:Rd H p u)(m:M p):Rd H' p u:=
 h.elim (λz=>.inl (f _ _ z (.inl m))) λ⟨o,z⟩=>.inr ⟨o,f _ _ z (.inl m)⟩
def Fr.sqT{M:Es}{K:Fc}{H H':Hp}(f:Fr M H H'){p:Addr}{u:EH}(h:SqT K H p u):SqT K H' p u:=
 h.elim (λh=>.inl (h.elim (λz=>.inl (f _ _ z (.inr trivial))) λ⟨o,z⟩=>.inr ⟨o,f _ _ z (.inr trivial)⟩)) .inr
def aA.frame{K:Fc}{N:Es}{H H':Hp}(f:Fr N H H'){p:Addr}{vs:EH}(h:aA K N H p vs):aA K N H' p vs:=h.elim (λz=>.inl ⟨z.1,f.rd z.2 z.1⟩) .inr
def qN(h:Rd H p u):H p≠none:=by rcases h with z|⟨_,z⟩<;>rw[z]<;>intro e<;>cases e
section
variable {W:RC}{M M':Es}{H H':Hp}
mutual
theorem Rep.gen(f:Fr M H H')(s:∀a,M a->H a≠none->M' a):∀{x:PV}{v:V},Rep W M H x v->Rep W M' H' x v
 |.i n,v,h=>h
 |.s x,v,h=>h
 |.b c,v,h=>h
 |.n,v,h=>h
 |.l l,v,h=>by unfold Rep at h ⊢;obtain⟨p,b,e,m,r,q⟩:=h;exact⟨p,b,e,s p m (by rw[r];intro e;cases e),f _ _ r (.inl m),yy.gen f s q⟩
 |.sc o,v,h=>by unfold Rep at h ⊢;obtain⟨p,e,r⟩:=h;exact⟨p,e,r.elim (λz=>.inl ⟨s p z.1 (by rcases z.2 with z|⟨_,z⟩<;>rw[z]<;>intro e<;>cases e),f.rd z.2 z.1⟩) .inr⟩
 |.dt i,v,h=>by unfold Rep at h ⊢;obtain⟨p,e,m,r⟩:=h;exact⟨p,e,s p m (qN r),f.rd r m⟩
 |.t l,v,h=>by unfold Rep at h ⊢;obtain⟨p,b,e,r,q⟩:=h;exact⟨p,b,e,f.sqT r,yy.gen f s q⟩
 |.d i,v,h=>by unfold Rep at h ⊢;obtain⟨p,b,e,m,r,q⟩:=h;exact⟨p,b,e,s p m (qN r),f.rd r m,yG.gen f s q⟩
 |.o c fs,v,h=>by unfold Rep at h ⊢;obtain⟨p,d,g,e,m,r,q⟩:=h;exact⟨p,d,g,e,s p m (by rw[r];intro e;cases e),f _ _ r (.inl m),vA.gen f s q⟩
 |.x c fs,v,h=>by unfold Rep at h ⊢;obtain⟨p,d,g,e,r,j,q⟩:=h;exact⟨p,d,g,e,f _ _ r (.inr trivial),f _ _ j (.inr trivial),vA.gen f s q⟩
theorem yy.gen(f:Fr M H H')(s:∀a,M a->H a≠none->M' a):∀{x:EO}{v:EH},yy W M H x v->yy W M' H' x v
 |[],v,h=>h
 |x::d,g,h=>by unfold yy at h ⊢;obtain⟨v,r,e,c,b⟩:=h;exact⟨v,r,e,Rep.gen f s c,yy.gen f s b⟩
theorem yG.gen(f:Fr M H H')(s:∀a,M a->H a≠none->M' a):∀{x:EA}{v:Et},yG W M H x v->yG W M' H' x v
 |[],v,h=>h
 | (k,x)::d,g,h=>by unfold yG at h ⊢;obtain⟨v,r,e,c,b⟩:=h;exact⟨v,r,e,Rep.gen f s c,yG.gen f s b⟩
theorem vA.gen(f:Fr M H H')(s:∀a,M a->H a≠none->M' a):∀{x:EV}{v:E_},vA W M H x v->vA W M' H' x v
 |[],v,h=>h
 | (k,x)::d,g,h=>by unfold vA at h ⊢;obtain⟨v,r,e,c,b⟩:=h;exact⟨v,r,e,Rep.gen f s c,vA.gen f s b⟩
end
end
def Fr.refl:Fr M H H:=λ_ _ h _=>h
def zA.fr(s:zA H H'):Fr M H H':=λa o h _=>s a o h
def Rep.same(h:Rep W M H x v)(s:zA H H'):Rep W M H' x v:=Rep.gen s.fr (λ_ m _=>m) h
def yy.same(h:yy W M H x v)(s:zA H H'):yy W M H' x v:=yy.gen s.fr (λ_ m _=>m) h
def yG.same(h:yG W M H x v)(s:zA H H'):yG W M H' x v:=yG.gen s.fr (λ_ m _=>m) h
def Rep.sub(h:Rep W M H x v)(s:∀a,M a->H a≠none->M' a):Rep W M' H x v:=Rep.gen Fr.refl s h
def yy.sub(h:yy W M H x v)(s:∀a,M a->H a≠none->M' a):yy W M' H x v:=yy.gen Fr.refl s h
def yG.sub(h:yG W M H x v)(s:∀a,M a->H a≠none->M' a):yG W M' H x v:=yG.gen Fr.refl s h
def vA.sub(h:vA W M H x v)(s:∀a,M a->H a≠none->M' a):vA W M' H x v:=vA.gen Fr.refl s h
def yp(W:RC)(N M:Es)(H:Hp):PV->V->Prop
 |.l f,v=>∃p d,v=.ref p/\N p/\H p=some (.lst d)/\yy W M H f d
 |.d a,v=>∃p b,v=.ref p/\N p/\Rd H p (.dK b)/\yG W M H a b
 |.sc g,v=>∃p,v=.ref p/\aA W.K N H p (g.map V.int)
 |.dt a,v=>∃p,v=.ref p/\N p/\Rd H p (.dT (dtV a))
 |.o c fs,v=>∃p e b,v=.ref p/\N p/\H p=some (.ins (W.cls c) e b)/\vA W M H fs b
 |x,v=>Rep W M H x v
def yp.iff:yp W M M H x v↔Rep W M H x v:=by cases x<;>simp only[yp,Rep]
def yp.gen{W:RC}{N M y A:Es}{H H':Hp}{x:PV}{v:V}(g:Fr N H H')(f:Fr M H H')(j:∀a,N a->H a≠none->y a)(s:∀a,M a->H a≠none->A a)(h:yp W N M H x v):yp W y A H' x v:=by
 cases x with
 |l D=>obtain⟨p,B,e,m,r,q⟩:=h;exact⟨p,B,e,j p m (by rw[r];intro e;cases e),g _ _ r (.inl m),q.gen f s⟩
 |d u=>obtain⟨p,w,e,m,r,q⟩:=h;exact⟨p,w,e,j p m (qN r),g.rd r m,q.gen f s⟩
 |sc E=>obtain⟨p,e,r⟩:=h;exact⟨p,e,r.elim (λz=>.inl ⟨j p z.1 (qN z.2),g.rd z.2 z.1⟩) .inr⟩
 |dt u=>obtain⟨p,e,m,r⟩:=h;exact⟨p,e,j p m (qN r),g.rd r m⟩
 |o c fs=>obtain⟨p,C,w,e,m,r,q⟩:=h;exact⟨p,C,w,e,j p m (by rw[r];intro e;cases e),g _ _ r (.inl m),q.gen f s⟩
 |i n=>exact Rep.gen f s h
 |s n=>exact Rep.gen f s h
 |b n=>exact Rep.gen f s h
 |n=>exact Rep.gen f s h
 |t n=>exact Rep.gen f s h
 |x c n=>exact Rep.gen f s h
def yp.same(h:yp W N M H x v)(s:zA H H'):yp W N M H' x v:=yp.gen s.fr s.fr (λ_ m _=>m) (λ_ m _=>m) h
def yp.sub(h:yp W N M H x v)(b:∀a,N a->H a≠none->N' a)(s:∀a,M a->H a≠none->M' a):yp W N' M' H x v:=yp.gen Fr.refl Fr.refl b s h
def Rep.weak(h:Rep W M H x v):yp W (λ_=>True) M H x v:=yp.sub (yp.iff.mpr h) (λ_ _ _=>trivial) (λ_ m _=>m)
def Kw(W:RC)(M:Es)(H:Hp)(p:Addr):PV->Prop
 |.l f=>∃d,H p=some (.lst d)/\yy W M H f d
 |.d a=>∃b,H p=some (.dK b)/\yG W M H a b
 |.dt a=>H p=some (.dT (dtV a))
 |.o c fs=>∃e b,H p=some (.ins (W.cls c) e b)/\vA W M H fs b
 |_=>False
def Kw.Bq(h:Kw W M H p x)(n:N p):yp W N M H x (.ref p):=by
 cases x with
 |l m=>obtain⟨j,e,q⟩:=h;exact⟨p,j,rfl,n,e,q⟩
 |d a=>obtain⟨f,e,q⟩:=h;exact⟨p,f,rfl,n,.inl e,q⟩
 |dt a=>exact⟨p,rfl,n,.inl h⟩
 |o c fs=>obtain⟨g,f,e,q⟩:=h;exact⟨p,g,f,rfl,n,e,q⟩
 |i n=>exact h.elim
 |s n=>exact h.elim
 |b n=>exact h.elim
 |n=>exact h.elim
 |t n=>exact h.elim
 |x c n=>exact h.elim
 |sc n=>exact h.elim
def Kw.gen(h:Kw W M H p x)(hp:H' p=H p)(f:Fr M H H')(s:∀a,M a->H a≠none->M' a):Kw W M' H' p x:=by
 cases x with
 |l u=>obtain⟨r,e,q⟩:=h;exact⟨r,hp.trans e,q.gen f s⟩
 |d g=>obtain⟨j,e,q⟩:=h;exact⟨j,hp.trans e,q.gen f s⟩
 |dt g=>exact hp.trans h
 |o c fs=>obtain⟨m,j,e,q⟩:=h;exact⟨m,j,hp.trans e,q.gen f s⟩
 |i n=>exact h.elim
 |s n=>exact h.elim
 |b n=>exact h.elim
 |n=>exact h.elim
 |t n=>exact h.elim
 |x c n=>exact h.elim
 |sc n=>exact h.elim
theorem Kw.some{W:RC}{M:Es}{H:Hp}{p:Addr}{x:PV}(h:Kw W M H p x):∃o,H p=some o/\¬Imm o:=by
 cases x with
 |l j=>obtain⟨m,e,q⟩:=h;exact⟨_,e,id⟩
 |d a=>obtain⟨f,e,q⟩:=h;exact⟨_,e,id⟩
 |dt a=>exact⟨_,h,id⟩
 |o c fs=>obtain⟨g,f,e,q⟩:=h;exact⟨_,e,id⟩
 |i n=>exact h.elim
 |s n=>exact h.elim
 |b n=>exact h.elim
 |n=>exact h.elim
 |t n=>exact h.elim
 |x c n=>exact h.elim
 |sc n=>exact h.elim
def Kw.same(h:Kw W M H p x)(s:zA H H'):Kw W M H' p x:=by obtain⟨o,e,_⟩:=h.some;exact h.gen ((s _ _ e).trans e.symm) s.fr λ_ m _=>m
structure Bs where
 H0:Hp
 M0:Addr->Prop
 N0:Addr->Prop
 nz:∀a,N0 a->H0 a≠none
 pin:Option Addr
 xc:Addr->Prop
structure LC where
 W:RC
 E:XK
 fr:Bool
abbrev Sto:=List (Option PV)
def Bs.Mt(B:Bs):Addr->Prop:=λa=>B.M0 a\/B.H0 a=none
def Mof(B:Bs)(S:Eo)(P:ED):Addr->Prop:=λa=>(B.Mt a/\¬B.xc a)/\∀i,S[i]?=some 2->P i≠a
structure Rel(W:RC)(B:Bs)(S:Eo)(P:ED)(H:Hp)(σ:St)(ρ:Sto):Prop where
 same:zA B.H0 H
 len:σ.length=ρ.length
 var:∀(i:Nat) x,ρ[i]?=some (some x)->∃v,σ[i]?=some (some v)/\(S[i]?=some 2->v=.ref (P i)/\Kw W (Mof B S P) H (P i) x)/\(S[i]?=some 1->yp W B.N0 (Mof B S P) H x v)/\(S[i]?≠some 2->S[i]?≠some 1->Rep W (Mof B S P) H x v)
 act:∀i,S[i]?=some 2->B.H0 (P i)=none/\∃o,H (P i)=some o/\¬Imm o
 inj:∀i j,S[i]?=some 2->S[j]?=some 2->P i=P j->i=j
 pin:S[0]?=some 2->∀p,B.pin=some p->P 0=p
 exc:∀a,B.xc a->∃o,H a=some o/\¬Imm o/\B.H0 a=none
 axc:∀i,S[i]?=some 2->¬B.xc (P i)
def Rel.keep{W:RC}{B:Bs}{S:Eo}{P:ED}{H H':Hp}{b:St}{ρ:Sto}(R:Rel W B S P H b ρ)(s:zA H H'):Rel W B S P H' b ρ where
 same:=R.same.trans s
 len:=R.len
 var:=λi x e=>by obtain⟨v,g,c,d,j⟩:=R.var i x e;exact⟨v,g,λz=>⟨(c z).1,(c z).2.same s⟩,λz=>(d z).same s,λz f=>(j z f).same s⟩
 act:=λi h=>⟨(R.act i h).1,let⟨o,e,n⟩:=(R.act i h).2;⟨o,s _ _ e,n⟩⟩
 inj:=R.inj
 pin:=R.pin
 exc:=λa h=>let⟨o,e,n⟩:=R.exc a h;⟨o,s _ _ e,n⟩
 axc:=R.axc
def Rel.wr(R:Rel W B S P H σ ρ)(c:S[i]?=some 2)(G:i<ρ.length)(l:σ[i]?=some (some (.ref (P i))))(hn:¬Imm o)(F:Kw W (Mof B S P) (upd H (P i) o) (P i) x'):Rel W B S P (upd H (P i) o) σ (ρ.set i (some x')):=by
 obtain⟨g,I,u,t⟩:=R.act i c;have f:Fr (Mof B S P) H (upd H (P i) o):=λa q e m=>by
  have:a≠P i:=λz=>by
   rcases m with m|m
   .exact m.2 i c z.symm
   .rw[z,u]at e;cases e;exact t m
  rw[zh this];exact e
 have w:Fr B.N0 H (upd H (P i) o):=λa q e m=>by
  have:a≠P i:=λz=>by
   rcases m with m|m
   .exact B.nz a m (z▸g)
   .rw[z,u]at e;cases e;exact t m
  rw[zh this];exact e
 refine⟨λa q e=>?_,by rw[M5];exact R.len,λj x e=>?_,λj r=>?_,R.inj,R.pin,λa h=>?_,R.axc⟩
 .have:a≠P i:=λz=>by rw[z,g]at e;cases e
  rw[zh this];exact R.same a q e
 .by_cases b:i=j
  .subst b;rw[M7 G]at e;cases e;exact⟨_,l,λ_=>⟨rfl,F⟩,(λz=>by rw[c]at z;cases z),λz=>absurd c z⟩
  .rw[M3 b]at e;obtain⟨v,A,s,D,C⟩:=R.var j x e;refine⟨v,A,λz=>⟨(s z).1,?_⟩,λz=>yp.gen w f (λ_ m _=>m) (λ_ m _=>m) (D z),λz y=>Rep.gen f (λ_ m _=>m) (C z y)⟩;have:P j≠P i:=λq=>b (R.inj i j c z q.symm);exact(s z).2.gen (zh this) f λ_ m _=>m
 .by_cases b:j=i
  .subst b;exact⟨g,o,zd,hn⟩
  .obtain⟨E,p,n,d⟩:=R.act j r;have:P j≠P i:=λq=>b (R.inj j i r c q);exact⟨E,p,by rw[zh this];exact n,d⟩
 .obtain⟨p,n,d⟩:=R.exc a h;by_cases e:a=P i
  .subst e;exact⟨o,zd,hn,d.2⟩
  .exact⟨p,by rw[zh e];exact n,d⟩
def yM{S:Eo}{i j c:Nat}(h:(S.set i 0)[j]?=some 2):S[j]?=some 2/\j≠i:=by
 by_cases e:i=j
 .subst e;rw[List.getElem?_set]at h;rw[if_pos rfl]at h;split at h<;>cases h
 .rw[M3 e]at h;exact⟨h,λz=>e z.symm⟩
def Rel.set(R:Rel W B S P H σ ρ)(r:Rep W (Mof B S P) H x v):Rel W B (S.set i 0) P H (σ.set i (some v)) (ρ.set i (some x)):=by
 have sM:∀a,Mof B S P a->H a≠none->Mof B (S.set i 0) P a:=λa m _=>⟨m.1,λj d=>m.2 j (yM (c:=0) d).1⟩;refine⟨R.same,by rw[M5,M5];exact R.len,λj y e=>?_,λj d=>R.act j (yM (c:=0) d).1,λj k d h=>R.inj j k (yM (c:=0) d).1 (yM (c:=0) h).1,λl=>R.pin (yM (c:=0) l).1,R.exc,λj d=>R.axc j (yM (c:=0) d).1⟩;by_cases b:i=j
 .subst b;have f:i<ρ.length:=by
   have:=(E7.mp e).1
   rwa [M5]at this
  rw[M7 f]at e;cases e;refine⟨v,by rw[M7 (by rw[R.len];exact f)],λz=>absurd rfl (yM (c:=0) z).2,λz=>?_,λ_ _=>r.sub sM⟩;rw[List.getElem?_set,if_pos rfl]at z;split at z<;>cases z
 .rw[M3 b]at e;obtain⟨w,p,g,n,q⟩:=R.var j y e;rw[M3 b,M3 b];exact⟨w,p,λz=>⟨(g z).1,(g z).2.gen rfl Fr.refl sM⟩,λz=>(n z).sub (λ_ m _=>m) sM,λz o=>(q z o).sub sM⟩
def Rel.D5(R:Rel W B S P H σ ρ)(s:zA H H')(hp:H p=none)(L:i<S.length)(r:i≠0)(A:Kw W (λa=>Mof B S P a/\a≠p) H' p x):Rel W B (S.set i 2) (λj=>if j=i then p else P j) H' (σ.set i (some (.ref p))) (ρ.set i (some x)):=by
 have E:B.H0 p=none:=zA.none R.same hp;have l:∀{j},(S.set i 2)[j]?=some 2->j≠i->S[j]?=some 2:=λ{j} h n=>by rwa [M3 (λz=>n z.symm)]at h
 have sM:∀a,Mof B S P a->a≠p->Mof B (S.set i 2) (λj=>if j=i then p else P j) a:=λa m hn=>⟨m.1,λj c=>by
  by_cases e:j=i
  .simp only[e,if_true];exact λz=>hn z.symm
  .simp only[e,if_false];exact m.2 j (l c e)⟩
 have g:∀a,Mof B S P a->H a≠none->Mof B (S.set i 2) (λj=>if j=i then p else P j) a:=λa m hn=>sM a m λz=>hn (z▸hp);have u:∀{j},S[j]?=some 2->P j≠p:=λ{j} c z=>by obtain⟨_,o,e,_⟩:=R.act j c;rw[z,hp]at e;cases e
 refine⟨R.same.trans s,by rw[M5,M5];exact R.len,λj y e=>?_,λj c=>?_,λj k c C e=>?_,λv q K=>?_,λa h=>let⟨o,e,n⟩:=R.exc a h;⟨o,s _ _ e,n⟩,λj c=>?_⟩
 .by_cases b:i=j
  .subst b;have D:i<ρ.length:=by
    have:=(E7.mp e).1
    rwa [M5]at this
   rw[M7 D]at e;cases e;rw[M7 (by rw[R.len];exact D),M7 L];refine⟨.ref p,rfl,λ_=>⟨by simp,?_⟩,(λz=>by cases z),λz=>absurd rfl z⟩;simp only[if_true];exact A.gen rfl Fr.refl λa m _=>sM a m.1 m.2
  .rw[M3 b]at e;obtain⟨w,f,d,I,G⟩:=R.var j y e;rw[M3 b,M3 b];have t:¬j=i:=λz=>b z.symm;simp only[t,if_false];exact⟨w,f,λz=>⟨(d z).1,((d z).2.gen (H':=H) rfl Fr.refl g).same s⟩,λz=>((I z).sub (λ_ m _=>m) g).same s,λz F=>((G z F).sub g).same s⟩
 .by_cases b:j=i
  .subst b;simp only[if_true];exact⟨E,A.some⟩
  .simp only[b,if_false];obtain⟨J,o,e,n⟩:=R.act j (l c b);exact⟨J,o,s _ _ e,n⟩
 .by_cases f:j=i
  .by_cases d:k=i
   .rw[f,d]
   .simp only[f,d,if_true,if_false]at e;exact absurd e.symm (u (l C d))
  .by_cases d:k=i
   .simp only[f,d,if_true,if_false]at e;exact absurd e (u (l c f))
   .simp only[f,d,if_false]at e;exact R.inj j k (l c f) (l C d) e
 .rw[M3 r]at v;rw[if_neg (λz=>r z.symm)];exact R.pin v q K
 .by_cases e:j=i
  .rw[if_pos e];exact λz=>by obtain⟨o,q,_⟩:=R.exc p z;rw[hp]at q;cases q
  .rw[if_neg e];exact R.axc j (l c e)
def Rel.freeze(R:Rel W B S P H σ ρ)(f:S[i]?=some 2):Rel W B (S.set i 0) P H σ ρ:=by
 have sM:∀a,Mof B S P a->H a≠none->Mof B (S.set i 0) P a:=λa m _=>⟨m.1,λj b=>m.2 j (yM (c:=0) b).1⟩;refine⟨R.same,R.len,λj y e=>?_,λj b=>R.act j (yM (c:=0) b).1,λj k b t=>R.inj j k (yM (c:=0) b).1 (yM (c:=0) t).1,λp=>R.pin (yM (c:=0) p).1,R.exc,λj b=>R.axc j (yM (c:=0) b).1⟩;obtain⟨w,h,g,r,q⟩:=R.var j y e;by_cases d:i=j
 .subst d;obtain⟨rfl,s⟩:=g f;have u:i<S.length:=(E7.mp f).1;rw[M7 u];refine⟨_,h,(λz=>by cases z),(λz=>by cases z),λ_ _=>yp.iff.mp ((s.gen (H':=H) rfl Fr.refl sM).Bq ⟨⟨.inr (R.act i f).1,λz=>?_⟩,λj b e=>?_⟩)⟩
  .exact R.axc i f z
  obtain⟨n,l⟩:=yM (c:=0) b;exact l (R.inj j i n f e)
 .rw[M3 d];exact⟨w,h,λz=>⟨(g z).1,(g z).2.gen rfl Fr.refl sM⟩,λz=>(r z).sub (λ_ m _=>m) sM,λz o=>(q z o).sub sM⟩
def Rel.wrx(R:Rel W B S P H σ ρ)(f:B.xc a)(hn:¬Imm o):Rel W B S P (upd H a o) σ ρ:=by
 obtain⟨G,u,t,d⟩:=R.exc a f;have b:Fr (Mof B S P) H (upd H a o):=λc q e m=>by
  have:c≠a:=λz=>by
   rcases m with m|m
   .exact m.1.2 (z▸f)
   .rw[z,u]at e;cases e;exact t m
  rw[zh this];exact e
 have w:Fr B.N0 H (upd H a o):=λc q e m=>by
  have:c≠a:=λz=>by
   rcases m with m|m
   .exact B.nz c m (z▸d)
   .rw[z,u]at e;cases e;exact t m
  rw[zh this];exact e
 have p:∀{i},S[i]?=some 2->P i≠a:=λ{i} F z=>R.axc i F (z▸f);refine⟨λc q e=>?_,R.len,λj x e=>?_,λj r=>?_,R.inj,R.pin,λc h=>?_,R.axc⟩
 .have:c≠a:=λz=>by rw[z,d]at e;cases e
  rw[zh this];exact R.same c q e
 .obtain⟨v,A,s,D,C⟩:=R.var j x e;exact⟨v,A,λz=>⟨(s z).1,(s z).2.gen (zh (p z)) b λ_ m _=>m⟩,λz=>yp.gen w b (λ_ m _=>m) (λ_ m _=>m) (D z),λz y=>Rep.gen b (λ_ m _=>m) (C z y)⟩
 .obtain⟨E,n,g,l⟩:=R.act j r;exact⟨E,n,by rw[zh (p r)];exact g,l⟩
 .by_cases e:c=a
  .subst e;exact⟨o,zd,hn,d⟩
  .obtain⟨n,g,l⟩:=R.exc c h;exact⟨n,by rw[zh e];exact g,l⟩
abbrev ME:=Sto->Out PV
abbrev MT:=Sto->Out Bool
abbrev MA:=Sto->Out (List PV)
inductive Fw where
 |nx (ρ:Sto)|rt (x:PV)|bk (ρ:Sto)|ct (ρ:Sto)
abbrev MS:=Sto->Out Fw
def XPo(C:LC)(B:Bs)(c:Nat)(fs:EV):Prop:=∀e b d a,zA B.H0 a->a e=some (XC e (C.W.cls c) b)->a b=some (XD b d)->vA C.W B.Mt a fs d->C.E (.ref e) (some b) a
def zX(C:LC)(B:Bs)(H:Hp)(R:Hp->PV->V->Prop)(Q:VK):Out PV->Prop
 |.ok r=>∀v a,zA H a->R a r v->Q v a
 |.exc c fs=>XPo C B c fs
 |.wall=>False
def WJ(C:LC)(B:Bs)(H:Hp)(Q:Bool->Hp->Prop):Out Bool->Prop
 |.ok r=>∀a,zA H a->Q r a
 |.exc c fs=>XPo C B c fs
 |.wall=>False
def RV(C:LC)(B:Bs)(S:Eo)(P:ED)(w:Bool)(H:Hp)(x:PV)(v:V):Prop:=yp C.W (if w=true then λ_=>True else Mof B S P) (Mof B S P) H x v
def RV.rep(h:RV C B S P false H x v):Rep C.W (Mof B S P) H x v:=yp.iff.mp h
def RV.of(h:Rep C.W (Mof B S P) H x v):RV C B S P false H x v:=yp.iff.mpr h
def RV.weak(h:RV C B S P w H x v):yp C.W (λ_=>True) (Mof B S P) H x v:=yp.sub h (λ_ _ _=>trivial) λ_ m _=>m
def RV.same(h:RV C B S P w H x v)(s:zA H H'):RV C B S P w H' x v:=yp.same h s
def LE(C:LC)(S:Eo)(w:Bool)(c:TE)(m:ME):Prop:=∀B P H a b,Rel C.W B S P H a b->∀Q,zX C B H (RV C B S P w) Q (m b)->c a H Q
def LT(C:LC)(S:Eo)(c:TT)(m:MT):Prop:=∀B P H a b,Rel C.W B S P H a b->∀Q,WJ C B H Q (m b)->c a H Q
def EM(X:Cx)(C:LC)(S:Eo)(w:Bool)(e:Ey)(m:ME):Prop:=X.K=C.W.K->∃a,PE X e a/\LE C S w a m
def TM(X:Cx)(C:LC)(S:Eo)(e:Ey)(m:MT):Prop:=X.K=C.W.K->∃a,PT X e a/\LT C S a m
def TWM(X:Cx)(C:LC)(S:Eo)(e:Ey)(m:MT):Prop:=X.K=C.W.K->∃a,PW X e a/\LT C S a m
def zX.bind(h:zX C B H R Q (o.bind f))(k:∀r,o=.ok r->∀v a,zA H a->R0 a r v->zX C B a R Q (f r)->Q' v a)(i:∀a,zA H a->∀x v,R a x v->R a x v):zX C B H R0 Q' o:=by
 cases o with
 |ok r=>exact λv a s b=>k r rfl v a s b (by
   show zX C B a R Q (f r);have h:zX C B H R Q (f r):=h;revert h;cases f r with
   |ok x=>exact λh v d e g=>h v d (s.trans e) g
   |exc c fs=>exact id
   |wall=>exact id)
 |exc c fs=>exact h
 |wall=>exact h
def yV(h:zX C B H R Q (o.bind f))(k:∀r v a,zA H a->R0 a r v->zX C B a R Q (f r)->Q' v a):zX C B H R0 Q' o:=
 zX.bind h (λr _ v a s b hp=>k r v a s b hp) λ_ _ _ _ h=>h
def QW(h:zX C B H R Q o)(s:zA H H2):zX C B H2 R Q o:=by
 cases o with
 |ok x=>exact λv a b d=>h v a (s.trans b) d
 |exc c fs=>exact h
 |wall=>exact h
def Kx(h:WJ C B H Q o)(s:zA H H2):WJ C B H2 Q o:=by
 cases o with
 |ok x=>exact λa b=>h a (s.trans b)
 |exc c fs=>exact h
 |wall=>exact h
def dX(h:WJ C B H Q (o.bind f))(k:∀r v a,zA H a->R0 a r v->WJ C B a Q (f r)->Q' v a):zX C B H R0 Q' o:=by
 cases o with
 |ok r=>exact λv a s b=>k r v a s b (Kx (o:=f r) h s)
 |exc c fs=>exact h
 |wall=>exact h
def Yl(h:WJ C B H Q (o.bind f))(k:∀r a,zA H a->WJ C B a Q (f r)->Q' r a):WJ C B H Q' o:=by
 cases o with
 |ok r=>exact λa s=>k r a s (Kx (o:=f r) h s)
 |exc c fs=>exact h
 |wall=>exact h
def aB(h:zX C B H R Q (o.bind f))(k:∀r a,zA H a->zX C B a R Q (f r)->Q' r a):WJ C B H Q' o:=by
 cases o with
 |ok r=>exact λa s=>k r a s (QW (o:=f r) h s)
 |exc c fs=>exact h
 |wall=>exact h
def zc(i:Nat):ME:=λa=>match a[i]? with|some (some x)=>.ok x|_=>.wall
def mC(x:PV):ME:=λ_=>.ok x
section
variable {X:Cx}{C:LC}{S:Eo}{e a b:Ey}{w w1 w2:Bool}{m m1 m2:ME}
def EM.weak(h:EM X C S w e m):EM X C S true e m:=λf=>by
 obtain⟨g,o,l⟩:=h f;refine⟨g,o,λB P H i d R Q q=>l B P H i d R Q ?_⟩;revert q;cases m d with
 |ok r=>exact λq v n s j=>q v n s (by unfold RV;rw[if_pos rfl];exact j.weak)
 |exc c fs=>exact id
 |wall=>exact id
def lv(R:Rel C.W B S P H σ ρ)(q:zX C B H R' Q (zc i ρ))(k:∀x v,σ[i]?=some (some v)->ρ[i]?=some (some x)->R' H x v):ZN i σ H Q:=by
 unfold zc at q;cases e:ρ[i]? with
 |none=>rw[e]at q;exact q.elim
 |some o=>
  cases o with
  |none=>rw[e]at q;exact q.elim
  |some x=>rw[e]at q;obtain⟨v,c,_⟩:=R.var i x e;exact⟨v,c,q v H (zA.refl _) (k x v c e)⟩
def zN(h:PE X e (ZN i))(d:S[i]?≠some 2/\S[i]?≠some 1:=by decide):EM X C S false e (zc i):=λ_=>⟨_,h,λB P H l n R Q q=>lv R q λx v f e=>by
 obtain⟨j,c,_,_,g⟩:=R.var i x e;rw[f]at c;cases c;exact RV.of (g d.1 d.2)⟩
def xu(h:PE X e (ZN i)):EM X C S true e (zc i):=λ_=>⟨_,h,λB P H o r R Q q=>lv R q λx v g e=>by
 obtain⟨p,c,l,n,j⟩:=R.var i x e;rw[g]at c;cases c;show yp C.W (if true=true then _ else _) _ _ _ _;rw[if_pos rfl];by_cases f:S[i]?=some 2
 .obtain⟨rfl,z⟩:=l f;exact z.Bq trivial
 .by_cases d:S[i]?=some 1
  .exact(n d).sub (λ_ _ _=>trivial) λ_ m _=>m
  .exact(j f d).weak⟩
def Br(h:PE X e (tC v))(c:∀M H,Rep C.W M H x v):EM X C S false e (mC x):=λ_=>⟨_,h,λB P H d f R Q q=>q v H (zA.refl _) (RV.of (c _ _))⟩
def bY(h:PE X e (tC (.int i))):EM X C S false e (mC (.i i)):=Br h λ_ _=>rfl
def fD(h:PE X e (tC (.str i))):EM X C S false e (mC (.s i)):=Br h λ_ _=>rfl
def q_(h:PE X e (tC (.bl i))):EM X C S false e (mC (.b i)):=Br h λ_ _=>rfl
def kL(h:PE X e (tC .non)):EM X C S false e (mC .n):=Br h λ_ _=>rfl
def mOp(p:PV->PV->Out PV)(m1 m2:ME):ME:=λc=>(m1 c).bind λx=>(m2 c).bind λy=>p x y
def mUn(p:PV->Out PV)(m1:ME):ME:=λc=>(m1 c).bind p
def New(M:Es)(H:Hp):Prop:=∀p,H p=none->M p
def Rel.new(R:Rel W B S P H σ ρ):New (Mof B S P) H:=λp h=>⟨⟨.inr (zA.none R.same h),λz=>by obtain⟨o,q,_⟩:=R.exc p z;rw[h]at q;cases q⟩,λi c e=>by obtain⟨_,o,q,_⟩:=R.act i c;rw[e,h]at q;cases q⟩
def RV.eq:RV C B S P false=Rep C.W (Mof B S P):=by
 funext H x v;exact propext yp.iff
def Lf2(W:RC)(r:R2)(p:PV->PV->Out PV):Prop:=∀(M:Es)(C:LC)(B:Bs) H x y v u Q,New M H->yp W (λ_=>True) M H x v->yp W (λ_=>True) M H y u->zX C B H (Rep W M) Q (p x y)->r v u H Q
def Lf1(W:RC)(r:V->Hp->VK->Prop)(p:PV->Out PV):Prop:=∀(M:Es)(C:LC)(B:Bs) H x v Q,New M H->yp W (λ_=>True) M H x v->zX C B H (Rep W M) Q (p x)->r v H Q
def fE(L:Lf2 C.W r p)(j:LE C S w1 ta m1)(n:LE C S w2 tb m2):LE C S false (tOp r ta tb) (mOp p m1 m2):=λB P H c f R Q q=>
 j B P H c f R _ (yV q λx v s d l i=>n B P s c f (R.keep d) _ (yV i λy u o s2 g h=>L _ C B o x y v u Q ((R.keep d).keep s2).new (l.same s2).weak g.weak (RV.eq▸h)))
def zI(o:OpR X (binaryOp op) r)(L:Lf2 C.W r p)(h:EM X C S w1 a m1)(g:EM X C S w2 b m2):EM X C S false (.BinOp a op b pos) (mOp p m1 m2):=λc=>by obtain⟨l,i,d⟩:=h c;obtain⟨n,f,j⟩:=g c;exact⟨_,BU o i f,fE L d j⟩
def xw(o:UnR X (unaryOp op) r)(L:Lf1 C.W r p)(h:EM X C S w1 a m1):EM X C S false (.UnaryOp op a pos) (mUn p m1):=λj=>by obtain⟨t,s,d⟩:=h j;exact⟨_,BV o s,λB P H c n R Q q=>d B P H c n R _ (yV q λx v l g i f=>L _ C B l x v Q (R.keep g).new i.weak (RV.eq▸f))⟩
def Ug(o:OpR X (compareOp op) r)(L:Lf2 C.W r p)(h:EM X C S w1 a m1)(g:EM X C S w2 b m2)(l:behindInMarks op b=false):EM X C S false (.Compare a [op] [b] pos) (mOp p m1 m2):=λc=>by obtain⟨n,i,d⟩:=h c;obtain⟨q,f,j⟩:=g c;exact⟨_,ai o i f l,fE L d j⟩
def asB:PV->Out Bool
 |.b c=>.ok c
 |_=>.wall
def zW(m:ME):MT:=λc=>(m c).bind asB
def aC(h:LE C S w te m):LT C S (rB te) (zW m):=λB P H f j R Q q=>
 h B P H f j R _ (dX q λx v g l i d=>by
  cases x with
  |b c=>exact⟨c,(show v=.bl c from i),d g (zA.refl _)⟩
  |_=>exact d.elim)
def y9(o:OpR X (compareOp op) r)(L:Lf2 C.W r p)(h:EM X C S w1 a m1)(g:EM X C S w2 b m2)(l:behindInMarks op b=false):TM X C S (.Compare a [op] [b] pos) (zW (mOp p m1 m2)):=λc=>by obtain⟨n,i,d⟩:=h c;obtain⟨q,f,j⟩:=g c;exact⟨_,rC o i f l,aC (fE L d j)⟩
end
def pI(g:Int->Int->PV):PV->PV->Out PV
 |.i a,.i b=>.ok (g a b)
 |_,_=>.wall
def pU(g:Int->PV):PV->Out PV
 |.i a=>.ok (g a)
 |_=>.wall
def Cm(d:∀a b M H,Rep W M H (g a b) (gv a b)):Lf2 W (rI0 gv) (pI g):=λM C B H x y v u Q f e c q=>by
 cases x with
 |i a=>
  cases y with
  |i b=>exact⟨a,b,e,c,q _ H (zA.refl _) (d a b _ _)⟩
  |_=>exact q.elim
 |_=>exact q.elim
def D7(b:∀a M H,Rep W M H (g a) (gv a)):Lf1 W (rU gv) (pU g):=λM C B H x v Q d c q=>by
 cases x with
 |i a=>exact⟨a,c,q _ H (zA.refl _) (b a _ _)⟩
 |_=>exact q.elim
abbrev dY:=pI λa b=>.i (a-b)
abbrev pLt:=pI λa b=>.b (decide (a<b))
abbrev pGt:=pI λa b=>.b (decide (b<a))
abbrev Cn:=pU λa=>.i (-a)
def YO:Lf2 W (rI0 λi j=>.int (i-j)) dY:=Cm λ_ _ _ _=>rfl
def oK:Lf1 W (rU λi=>.int (-i)) Cn:=D7 λ_ _ _=>rfl
section
variable {W:RC}{M:Es}{H:Hp}
def yy.nil:yy W M H [] []:=rfl
def yy.cons(h:Rep W M H x v)(t:yy W M H xs vs):yy W M H (x::xs) (v::vs):=⟨v,vs,rfl,h,t⟩
def yy.len:∀{a:EO}{b:EH},yy W M H a b->b.length=a.length
 |[],_,h=>by cases(show _=_ from h);rfl
 |x::a,_,h=>by obtain⟨v,r,rfl,_,c⟩:=h;rw[E4,E4,yy.len c]
def yy.get:∀{a:EO}{c:EH}{i:Nat}{x:PV},yy W M H a c->a[i]?=some x->∃v,c[i]?=some v/\Rep W M H x v
 |[],_,_,_,_,e=>by simp at e
 |x::a,_,0,y,h,e=>by obtain⟨v,r,rfl,d,b⟩:=h;simp at e;subst e;exact⟨v,rfl,d⟩
 |x::a,_,i+1,y,h,e=>by obtain⟨v,r,rfl,d,b⟩:=h;simp only[List.getElem?_cons_succ]at e ⊢;exact yy.get b e
def yy.rY:∀{a:EO}{c:EH}{i:Nat}{v:V},yy W M H a c->c[i]?=some v->∃x,a[i]?=some x/\Rep W M H x v
 |[],_,_,_,h,e=>by cases(show _=_ from h);simp at e
 |x::a,_,0,y,h,e=>by obtain⟨v,r,rfl,d,b⟩:=h;simp at e;subst e;exact⟨x,rfl,d⟩
 |x::a,_,i+1,y,h,e=>by obtain⟨v,r,rfl,d,b⟩:=h;simp only[List.getElem?_cons_succ]at e ⊢;exact yy.rY b e
def yy.append:∀{a b:EO}{c d:EH},yy W M H a c->yy W M H b d->yy W M H (a++b) (c++d)
 |[],_,_,_,h,k=>by cases(show _=_ from h);exact k
 |x::a,_,_,_,h,k=>by obtain⟨v,r,rfl,f,e⟩:=h;exact⟨v,_,rfl,f,yy.append e k⟩
def yy.ints:∀{a:EW},yy W M H (a.map PV.i) (a.map V.int)
 |[]=>rfl
 |n::a=>⟨_,_,rfl,rfl,yy.ints⟩
theorem yy.at(h:yy W M H xs vs)(e:atI xs i=some x):∃v,atI vs i=some v/\Rep W M H x v:=by
 unfold atI at e ⊢;rw[h.len];cases q:ixN xs.length i with
 |none=>rw[q]at e;cases e
 |some j=>rw[q]at e;exact h.get e
def yG.iff:∀{c:EA}{b:Et},yG W M H c b↔b.map (·.1)=c.map (·.1)/\yy W M H (c.map (·.2)) (b.map (·.2))
 |[],b=>⟨λh=>by cases(show _=_ from h);exact⟨rfl,rfl⟩,λh=>by cases b with|nil=>rfl|cons a r=>cases h.1⟩
 |i::r,b=>by
  constructor
  .rintro ⟨v,q,rfl,g,f⟩
   obtain⟨e,t⟩:=yG.iff.mp f;exact⟨by simp only[List.map_cons,e],v,_,rfl,g,t⟩
  .rintro ⟨e,v,q,d,g,f⟩
   cases b with
   |nil=>cases d
   |cons a b=>simp only[List.map_cons,List.cons.injEq]at e d;refine⟨a.2,b,by rw[<- e.1],by rw[d.1];exact g,yG.iff.mpr ⟨e.2,by rw[d.2];exact f⟩⟩
def vA.lookup:∀{a:EV}{b:E_}{f:Str}{x:PV},vA W M H a b->a.lookup f=some x->∃v,b.lookup f=some v/\Rep W M H x v
 |[],_,_,_,_,e=>by cases e
 |g::r,_,f,x,h,e=>by
  obtain⟨v,q,rfl,i,d⟩:=h;rw[O3]at e ⊢;by_cases c:(f==g.1)=true
  .simp only[c]at e ⊢;cases e;exact⟨v,rfl,i⟩
  .simp only[c]at e ⊢;exact vA.lookup d e
def fF(n:New M H)(hp:H p=none)(h:yy W M H xs vs):Rep W M (upd H p (.lst vs)) (.l xs) (.ref p):=⟨p,vs,rfl,n p hp,zd,h.same (zA.upd hp)⟩
def rZ(hp:H p=none)(h:yy W M H xs vs):Rep W M (upd H p (.tup vs)) (.t xs) (.ref p):=⟨p,vs,rfl,SqT.of zd,h.same (zA.upd hp)⟩
end
def xx:R2:=λx y H Q=>(rI0 (λi j=>.int (i+j)) x y H Q\/∃i j,x=.str i/\y=.str j/\i.length+j.length<=sizeLine/\Q (.str (i++j)) H)\/Dj x y H Q
def zB:OpR X (binaryOp .Add) xx:=(uY.or dH).or xf
def zJ:PV->PV->Out PV
 |.i a,.i b=>.ok (.i (a+b))
 |.s a,.s b=>if a.length+b.length<=sizeLine then .ok (.s (a++b))else .wall
 |.l a,.l b=>if a.length+b.length<=sizeLine then .ok (.l (a++b))else .wall
 |_,_=>.wall
def zC:Lf2 W xx zJ:=λM C B H x y v u Q n a c q=>by
 unfold zJ at q;split at q
 .exact .inl (.inl ⟨_,_,a,c,q _ H (zA.refl _) rfl⟩)
 .split at q
  .rename_i h;exact .inl (.inr ⟨_,_,a,c,h,q _ H (zA.refl _) rfl⟩)
  .exact q.elim
 .split at q
  .rename_i h;obtain⟨p,g,rfl,_,e,r⟩:=a;obtain⟨f,b,rfl,_,i,d⟩:=c;exact .inr ⟨p,f,g,b,rfl,rfl,e,i,by rw[r.len,d.len];exact h,λz hz=>q _ _ (zA.upd hz) (fF n hz (r.append d))⟩
  .exact q.elim
 .exact q.elim
def xy:R2:=λx y H Q=>(rI oq (λi j=>.int (i*j)) x y H Q\/rI l8 (λi j=>.int (i*j)) x y H Q)\/(xq x y H Q\/Dk x y H Q)
def j8:OpR X (binaryOp .Mult) xy:=(uZ.or rT).or (dW.or xg)
instance{i j:Int}:Decidable (oq i j):=by unfold oq;infer_instance
instance{i j:Int}:Decidable (uA i j):=by unfold uA;infer_instance
instance{i j:Int}:Decidable (uB i j):=by unfold uB;infer_instance
def ZI:PV->PV->Out PV
 |.i a,.i b=>if oq a b\/(a.natAbs<2 ^ 8192/\b.natAbs<2 ^ 8192)then .ok (.i (a*b))else .wall
 |.s a,.i b=>if a.length<=16/\-2 ^ 63<=b/\b<=1048576 then .ok (.s (Txt.mul a b))else .wall
 |.l a,.i b=>if -(2 ^ 63)<=b/\b<2 ^ 63/\a.length*b.toNat<=sizeLine then .ok (.l (List.replicate b.toNat a).flatten)else .wall
 |_,_=>.wall
def yy.rep{W:RC}{M:Es}{H:Hp}{xs:EO}{vs:EH}(h:yy W M H xs vs):∀n,yy W M H (List.replicate n xs).flatten (List.replicate n vs).flatten
 |0=>rfl
 |n+1=>by rw[T6,T6,a0v,a0v];exact h.append (h.rep n)
def j9:Lf2 W xy ZI:=λM C B H x y v u Q n b a q=>by
 unfold ZI at q;split at q
 .split at q
  .rename_i h;rcases h with h|h
   .exact .inl (.inl ⟨_,_,b,a,h,q _ H (zA.refl _) rfl⟩)
   .exact .inl (.inr ⟨_,_,b,a,h,q _ H (zA.refl _) rfl⟩)
  .exact q.elim
 .split at q
  .rename_i h;exact .inr (.inl ⟨_,_,b,a,h.1,h.2.1,h.2.2,q _ H (zA.refl _) rfl⟩)
  .exact q.elim
 .split at q
  .rename_i h;obtain⟨p,c,rfl,_,e,r⟩:=b;exact .inr (.inr ⟨p,_,c,rfl,a,e,h.1,h.2.1,by rw[r.len];exact h.2.2,λz hz=>q _ _ (zA.upd hz) (fF n hz (r.rep _))⟩)
  .exact q.elim
 .exact q.elim
def xA:R2:=λx y H Q=>rI uA (λi j=>.int (i / j)) x y H Q\/rI xt (λi j=>.int (i.fdiv j)) x y H Q
def r8:OpR X (binaryOp .FloorDiv) xA:=ro.or mr
def fG:PV->PV->Out PV
 |.i a,.i b=>if uA a b then .ok (.i (a / b))else if b≠0/\b.natAbs<2 ^ 8192 then .ok (.i (a.fdiv b))else .wall
 |_,_=>.wall
def r9:Lf2 W xA fG:=λM C B H x y v u Q n b a q=>by
 unfold fG at q;split at q
 .split at q
  .rename_i h;exact .inl ⟨_,_,b,a,h,q _ H (zA.refl _) rfl⟩
  .split at q
   .rename_i h;exact .inr ⟨_,_,b,a,h,q _ H (zA.refl _) rfl⟩
   .exact q.elim
 .exact q.elim
def xB:R2:=λx y H Q=>rI (λ_ j=>0<j) (λi j=>.int (i % j)) x y H Q\/rI (λ_ j=>j≠0) (λi j=>.int (i.fmod j)) x y H Q
def Ym:OpR X (binaryOp .Mod) xB:=u5.or rq
def QX:PV->PV->Out PV
 |.i a,.i b=>if 0<b then .ok (.i (a % b))else if b≠0 then .ok (.i (a.fmod b))else .wall
 |_,_=>.wall
def Yn:Lf2 W xB QX:=λM C B H x y v u Q n b a q=>by
 unfold QX at q;split at q
 .split at q
  .rename_i h;exact .inl ⟨_,_,b,a,h,q _ H (zA.refl _) rfl⟩
  .split at q
   .rename_i h;exact .inr ⟨_,_,b,a,h,q _ H (zA.refl _) rfl⟩
   .exact q.elim
 .exact q.elim
def WK:PV->PV->Out PV
 |.i a,.i b=>if uB a b then .ok (.i (a ^ b.toNat))else .wall
 |_,_=>.wall
def aE:Lf2 W (rI uB λi j=>.int (i ^ j.toNat)) WK:=λM C B H x y v u Q n a b q=>by
 unfold WK at q;split at q
 .split at q
  .rename_i h;exact⟨_,_,a,b,h,q _ H (zA.refl _) rfl⟩
  .exact q.elim
 .exact q.elim
def r_:Lf2 W (rI0 λi j=>.bl (decide (i<j))) pLt:=Cm λ_ _ _ _=>rfl
def VR:Lf2 W (rI0 λi j=>.bl (decide (j<i))) pGt:=Cm λ_ _ _ _=>rfl
def isN:PV->Bool
 |.n=>true
 |_=>false
def VN(a:Bool):PV->PV->Out PV
 |x,.n=>.ok (.b (xor a (isN x)))
 |_,_=>.wall
def xC(h:yp W N M H x v):decide (v=.non)=isN x:=by
 cases x with
 |n=>cases(show v=_ from h);rfl
 |i a=>cases(show v=_ from h);rfl
 |s a=>cases(show v=_ from h);rfl
 |b a=>cases(show v=_ from h);rfl
 |l a=>obtain⟨p,_,rfl,_⟩:=h;rfl
 |t a=>obtain⟨p,_,rfl,_⟩:=h;rfl
 |d a=>obtain⟨p,_,rfl,_⟩:=h;rfl
 |o c a=>obtain⟨p,_,_,rfl,_⟩:=h;rfl
 |x c a=>obtain⟨p,_,_,rfl,_⟩:=h;rfl
 |sc a=>obtain⟨p,rfl,_⟩:=h;rfl
 |dt a=>obtain⟨p,rfl,_⟩:=h;rfl
def Wb:Lf2 W (λx y H Q=>y=.non/\Q (.bl (decide (x=.non))) H) (VN false):=λM C B H x y v u Q n b a q=>by
 unfold VN at q;split at q
 .refine⟨a,?_⟩;rw[xC b];exact q _ H (zA.refl _) (by rw[P1];rfl)
 .exact q.elim
def aF:Lf2 W (λx y H Q=>y=.non/\Q (.bl (!decide (x=.non))) H) (VN true):=λM C B H x y v u Q n b a q=>by
 unfold VN at q;split at q
 .refine⟨a,?_⟩;rw[xC b];exact q _ H (zA.refl _) (by rw[a1d];rfl)
 .exact q.elim
def XM.rk{H:Hp}{a:Addr}{kvs:Et}{k:Fg}(e:Rd H a (.dK kvs)):XM H a (kV k) (J5 kvs k):=.inl ⟨kvs,k,e,rfl,rfl⟩
def RFr(W:RC)(M:Es)(H:Hp)(H2:Hp)(x:PV)(v:V):Prop:=∃p,v=.ref p/\H p=none/\Kw W (λa=>M a/\a≠p) H2 p x
def RFr.rep(n:New M H)(h:RFr W M H H2 x v):Rep W M H2 x v:=by obtain⟨p,rfl,hp,h⟩:=h;exact yp.iff.mp ((h.Bq (N:=M) (n p hp)).sub (λ_ m _=>m) λ_ m _=>m.1)
def LFr(C:LC)(S:Eo)(c:TE)(m:ME):Prop:=∀B P H a b,Rel C.W B S P H a b->∀Q,zX C B H (RFr C.W (Mof B S P) H) Q (m b)->c a H Q
def FM(X:Cx)(C:LC)(S:Eo)(e:Ey)(m:ME):Prop:=X.K=C.W.K->∃a,PE X e a/\LFr C S a m
def Ky(h:zX C B H R Q o)(k:∀x v a,zA H a->R' a x v->R a x v):zX C B H R' Q o:=by
 cases o with
 |ok r=>exact λv a s b=>h v a s (k _ _ _ s b)
 |exc c fs=>exact h
 |wall=>exact h
def FM.em(h:FM X C S e m):EM X C S false e m:=λa=>by obtain⟨b,g,f⟩:=h a;exact⟨b,g,λB P H c i R Q q=>f B P H c i R Q (Ky q λx v j s d=>RV.of (d.rep R.new))⟩
def RVs(C:LC)(B:Bs)(S:Eo)(P:ED)(H:Hp):List Bool->List PV->List V->Prop
 |[],a,b=>a=[]/\b=[]
 |w::ws,a,b=>∃x v c d,a=x::c/\b=v::d/\RV C B S P w H x v/\RVs C B S P H ws c d
def Uh(C:LC)(B:Bs)(H:Hp)(R:Hp->List PV->List V->Prop)(Q:List V->Hp->Prop):Out (List PV)->Prop
 |.ok r=>∀v a,zA H a->R a r v->Q v a
 |.exc c fs=>XPo C B c fs
 |.wall=>False
def LA(C:LC)(S:Eo)(ws:Ew)(c:TA)(m:MA):Prop:=∀B P H a b,Rel C.W B S P H a b->∀Q,Uh C B H (λd=>RVs C B S P d ws) Q (m b)->c a H Q
def AM(X:Cx)(C:LC)(S:Eo)(ws:Ew)(es:Ex)(m:MA):Prop:=X.K=C.W.K->∃a,PA X es a/\LA C S ws a m
def zr:MA:=λ_=>.ok []
def zb(m:ME)(ms:MA):MA:=λa=>(m a).bind λx=>(ms a).bind λb=>.ok (x::b)
def dZ{b:Type}{f:PV->Out b}{T:Hp->Out b->Prop}(e:∀H a o,zA H a->T H o->T a o)(i:∀c fs,T H (.exc c fs)->XPo C B c fs)(g:T H .wall->False)
  (h:T H (o.bind f)) (k:∀r v a,zA H a->R a r v->T a (f r)->Q' v a):zX C B H R Q' o:=by
 cases o with
 |ok r=>exact λv a s d=>k r v a s d (e _ _ _ s h)
 |exc c fs=>exact i _ _ h
 |wall=>exact g h
def aG(s:zA H H2)(h:Uh C B H R Q o):Uh C B H2 R Q o:=by
 cases o with
 |ok x=>exact λv a b d=>h v a (s.trans b) d
 |exc c fs=>exact h
 |wall=>exact h
def qA(h:zX C B H R Q (o.bind f))(k:∀r v a,zA H a->R' a r v->zX C B a R Q (f r)->Q' v a):Uh C B H R' Q' o:=by
 cases o with
 |ok r=>exact λv a s b=>k r v a s b (QW (o:=f r) h s)
 |exc c fs=>exact h
 |wall=>exact h
section
variable {X:Cx}{C:LC}{S:Eo}{e a b:Ey}{es:Ex}{w w1:Bool}{ws:Ew}{m m1 m2:ME}{ms:MA}{t1 t2:MT}{pos:Pos}
def zf:AM X C S [] [] zr:=λ_=>⟨_,YL,λB P H c d R Q q=>q [] H (zA.refl _) ⟨rfl,rfl⟩⟩
def za(h:EM X C S w e m)(y:AM X C S ws es ms)(p:starEach (e::es) X.env=(false,eval e X.env)::starEach es X.env:=by rfl):AM X C S (w::ws) (e::es) (zb m ms):=λj=>by
 obtain⟨I,F,r⟩:=h j;obtain⟨G,D,A⟩:=y j;refine⟨_,ve F D p,λB P H i g R Q q=>r B P H i g R _ (dZ (T:=λH o=>Uh C B H (λf=>RVs C B S P f (w::ws)) Q o) (λ_ _ _ s h=>aG s h) (λ_ _ h=>h) (λh=>h) q λx v z t u d=>?_)⟩;refine A B P z i g (R.keep t) _ ?_;revert d;cases ms g with
 |ok E=>exact λd l f s2 n=>d (v::l) f s2 ⟨x,v,E,l,rfl,rfl,u.same s2,n⟩
 |exc c fs=>exact id
 |wall=>exact id
def RVs.Bt{B:Bs}{P:ED}{H:Hp}:∀{ws:Ew}{g:EO}{h:EH},RVs C B S P H ws g h->ws.all (!·)=true->yy C.W (Mof B S P) H g h
 |[],_,_,⟨c,f⟩,_=>by subst c;subst f;rfl
 |w::ws,_,_,⟨x,v,n,j,c,f,i,l⟩,d=>by subst c;subst f;simp only[List.all_cons,Bool.and_eq_true,Bool.not_eq_true']at d;rw[d.1]at i;exact⟨v,j,rfl,i.rep,RVs.Bt l d.2⟩
def VO(ms:MA):ME:=λd=>(ms d).bind λc=>if c.length<=sizeLine then .ok (.l c)else .wall
def aH(ms:MA):ME:=λd=>(ms d).bind λc=>if c.length<=sizeLine then .ok (.t c)else .wall
def ZO(h:AM X C S ws es ms)(t:ws.all (!·)=true:=by rfl):FM X C S (.List es pos) (VO ms):=λl=>by
 obtain⟨v,u,g⟩:=h l;refine⟨_,oz u,λB P H f o R Q q=>g B P H f o R _ (qA q λy r x i j c=>?_)⟩;have d:=j.Bt t;split at c
 .rename_i s;exact⟨by rw[d.len];exact s,λp hp=>c _ _ (zA.upd hp) ⟨p,rfl,zA.none i hp,r,zd,(d.sub λa m n=>⟨m,λz=>n (z▸hp)⟩).same (zA.upd hp)⟩⟩
 .exact c.elim
def Jl{x1}(h:AM X C S ws es ms)(o:ws.all (!·)=true:=by rfl):EM X C S false (.Tuple es x1 pos) (aH ms):=λj=>by
 obtain⟨s,r,g⟩:=h j;refine⟨_,oy r,λB P H f l R Q q=>g B P H f l R _ (qA q λx u v t i c=>?_)⟩;have d:=i.Bt o;split at c
 .rename_i n;exact⟨by rw[d.len];exact n,λp hp=>c _ _ (zA.upd hp) (RV.of (rZ hp d))⟩
 .exact c.elim
def Ui(t u:MT):MT:=λd=>(t d).bind λc=>if c=true then u d else .ok false
def mOr(t u:MT):MT:=λd=>(t d).bind λc=>if c=true then .ok true else u d
def Jm(t:MT):MT:=λd=>(t d).bind λc=>.ok (!c)
def aI(m1 m2:ME):ME:=λd=>(m1 d).bind λx=>(asB x).bind λc=>if c=true then m2 d else .ok (.b false)
def uE(m1 m2:ME):ME:=λd=>(m1 d).bind λx=>(asB x).bind λc=>if c=true then .ok (.b true)else m2 d
def mIf(t:MT)(m1 m2:ME):ME:=λd=>(t d).bind λc=>if c=true then m1 d else m2 d
def TWM.tm(h:TWM X C S e t1):TM X C S e t1:=λc=>let⟨tt,a1,a2⟩:=h c;⟨tt,a1.pt,a2⟩
def QY(h:TM X C S a t1):TWM X C S (.BoolOp .And [a] pos) t1:=λc=>let⟨tt,a1,a2⟩:=h c;⟨tt,pw_and1 a1,a2⟩
def Jn(h:TM X C S a t1):TWM X C S (.BoolOp .Or [a] pos) t1:=λc=>let⟨tt,a1,a2⟩:=h c;⟨tt,pw_or1 a1,a2⟩
variable {rest:Ex}
def Kz(h:TM X C S a t1)(o:TWM X C S (.BoolOp .And (b::rest) pos) t2):TWM X C S (.BoolOp .And (a::b::rest) pos) (Ui t1 t2):=λg=>by
 obtain⟨u,s,l⟩:=h g;obtain⟨t,r,p⟩:=o g;refine⟨_,pw_and s r,λB P H d j R Q q=>l B P H d j R _ (Yl q λc i n f=>?_)⟩;cases c with
 |true=>exact lY (p B P i d j (R.keep n) _ f)
 |false=>exact lX (f i (zA.refl _))
def WL(h:TM X C S a t1)(o:TWM X C S (.BoolOp .Or (b::rest) pos) t2):TWM X C S (.BoolOp .Or (a::b::rest) pos) (mOr t1 t2):=λg=>by
 obtain⟨u,s,l⟩:=h g;obtain⟨t,r,p⟩:=o g;refine⟨_,pw_or s r,λB P H d j R Q q=>l B P H d j R _ (Yl q λc i n f=>?_)⟩;cases c with
 |true=>exact lY (f i (zA.refl _))
 |false=>exact lX (p B P i d j (R.keep n) _ f)
def j_(h:TM X C S a t1):TM X C S (.UnaryOp .Not a pos) (Jm t1):=λd=>by obtain⟨p,l,f⟩:=h d;exact⟨_,uT l,λB P H g n R Q q=>f B P H g n R _ (Yl q λc j o i=>i j (zA.refl _))⟩
def qO(h:EM X C S w e m)(he:∀c,isTrue e X.env c=(do let v<-c;standAt e.pos;holding [v] (truthy v)):=by intro _;rfl):TM X C S e (zW m):=λd=>by obtain⟨i,g,f⟩:=h d;exact⟨_,uS g he,aC f⟩
def fH{op}(h:EM X C S w a m):EM X C S w (.BoolOp op [a] pos) m:=λc=>let⟨tt,a1,a2⟩:=h c;⟨tt,uU a1,a2⟩
def bZ(h:EM X C S w1 a m1)(p:EM X C S false (.BoolOp .And (b::rest) pos) m2):EM X C S false (.BoolOp .And (a::b::rest) pos) (aI m1 m2):=λg=>by
 obtain⟨y,t,l⟩:=h g;obtain⟨u,s,r⟩:=p g;refine⟨_,uV t s,λB P H f j R Q q=>l B P H f j R _ (yV q λx v i n o d=>?_)⟩;cases x with
 |b c=>
  refine⟨c,(show v=.bl c from o),?_⟩;cases c with
  |true=>exact lY (r B P i f j (R.keep n) _ d)
  |false=>exact lX (d _ i (zA.refl _) (RV.of rfl))
 |_=>exact d.elim
def Co(h:EM X C S w1 a m1)(p:EM X C S false (.BoolOp .Or (b::rest) pos) m2):EM X C S false (.BoolOp .Or (a::b::rest) pos) (uE m1 m2):=λg=>by
 obtain⟨y,t,l⟩:=h g;obtain⟨u,s,r⟩:=p g;refine⟨_,BK t s,λB P H f j R Q q=>l B P H f j R _ (yV q λx v i n o d=>?_)⟩;cases x with
 |b c=>
  refine⟨c,(show v=.bl c from o),?_⟩;cases c with
  |true=>exact lY (d _ i (zA.refl _) (RV.of rfl))
  |false=>exact lX (r B P i f j (R.keep n) _ d)
 |_=>exact d.elim
def Cp(h:TM X C S c t1)(o:EM X C S w a m1)(p:EM X C S w b m2):EM X C S w (.IfExp c a b pos) (mIf t1 m1 m2):=λf=>by
 obtain⟨z,t,n⟩:=h f;obtain⟨y,u,s⟩:=o f;obtain⟨A,r,v⟩:=p f;refine⟨_,lz t u r,λB P H d g R Q q=>n B P H d g R _ (aB q λx l j i=>?_)⟩;cases x with
 |true=>exact lY (s B P l d g (R.keep j) _ i)
 |false=>exact lX (v B P l d g (R.keep j) _ i)
end
def zK{κ a:Type}[DecidableEq κ](kvs:List (κ×a))(k:κ):Option a:=(kvs.find? λb=>decide (b.1=k)).map (·.2)
def yG.get{W:RC}{M:Es}{H:Hp}:∀{a:EA}{b:Et}{k:Fg}{x:PV},yG W M H a b->zK a k=some x->∃v,J5 b k=some v/\Rep W M H x v
 |[],_,_,_,_,e=>by cases e
 |f::r,_,k,x,h,e=>by
  obtain⟨v,q,rfl,g,d⟩:=h;unfold zK at e;unfold J5;rw[a1p]at e ⊢;by_cases c:f.1=k
  .simp only[c,decide_true]at e ⊢;cases e;exact⟨v,rfl,g⟩
  .simp only[c,decide_false]at e ⊢;exact yG.get d e
def yG.Bu{W:RC}{M:Es}{H:Hp}:∀{a:EA}{b:Et}{k:Fg},yG W M H a b->zK a k=none->J5 b k=none
 |[],_,_,h,_=>by cases(show _=_ from h);rfl
 |f::r,_,k,h,e=>by
  obtain⟨v,q,rfl,g,d⟩:=h;unfold zK at e;unfold J5;rw[a1p]at e ⊢;by_cases c:f.1=k
  .simp only[c,decide_true]at e;cases e
  .simp only[c,decide_false]at e ⊢;exact yG.Bu d e
def yG.D8(h:yG W M H kvs es):(J5 es k).isSome=(zK kvs k).isSome:=by
 cases e:zK kvs k with
 |none=>rw[h.Bu e];rfl
 |some x=>obtain⟨v,q,_⟩:=h.get e;rw[q];rfl
def pk:PV->Option Key
 |.i n=>some (.inl n)
 |.s x=>some (.inr x)
 |_=>none
def YQ(h:yp W N M H x v)(e:pk x=some k):v=kV k:=by
 cases x with
 |i n=>cases e;exact h
 |s n=>cases e;exact h
 |_=>cases e
def Bv:R2:=λx y H Q=>∃a v,x=.ref a/\XM H a y (some v)/\Q v H
def WM(w:X.A.units+1<cLine):IxR X Bv:=by
 intro d c i s l H x y v u Q I m o h n;obtain⟨a,p,rfl,g,q⟩:=h;cases m;have j:=au I g;unfold subscriptTail;refine f8 ?_;rw[getitemInPython_of_ne j.not_modules];refine f8 (a2h j PySem.F.slot_dict_getitem.lookup ?_);have e:wpAny (FK X) X.A (subscripted c false (.ref a) u) (λr b=>wpAny (FK X) X.A (letTemporaryGo d (.ref a) r >>= λ_=>pure r) (EP X i l Q) X.xe b) X.xe s:=by rw[n];exact wpAny_operating (S9 (X7 w I g o λp z t rw'=>⟨_,H,t,rw',q⟩) (λr b f=>f8 (wpAny_letTemporaryGo (E2 f))) λ_ _ x=>x)
 first
  |exact E2 (f8 e)
  |exact f8 (E2 (f8 e))
  |exact f8 e
def Dt(K:Fc):R2:=λx y H Q=>rIx K x y H Q\/Bv x y H Q
def wJ{b:Type}:Option b->Out b
 |some a=>.ok a
 |none=>.wall
def pIx:PV->PV->Out PV
 |.l b,.i k=>wJ (atI b k)
 |.t b,.i k=>wJ (atI b k)
 |.sc d,.i k=>wJ ((atI d k).map PV.i)
 |.s z,.i k=>if z.length<=sizeLine then wJ ((atI z.cps.toList k).map λc=>.s ⟨#[c]⟩)else .wall
 |.d a,y=>wJ ((pk y).bind λk=>zK a k)
 |_,_=>.wall
def yN(h:zX C B H R Q (wJ o)):∃x,o=some x/\∀v a,zA H a->R a x v->Q v a:=by
 cases o with
 |none=>exact h.elim
 |some x=>exact⟨x,rfl,h⟩
def xD:Lf2 W (Dt W.K) pIx:=λM C B H x y v u Q n f g q=>by
 unfold pIx at q;split at q
 .obtain⟨x,e,q⟩:=yN q;obtain⟨p,h,rfl,_,a,r⟩:=f;obtain⟨v,b,d⟩:=r.at e;exact .inl (.inl ⟨p,h,_,v,rfl,g,SqL.of a,b,q v H (zA.refl _) d⟩)
 .obtain⟨x,e,q⟩:=yN q;obtain⟨p,h,rfl,a,r⟩:=f;obtain⟨v,b,d⟩:=r.at e;exact .inl (.inr (.inl ⟨p,h,_,v,rfl,g,a,b,q v H (zA.refl _) d⟩))
 .obtain⟨x,e,q⟩:=yN q;obtain⟨p,rfl,a⟩:=f;obtain⟨z,hz,rfl⟩:=v2.mp e;refine .inl (.inl ⟨p,_,_,.int z,rfl,g,a.sq,?_,q _ H (zA.refl _) rfl⟩);unfold atI at hz ⊢;rw[u8];cases c:ixN _ _ with
  |none=>rw[c]at hz;cases hz
  |some j=>rw[c,a0V]at hz;show(List.map V.int _)[j]?=_;rw[G9,hz];rfl
 .split at q
  .rename_i a;obtain⟨x,e,q⟩:=yN q;obtain⟨z,hz,rfl⟩:=v2.mp e;exact .inl (.inr (.inr ⟨_,_,z,f,g,a,hz,q _ H (zA.refl _) rfl⟩))
  .exact q.elim
 .obtain⟨x,e,q⟩:=yN q;obtain⟨p,l,rfl,_,a,r⟩:=f;obtain⟨k,i,e⟩:=L6.mp e;obtain⟨v,b,d⟩:=r.get e;exact .inr ⟨p,v,rfl,by rw[YQ g i,<- b];exact XM.rk a,q v H (zA.refl _) d⟩
 .exact q.elim
def Cq(h:X.A.units+1<cLine)(i:EM X C S w1 a m1)(g:EM X C S w2 b m2)(e:wM b:=by intro _ _;rfl):EM X C S false (.Subscript a b pos) (mOp pIx m1 m2):=λc=>by obtain⟨m,j,d⟩:=i c;obtain⟨n,f,l⟩:=g c;exact⟨_,lK (oA.or (WM h)) j f e,fE (by rw[c];exact xD) d l⟩
def toV:PV->Option V
 |.i a=>some (.int a)
 |.s a=>some (.str a)
 |.b a=>some (.bl a)
 |.n=>some .non
 |_=>none
def KA(h:yp W N M H x v)(e:toV x=some u):v=u/\JT u=true:=by cases x<;>first|(cases e;exact⟨h,rfl⟩)|cases e
def Cr:Option Bool->Option Bool->Option Bool
 |some a,some b=>some (a&&b)
 |_,_=>none
def sd(f:Fp):List PV->List PV->Option Bool
 |[],[]=>some true
 |x::b,y::a=>Cr (f x y) (sd f b a)
 |_,_=>some false
def uF(f:Fp)(b:EA):List (Key×PV)->Option Bool
 |[]=>some true
 |a::r=>match zK b a.1 with
  |none=>some false
  |some y=>Cr (f a.2 y) (uF f b r)
def xE(x y:PV):Option Bool:=match toV x,toV y with|some a,some b=>some (eqV a b)|_,_=>none
def b7:Nat->PV->PV->Option Bool
 |n+1,.l b,.l a=>sd (b7 n) b a
 |n+1,.t b,.t a=>sd (b7 n) b a
 |_,x,y=>xE x y
def Bw(n:Nat):PV->PV->Option Bool
 |.d a,.d b=>if a.length=b.length then uF (b7 n) b a else some false
 |x,y=>b7 n x y
def YR(h:Cr a b=some c):∃p q,a=some p/\b=some q/\c=(p&&q):=by cases a<;>cases b<;>first|(cases h;done)|(cases h;exact⟨_,_,rfl,rfl,rfl⟩)
theorem b8{f:Fp}:∀{c a:EO}{b:Bool},sd f c a=some b->c.length≠a.length->b=false
 |[],[],_,_,h=>absurd rfl h
 |[],_::_,_,h,_=>by cases h;rfl
 |_::_,[],_,h,_=>by cases h;rfl
 |x::c,y::a,b,h,n=>by obtain⟨p,q,_,d,rfl⟩:=YR h;rw[b8 d (λz=>n (by rw[E4,E4,z])),a2H]
theorem aJ{f:Fp}:∀{g d:EO}{b:Bool},sd f g d=some b->∃e:Nat->Bool,(∀j x y,g[j]?=some x->d[j]?=some y->f x y=some (e j))/\b=((List.range (min g.length d.length)).all e&&g.length==d.length)
 |[],[],b,h=>⟨λ_=>true,(λj x y h=>by simp at h),by cases h;rfl⟩
 |[],_::_,b,h=>⟨λ_=>true,(λj x y h=>by simp at h),by cases h;simp⟩
 |_::_,[],b,h=>⟨λ_=>true,(λj x y _ h=>by simp at h),by cases h;simp⟩
 |x::g,y::d,b,h=>by
  obtain⟨p,q,o,n,rfl⟩:=YR h;obtain⟨e,m,rfl⟩:=aJ n;refine⟨λj=>match j with|0=>p|j+1=>e j,λj a c l i=>?_,?_⟩
  .cases j with
   |zero=>simp only[List.getElem?_cons_zero,Option.some.injEq]at l i;subst l;subst i;exact o
   |succ j=>simp only[List.getElem?_cons_succ]at l i;exact m j a c l i
  .simp only[List.length_cons,Nat.add_min_add_right,List.range_succ_eq_map,List.all_cons,List.all_map,Bool.and_assoc];congr 1;simp[Function.comp_def]
section
variable {X:Cx}{pins:Ep}{σ:St}{H:Hp}{s:Eu}{W:RC}
def sf(I:Inv X pins σ H s)(L:W.K=X.K):∀{n:Nat}{x y:PV}{b:Bool}{v:V}{N M o i:Es},b7 n x y=some b->yp W N M H x v->yp W o i H y v->b=true:=by
 have B:∀{x y:PV}{b:Bool}{v:V}{N M o i:Es},xE x y=some b->yp W N M H x v->yp W o i H y v->b=true:=by
  intro x y b v N M o i h f d;unfold xE at h;cases C:toV x with
  |none=>rw[C]at h;cases h
  |some a=>
   cases E:toV y with
   |none=>rw[C,E]at h;cases h
   |some c=>rw[C,E]at h;obtain⟨S,J⟩:=KA f C;obtain⟨u,_⟩:=KA d E;cases h;rw[<- S]at J ⊢;rw[<- u];cases v<;>first|rfl|(cases J;done)|(simp[eqV];done)
 intro n
 induction n with
 |zero=>intro x y b v N M o i h;exact B (by cases x<;>cases y<;>exact h)
 |succ n K=>
  have w:∀{j g:EO}{m:EH}{b:Bool}{M i:Es},sd (b7 n) j g=some b->yy W M H j m->yy W i H g m->b=true:=by
   intro j
   induction j with
   |nil=>intro g m b M i h f d;cases(show _=_ from f);cases g with
    |nil=>cases h;rfl
    |cons y g=>obtain⟨_,_,e,_⟩:=d;cases e
   |cons x j D=>
    intro g m b M i h f d;obtain⟨v,r,rfl,R,P⟩:=f;cases g with
    |nil=>cases(show _=_ from d)
    |cons y g=>obtain⟨U,A,e,T,F⟩:=d;cases e;obtain⟨p,q,hp,Q,rfl⟩:=YR h;rw[K hp (yp.iff.mpr R) (yp.iff.mpr T),D Q P F];rfl
  intro x y b v N M o i h f d;cases x with
  |l j=>
   cases y with
   |l g=>obtain⟨p,m,rfl,_,e,r⟩:=f;obtain⟨O,G,u,_,z,A⟩:=d;cases u;rw[e]at z;cases z;exact w h r A
   |_=>exact B h f d
  |t j=>
   cases y with
   |t g=>obtain⟨p,m,rfl,e,r⟩:=f;obtain⟨O,G,u,z,A⟩:=d;cases u;rw[L]at e z;cases I.XU e z;exact w h r A
   |_=>exact B h f d
  |_=>exact B (by cases y<;>exact h) f d
def oM(f:RelV y u)(d:RelV x v)(g:JT y=true)(e:JT x=true):SeqAt.RcAt A s u v (eqV y x)/\SeqAt.RcNeAt A s u v (!eqV y x):=by
 cases y with
 |non=>
  cases f;cases x with
  |non=>cases d;exact⟨SeqAt.RcAt.none_none,SeqAt.RcNeAt.none_none⟩
  |bl b=>cases d;exact⟨SeqAt.RcAt.none_bool b,SeqAt.RcNeAt.none_bool b⟩
  |int b=>obtain⟨t,rfl⟩:=d;exact⟨SeqAt.RcAt.none_int b t,SeqAt.RcNeAt.none_int b t⟩
  |str b=>obtain⟨t,rfl⟩:=d;exact⟨SeqAt.RcAt.none_str b t,SeqAt.RcNeAt.none_str b t⟩
  |_=>exact absurd (show false=true from e) F6
 |bl a=>
  cases f;cases x with
  |non=>cases d;exact⟨SeqAt.RcAt.bool_none a,SeqAt.RcNeAt.bool_none a⟩
  |bl b=>cases d;exact⟨SeqAt.RcAt.bool_bool a b,SeqAt.RcNeAt.bool_bool a b⟩
  |int b=>obtain⟨t,rfl⟩:=d;exact⟨SeqAt.RcAt.bool_int a b t,SeqAt.RcNeAt.bool_int a b t⟩
  |str b=>obtain⟨t,rfl⟩:=d;exact⟨SeqAt.RcAt.bool_str a b t,SeqAt.RcNeAt.bool_str a b t⟩
  |_=>exact absurd (show false=true from e) F6
 |int a=>
  obtain⟨c,rfl⟩:=f;cases x with
  |non=>cases d;exact⟨SeqAt.RcAt.int_none a c,SeqAt.RcNeAt.int_none a c⟩
  |bl b=>cases d;exact⟨SeqAt.RcAt.int_bool a c b,SeqAt.RcNeAt.int_bool a c b⟩
  |int b=>obtain⟨t,rfl⟩:=d;exact⟨SeqAt.RcAt.int_int a c b t,SeqAt.RcNeAt.int_int a c b t⟩
  |str b=>obtain⟨t,rfl⟩:=d;exact⟨SeqAt.RcAt.int_str a c b t,SeqAt.RcNeAt.int_str a c b t⟩
  |_=>exact absurd (show false=true from e) F6
 |str a=>
  obtain⟨c,rfl⟩:=f;cases x with
  |non=>cases d;exact⟨SeqAt.RcAt.str_none a c,SeqAt.RcNeAt.str_none a c⟩
  |bl b=>cases d;exact⟨SeqAt.RcAt.str_bool a c b,SeqAt.RcNeAt.str_bool a c b⟩
  |int b=>obtain⟨t,rfl⟩:=d;exact⟨SeqAt.RcAt.str_int a c b t,SeqAt.RcNeAt.str_int a c b t⟩
  |str b=>obtain⟨t,rfl⟩:=d;exact⟨SeqAt.RcAt.str_str a c b t,SeqAt.RcNeAt.str_str a c b t⟩
  |_=>exact absurd (show false=true from e) F6
 |_=>exact absurd (show false=true from g) F6
def WN(h:xE x y=some b)(m:yp W N M H x xv)(l:yp W N' M' H y yv)(g:RelV xv u)(i:RelV yv v):
  SeqAt.EqAt A s u v b/\SeqAt.RcAt A s u v b/\SeqAt.RcNeAt A s u v (!b):=by
 unfold xE at h;cases d:toV x with
 |none=>rw[d]at h;cases h
 |some a=>
  cases j:toV y with
  |none=>rw[d,j]at h;cases h
  |some c=>rw[d,j]at h;cases h;obtain⟨rfl,f⟩:=KA m d;obtain⟨rfl,e⟩:=KA l j;exact⟨oB g i f e,(oM g i f e).1,(oM g i f e).2⟩
def mw(I:Inv X pins σ H s)(hK:W.K=X.K):∀(n:Nat){A:EK}{x y:PV}{b:Bool}{O K:V}{u v:Value}{N M N' M':Es},b7 n x y=some b->yp W N M H x O->yp W N' M' H y K->RelV O u->RelV K v->A.units+n<cLine->
  SeqAt.EqAt A s u v b/\SeqAt.RcAt A s u v b/\SeqAt.RcNeAt A s u v (!b):=by
 intro n
 induction n with
 |zero=>intro A x y b O K u v N M N' M' h g i a d _;exact WN (by cases x<;>cases y<;>exact h) g i a d
 |succ n ih=>
  intro A x y b O K u v N M N' M' h g i a d hu;have top:∀{p q:Addr},u=.ref p->v=.ref q->O=.ref p->K=.ref q->SeqAt.RcAt A s u v b/\SeqAt.RcNeAt A s u v (!b)->SeqAt.EqAt A s u v b/\SeqAt.RcAt A s u v b/\SeqAt.RcNeAt A s u v (!b):=λ{p q} e1 e2 e3 e4 Z=>by
   refine⟨?_,Z⟩;by_cases c:p=q
   .subst c;rw[e1,e2];rw[sf I hK h (e3▸g) (e4▸i)];exact a2d _
   .rw[e1,e2]at Z ⊢;exact SeqAt.EqAt.of_refs c Z.1
  cases x with
  |l S=>
   cases y with
   |l Q=>
    obtain⟨p,vs,rfl,_,e,r⟩:=g;obtain⟨p',vs',rfl,_,R,J⟩:=i;cases a;cases d;refine top rfl rfl rfl rfl ?_;obtain⟨U,P,B,_⟩:=I.list (SqL.of e);obtain⟨ws,G,o,_⟩:=I.list (SqL.of R);have m:U.toArray.size=S.length:=by rw[N5,<- P.length,r.len]
    have F:ws.toArray.size=Q.length:=by rw[N5,<- G.length,J.len]
    by_cases C:S.length=Q.length
    .obtain⟨f,hf,rfl⟩:=aJ h;rw[C,a1T,Bool.and_true,Nat.min_self,<- C,<- m];have L:=bX (A:=A.in1) (e:=f) (s:=s) P G λj x y u v hx hy a d=>by obtain⟨Y,w,z⟩:=r.rY hx;obtain⟨T,E,D⟩:=J.rY hy;exact(ih (A:=A.in1) (hf j Y T w E) (yp.iff.mpr z) (yp.iff.mpr D) a d (by show A.units+1+n<cLine;omega)).1
     exact⟨SeqAt.RcAt.lists B.isList o.isList (by rw[m,F,C]) (by omega) L,SeqAt.RcNeAt.lists B.isList o.isList (by rw[m,F,C]) (by omega) L⟩
    .rw[b8 h C];exact⟨SeqAt.RcAt.lists_lengths B.isList o.isList (by rw[m,F];simpa using C) (by omega),SeqAt.RcNeAt.lists_lengths B.isList o.isList (by rw[m,F];simpa using C) (by omega)⟩
   |_=>exact WN h g i a d
  |t S=>
   cases y with
   |t Q=>
    obtain⟨p,vs,rfl,e,r⟩:=g;obtain⟨p',vs',rfl,R,J⟩:=i;cases a;cases d;refine top rfl rfl rfl rfl ?_;rw[hK]at e R;obtain⟨U,P,B,_⟩:=I.tuple e;obtain⟨ws,G,o,_⟩:=I.tuple R;have m:U.toArray.size=S.length:=by rw[N5,<- P.length,r.len]
    have F:ws.toArray.size=Q.length:=by rw[N5,<- G.length,J.len]
    obtain⟨f,hf,rfl⟩:=aJ h;have L:=bX (A:=A.in1) (e:=f) (s:=s) P G λj x y u v hx hy a d=>by obtain⟨Y,w,z⟩:=r.rY hx;obtain⟨T,E,D⟩:=J.rY hy;exact(ih (A:=A.in1) (hf j Y T w E) (yp.iff.mpr z) (yp.iff.mpr D) a d (by show A.units+1+n<cLine;omega)).1
    rw[<- m,<- F];exact⟨SeqAt.RcAt.tuples B o (by omega) L,SeqAt.RcNeAt.tuples B o (by omega) L⟩
   |_=>exact WN h g i a d
  |_=>exact WN (by cases y<;>exact h) g i a d
def oN{es:Et}{vs:EZ}(r:KV es vs){k:Fg}{v:V}(h:J5 es k=some v):∃u,valueAt vs k=some u/\RelV v u:=VL.some_of (v:=v) (o:=valueAt vs k) (by rw[<- h];exact KV.val r k)
def si{es:Et}{vs:EZ}(r:KV es vs){k:Fg}(h:J5 es k=none):valueAt vs k=none:=by
 have:=KV.val r k;rw[h]at this;cases e:valueAt vs k with
 |none=>rfl
 |some u=>rw[e]at this;exact this.elim
theorem aK(I:Inv X pins σ H s)(o:W.K=X.K){n:Nat}{A:EK}(x:A.units+n<cLine){b:EA}{w:Et}{t:EZ}{M L:Es}(f:yG W L H b w)(g:KV w t):
  ∀{a:EA}{l:Et}{m:EZ}{r:Bool},yG W M H a l->KV l m->uF (b7 n) b a=some r->KeqHits A s t m r
 |[],_,_,_,h,k,e=>by cases(show _=_ from h);cases k;cases e;exact .nil
 |z::a,_,_,r,h,k,e=>by
  obtain⟨v,q,rfl,F,G⟩:=h;cases k with
  |@cons _ u _ O E C=>
   obtain⟨Q,u⟩:=u;obtain⟨K,B⟩:=E;cases K;unfold uF at e;cases c:zK b z.1 with
   |none=>rw[c]at e;cases e;exact .miss (si g (f.Bu c))
   |some y=>rw[c]at e;obtain⟨p,q,hp,J,rfl⟩:=YR e;obtain⟨N,d,D⟩:=f.get c;obtain⟨P,i,j⟩:=oN g d;exact .hit i (mw I o n hp (yp.iff.mpr F) (yp.iff.mpr D) B j x).1 (aK I o x f g G C J)
end
def Ct(W:RC)(a:Bool):R2:=λd c H Q=>∃M x y b,yp W (λ_=>True) M H x d/\yp W (λ_=>True) M H y c/\Bw 8 x y=some b/\Q (.bl (xor a b)) H
def fI:(∃a b,x=.d a/\y=.d b)\/Bw n x y=b7 n x y:=by
 cases x with
 |d a=>cases y with
  |d b=>exact .inl ⟨a,b,rfl,rfl⟩
  |_=>exact .inr rfl
 |_=>exact .inr rfl
def fJ(w:W.K=X.K)(Y:X.A.units+64<cLine):OpR X (compareOp .Eq) (Ct W false):=by
 intro G s P H T R u v Q I l D h;obtain⟨M,x,y,b,t,C,e,q⟩:=h;rw[P1]at q;rcases fI (n:=8) (x:=x) (y:=y)with⟨a,c,rfl,rfl⟩|z
 .obtain⟨p,S,rfl,_,N,B⟩:=t;obtain⟨U,K,rfl,_,O,m⟩:=C;cases l;cases D;obtain⟨_,na,J,j,F⟩:=vf I.hok N;obtain⟨_,g,L,o,E⟩:=vf I.hok O;have i:J.length=a.length:=by rw[<- P9 j];have:=G8 List.length (yG.iff.mp B).1;simpa using this
  have f:L.length=c.length:=by rw[<- P9 o];have:=G8 List.length (yG.iff.mp m).1;simpa using this
  have e:(if a.length=c.length then uF (b7 8) c a else some false)=some b:=e;by_cases d:a.length=c.length
  .rw[if_pos d]at e;refine keq_eq na g F E (by omega) (λ_=>aK I w (A:=X.A.in1) (by show X.A.units+1+8<cLine;omega) m o B j e) ?_;rw[i,f,d,a1T,a0s];exact⟨.bl b,H,I,rfl,q⟩
  .rw[if_neg d]at e;cases e;refine keq_eq (r:=false) na g F E (by omega) (λz=>absurd (by rw[<- i,<- f,z]) d) ?_;rw[a2H];exact⟨.bl false,H,I,rfl,q⟩
 .rw[z]at e;exact(mw I w 8 e t C l D (by omega)).2.1 _ _ _ _ ⟨.bl b,H,I,rfl,q⟩
def xF(w:W.K=X.K)(Y:X.A.units+64<cLine):OpR X (compareOp .NotEq) (Ct W true):=by
 intro G s P H T R u v Q I l D h;obtain⟨M,x,y,b,t,C,e,q⟩:=h;rw[a1d]at q;rcases fI (n:=8) (x:=x) (y:=y)with⟨a,c,rfl,rfl⟩|z
 .obtain⟨p,S,rfl,_,N,B⟩:=t;obtain⟨U,K,rfl,_,O,m⟩:=C;cases l;cases D;obtain⟨_,na,J,j,F⟩:=vf I.hok N;obtain⟨_,g,L,o,E⟩:=vf I.hok O;have i:J.length=a.length:=by rw[<- P9 j];have:=G8 List.length (yG.iff.mp B).1;simpa using this
  have f:L.length=c.length:=by rw[<- P9 o];have:=G8 List.length (yG.iff.mp m).1;simpa using this
  have e:(if a.length=c.length then uF (b7 8) c a else some false)=some b:=e;by_cases d:a.length=c.length
  .rw[if_pos d]at e;refine keq_ne na g F E (by omega) (λ_=>aK I w (A:=X.A.in1) (by show X.A.units+1+8<cLine;omega) m o B j e) ?_;rw[i,f,d,a1T,a0s];exact⟨.bl (!b),H,I,rfl,q⟩
  .rw[if_neg d]at e;cases e;refine keq_ne (r:=false) na g F E (by omega) (λz=>absurd (by rw[<- i,<- f,z]) d) ?_;rw[a2H];exact⟨.bl (!false),H,I,rfl,q⟩
 .rw[z]at e;exact(mw I w 8 e t C l D (by omega)).2.2 _ _ _ _ ⟨.bl (!b),H,I,rfl,q⟩
def j2(a:Bool)(x y:PV):Out PV:=match Bw 8 x y with|some b=>.ok (.b (xor a b))|none=>.wall
def b9:Lf2 W (Ct W neg) (j2 neg):=λM C B H x y v u Q n c a q=>by
 unfold j2 at q;cases e:Bw 8 x y with
 |none=>rw[e]at q;exact q.elim
 |some b=>rw[e]at q;exact⟨M,x,y,b,c,a,e,q _ H (zA.refl _) rfl⟩
def d3(e:X.A.units+64<cLine)(d:EM X C S w1 a m1)(f:EM X C S w2 b m2):EM X C S false (.Compare a [.Eq] [b] pos) (mOp (j2 false) m1 m2):=λc=>Ug (fJ c.symm e) b9 d f (YJ _ (by decide) (by decide)) c
def VS(e:X.A.units+64<cLine)(d:EM X C S w1 a m1)(f:EM X C S w2 b m2):TM X C S (.Compare a [.Eq] [b] pos) (zW (mOp (j2 false) m1 m2)):=λc=>y9 (fJ c.symm e) b9 d f (YJ _ (by decide) (by decide)) c
def fL(e:X.A.units+64<cLine)(d:EM X C S w1 a m1)(f:EM X C S w2 b m2):TM X C S (.Compare a [.NotEq] [b] pos) (zW (mOp (j2 true) m1 m2)):=λc=>y9 (xF c.symm e) b9 d f (YJ _ (by decide) (by decide)) c
def inP(v:V):List PV->Option Bool
 |[]=>some false
 |y::r=>match toV y,inP v r with
  |some u,some b=>some (eqV u v||b)
  |_,_=>none
theorem fO{W:RC}{M:Es}{H:Hp}{v:V}:∀{a:EO}{g:EH}{b:Bool},yy W M H a g->inP v a=some b->g.all JT=true/\inV v g=b
 |[],_,_,h,e=>by cases(show _=_ from h);cases e;exact⟨rfl,rfl⟩
 |y::a,_,b,h,e=>by
  obtain⟨u,r,rfl,m,l⟩:=h;unfold inP at e;cases c:toV y with
  |none=>rw[c]at e;cases e
  |some o=>
   cases d:inP v a with
   |none=>rw[c,d]at e;cases e
   |some n=>rw[c,d]at e;cases e;obtain⟨rfl,f⟩:=KA (yp.iff.mpr m) c;obtain⟨j,i⟩:=fO l d;exact⟨by rw[a0r,f,j];rfl,by unfold inV at i ⊢;rw[R4,i]⟩
def Cu(K:Fc)(b:Bool):R2:=λx y H Q=>(rIn K b x y H Q\/∃i j,x=.str i/\y=.str j/\Q (.bl (xor b (!(Builtin.Str.occurrences j i 0 j.length 1).isEmpty))) H)\/∃a o,y=.ref a/\XM H a x o/\Q (.bl (xor b o.isSome)) H
def oO(l:X.A.units+1<cLine):OpR X (compareOp .In) (Cu X.K false):=by
 intro b s e H x y v u Q I c d h;rcases h with(h|⟨i,j,e1,e2,q⟩)|⟨a,o,rfl,g,q⟩
 .exact e_ b s e H x y v u Q I c d h
 .exact e7 b s e H x y v u Q I c d ⟨i,j,e1,e2,by rw[P1]at q;exact q⟩
 .obtain rfl:u=Value.ref a:=d;exact D3 l I g c λm f=>⟨.bl o.isSome,H,f,rfl,by rw[P1]at q;exact q⟩
def fP(l:X.A.units+1<cLine):OpR X (compareOp .NotIn) (Cu X.K true):=by
 intro b s e H x y v u Q I c d h;rcases h with(h|⟨i,j,e1,e2,q⟩)|⟨a,o,rfl,g,q⟩
 .exact X2 b s e H x y v u Q I c d h
 .exact X3 b s e H x y v u Q I c d ⟨i,j,e1,e2,by rw[a1d]at q;exact q⟩
 .obtain rfl:u=Value.ref a:=d;exact rN l I g c λm f=>⟨.bl (!o.isSome),H,f,rfl,by rw[a1d]at q;exact q⟩
def pIn(a:Bool):PV->PV->Out PV
 |x,.l c=>wJ (((toV x).bind λv=>inP v c).map λb=>.b (xor a b))
 |x,.t c=>wJ (((toV x).bind λv=>inP v c).map λb=>.b (xor a b))
 |.s i,.s j=>.ok (.b (xor a (!(Builtin.Str.occurrences j i 0 j.length 1).isEmpty)))
 |x,.d d=>wJ ((pk x).map λk=>.b (xor a (zK d k).isSome))
 |_,_=>.wall
def fQ:(if neg=true then !b else b)=xor neg b:=by cases neg<;>simp
def sj:Lf2 W (Cu W.K neg) (pIn neg):=λM C B H x y v u Q n g h q=>by
 unfold pIn at q;split at q
 .obtain⟨z,e,q⟩:=yN q;obtain⟨b,c,rfl⟩:=v2.mp e;obtain⟨m,a,c⟩:=L6.mp c;obtain⟨p,j,rfl,_,d,r⟩:=h;obtain⟨rfl,f⟩:=KA g a;obtain⟨l,i⟩:=fO r c;exact .inl (.inl ⟨p,j,rfl,.inl (SqL.of d),f,l,by rw[i,fQ];exact q _ H (zA.refl _) rfl⟩)
 .obtain⟨z,e,q⟩:=yN q;obtain⟨b,c,rfl⟩:=v2.mp e;obtain⟨m,a,c⟩:=L6.mp c;obtain⟨p,j,rfl,d,r⟩:=h;obtain⟨rfl,f⟩:=KA g a;obtain⟨l,i⟩:=fO r c;exact .inl (.inl ⟨p,j,rfl,.inr d,f,l,by rw[i,fQ];exact q _ H (zA.refl _) rfl⟩)
 .exact .inl (.inr ⟨_,_,g,h,q _ H (zA.refl _) rfl⟩)
 .obtain⟨z,e,q⟩:=yN q;obtain⟨k,o,rfl⟩:=v2.mp e;obtain⟨p,s,rfl,_,d,r⟩:=h;exact .inr ⟨p,_,rfl,by rw[YQ g o];exact XM.rk d,by rw[r.D8];exact q _ H (zA.refl _) rfl⟩
 .exact q.elim
section
variable {X:Cx}{C:LC}{S:Eo}{e a b:Ey}{es:Ex}{w w1 w2:Bool}{ws:Ew}{m1 m2:ME}{ms:MA}{pos p:Pos}{x:Str}
def Cv(f:X.A.units+1<cLine)(g:EM X C S w1 a m1)(d:EM X C S w2 b m2)(h:behindInMarks .In b=false:=by with_unfolding_all rfl):EM X C S false (.Compare a [.In] [b] pos) (mOp (pIn false) m1 m2):=λc=>Ug (oO f) (by rw[c];exact sj) g d h c
def xG(f:X.A.units+1<cLine)(g:EM X C S w1 a m1)(d:EM X C S w2 b m2)(h:behindInMarks .In b=false:=by with_unfolding_all rfl):TM X C S (.Compare a [.In] [b] pos) (zW (mOp (pIn false) m1 m2)):=λc=>y9 (oO f) (by rw[c];exact sj) g d h c
def YS(f:X.A.units+1<cLine)(g:EM X C S w1 a m1)(d:EM X C S w2 b m2)(h:behindInMarks .NotIn b=false:=by with_unfolding_all rfl):TM X C S (.Compare a [.NotIn] [b] pos) (zW (mOp (pIn true) m1 m2)):=λc=>y9 (fP f) (by rw[c];exact sj) g d h c
def fR(W:RC)(M:Es)(H:Hp):List PV->List V->Prop
 |[],c=>c=[]
 |x::d,c=>∃v r,c=v::r/\yp W (λ_=>True) M H x v/\fR W M H d r
def RVs.weak{B:Bs}{P:ED}{H:Hp}:∀{ws:Ew}{f:EO}{g:EH},RVs C B S P H ws f g->fR C.W (Mof B S P) H f g
 |[],_,_,⟨c,d⟩=>by subst c;subst d;rfl
 |w::ws,_,_,⟨x,v,l,h,c,d,j,i⟩=>by subst c;subst d;exact⟨v,h,rfl,j.weak,RVs.weak i⟩
def LfC(W:RC)(r:List V->Hp->VK->Prop)(p:EJ):Prop:=∀(M:Es)(C:LC)(B:Bs) H xs vs Q,New M H->fR W M H xs vs->zX C B H (Rep W M) Q (p xs)->r vs H Q
def LfF(W:RC)(r:List V->Hp->VK->Prop)(p:EJ):Prop:=∀(M:Es)(C:LC)(B:Bs) H xs vs Q,New M H->fR W M H xs vs->zX C B H (RFr W M H) Q (p xs)->r vs H Q
def zg(g:EJ)(ms:MA):ME:=λc=>(ms c).bind g
def xH(L:LfC C.W r g)(h:LA C S ws ta ms):LE C S false (tCB r ta) (zg g ms):=λB P H c j R Q q=>
 h B P H c j R _ (qA q λi l n f o d=>L _ C B n i l Q (R.keep f).new o.weak (RV.eq▸d))
def KC(h:zX C B H (RFr W M H) Q o)(s:zA H H2):zX C B H2 (RFr W M H2) Q o:=by
 cases o with
 |ok x=>exact λv d f g=>h v d (s.trans f) (let⟨p,e,hp,hr⟩:=g;⟨p,e,zA.none s hp,hr⟩)
 |exc c fs=>exact h
 |wall=>exact h
def KD(h:zX C B H (RFr W M H) Q (o.bind f))(k:∀r v d,zA H d->R' d r v->zX C B d (RFr W M d) Q (f r)->Q' v d):Uh C B H R' Q' o:=by
 cases o with
 |ok r=>exact λv d s g=>k r v d s g (KC (o:=f r) h s)
 |exc c fs=>exact h
 |wall=>exact h
def aM(h:zX C B H (RFr W M H) Q (o.bind f))(k:∀r v d,zA H d->R' d r v->zX C B d (RFr W M d) Q (f r)->Q' v d):zX C B H R' Q' o:=by
 cases o with
 |ok r=>exact λv d s g=>k r v d s g (KC (o:=f r) h s)
 |exc c fs=>exact h
 |wall=>exact h
def Cw(L:LfF C.W r g)(h:LA C S ws ta ms):LFr C S (tCB r ta) (zg g ms):=λB P H c j R Q q=>
 h B P H c j R _ (KD q λi l n f o d=>L _ C B n i l Q (R.keep f).new o.weak d)
def J8{id:String}{r:List V->Hp->VK->Prop}{g:EJ}(i:X.K=C.W.K->vz X (.builtin id) r)(L:LfC C.W r g)(n:Gl X x)(q:X.mg x=none)(j:bootBuiltins x=some (.builtin id))(l:AM X C S ws (e::es) ms)(hn:x≠"__name__":=by decide)(c:(x==("__debug__":Str))=false:=by decide)
  (he:starEach (e::es) X.env=(false,eval e X.env)::starEach es X.env:=by rfl) (d:(backTo pos (starEach es X.env)).any (·.1)=false:=by rfl):EM X C S false (.Call (.Name x p) (e::es) [] pos) (zg g ms):=λf=>by
 obtain⟨s,o,h⟩:=l f;exact⟨_,WD (i f) n q j o hn c he d,xH L h⟩
def b_{id:String}{r:List V->Hp->VK->Prop}{g:EJ}(i:X.K=C.W.K->vz X (.type id) r)(L:LfF C.W r g)(n:Gl X x)(q:X.mg x=none)(j:bootBuiltins x=some (.type id))(l:AM X C S ws (e::es) ms)(hn:x≠"__name__":=by decide)(c:(x==("__debug__":Str))=false:=by decide)
  (he:starEach (e::es) X.env=(false,eval e X.env)::starEach es X.env:=by rfl) (d:(backTo pos (starEach es X.env)).any (·.1)=false:=by rfl):FM X C S (.Call (.Name x p) (e::es) [] pos) (zg g ms):=λf=>by
 obtain⟨s,o,h⟩:=l f;exact⟨_,wL (i f) n q j o hn c he d,Cw L h⟩
end
def ZJ:List PV->Out PV
 |[.l a]=>.ok (.i a.length)
 |[.t a]=>.ok (.i a.length)
 |[.sc a]=>.ok (.i a.length)
 |[.d a]=>.ok (.i a.length)
 |[.s z]=>if z.length<=sizeLine then .ok (.i z.length)else .wall
 |_=>.wall
def yG.len(h:yG W M H a es):es.length=a.length:=by have:=G8 List.length (yG.iff.mp h).1;simpa using this
def xI(K:Fc):List V->Hp->VK->Prop:=λc H Q=>(∃x n,c=[x]/\Dc K x H n/\Q (.int n) H)\/∃a b,c=[V.ref a]/\Rd H a (.dK b)/\Q (.int b.length) H
def fS:vz X (.builtin "len") (λd H Q=>∃a b,d=[V.ref a]/\Rd H a (.dK b)/\Q (.int b.length) H):=by intro c s i H d j Q I r h;obtain⟨a,b,rfl,e,q⟩:=h;obtain⟨u,rfl,f⟩:=vals1 r;cases f;exact B8 I e λt l g=>⟨.int _,H,g,⟨t,rfl⟩,q⟩
def xJ:LfC W (xI W.K) ZJ:=λM C B H g c Q n h q=>by
 unfold ZJ at q;split at q
 .obtain⟨v,r,rfl,⟨p,c,rfl,_,b,d⟩,a⟩:=h;cases(show _=_ from a);exact .inl ⟨_,c.length,rfl,.inl ⟨c,SqL.of b,rfl⟩,q _ H (zA.refl _) (by rw[d.len];rfl)⟩
 .obtain⟨v,r,rfl,⟨p,c,rfl,b,d⟩,a⟩:=h;cases(show _=_ from a);exact .inl ⟨_,c.length,rfl,.inr ⟨c,b,rfl⟩,q _ H (zA.refl _) (by rw[d.len];rfl)⟩
 .obtain⟨v,r,rfl,⟨p,rfl,b⟩,a⟩:=h;cases(show _=_ from a);exact .inl ⟨_,_,rfl,.inl ⟨_,b.sq,rfl⟩,q _ H (zA.refl _) (by rw[u8];rfl)⟩
 .obtain⟨v,r,rfl,⟨p,e,rfl,_,b,d⟩,a⟩:=h;cases(show _=_ from a);exact .inr ⟨_,e,rfl,b,q _ H (zA.refl _) (by rw[d.len];rfl)⟩
 .split at q
  .rename_i hz;obtain⟨v,r,rfl,f,a⟩:=h;cases(show _=_ from a);cases(show _=_ from f);exact .inl ⟨_,_,rfl,⟨hz,rfl⟩,q _ H (zA.refl _) rfl⟩
  .exact q.elim
 .exact q.elim
def jB(b:Gl X "len")(d:X.mg "len"=none)(c:AM X C S ws [e] ms)(he:starEach [e] X.env=[(false,eval e X.env)]:=by rfl):EM X C S false (.Call (.Name "len" p) [e] [] pos) (zg ZJ ms):=
 J8 (r:=xI C.W.K) (λa=>a▸lG.or fS) xJ b d PySem.boot_len c (he:=he)
def so:List PV->Out PV
 |[.l a]=>.ok (.l a)
 |[.t a]=>.ok (.l a)
 |[.sc a]=>.ok (.l (a.map PV.i))
 |_=>.wall
def Uj(r:yy W M H xs vs)(b:H l=none):RFr W M H (upd H l (.lst vs)) (.l xs) (.ref l):=
 ⟨l,rfl,b,vs,zd,(r.sub λa m n=>⟨m,λz=>n (z▸b)⟩).same (zA.upd b)⟩
def sr(r:yG W M H xs vs)(b:H l=none):RFr W M H (upd H l (.dK vs)) (.d xs) (.ref l):=
 ⟨l,rfl,b,vs,zd,(r.sub λa m n=>⟨m,λz=>n (z▸b)⟩).same (zA.upd b)⟩
def su:LfF W (λf H Q=>∃p d,f=[.ref p]/\(SqL W.K H p d\/SqT W.K H p d)/\∀l,H l=none->Q (.ref l) (upd H l (.lst d))) so:=λM C B H f c Q n h q=>by
 unfold so at q;split at q
 .obtain⟨v,r,rfl,⟨p,c,rfl,_,a,e⟩,b⟩:=h;cases(show _=_ from b);exact⟨p,c,rfl,.inl (SqL.of a),λl a=>q _ _ (zA.upd a) (Uj e a)⟩
 .obtain⟨v,r,rfl,⟨p,c,rfl,a,e⟩,b⟩:=h;cases(show _=_ from b);exact⟨p,c,rfl,.inr a,λl a=>q _ _ (zA.upd a) (Uj e a)⟩
 .obtain⟨v,r,rfl,⟨p,rfl,a⟩,b⟩:=h;cases(show _=_ from b);exact⟨p,_,rfl,.inl a.sq,λl a=>q _ _ (zA.upd a) (Uj yy.ints a)⟩
 .exact q.elim
def toI:PV->Option Int
 |.i a=>some a
 |_=>none
def mx:List PV->Option (List Int)
 |[]=>some []
 |x::r=>match toI x,mx r with|some a,some b=>some (a::b)|_,_=>none
theorem aN{W:RC}{M:Es}{H:Hp}:∀{c:EO}{g:EH}{f:EW},yy W M H c g->mx c=some f->g=f.map V.int
 |[],_,_,h,e=>by cases(show _=_ from h);cases e;rfl
 |x::c,_,f,h,e=>by
  obtain⟨v,r,rfl,l,j⟩:=h;unfold mx at e;cases x with
  |i a=>
   cases d:mx c with
   |none=>rw[d]at e;cases e
   |some b=>rw[d]at e;cases e;rw[F3,<- aN j d,(show v=_ from l)]
  |_=>cases e
theorem WO:∀{c:EW},mx (c.map PV.i)=some c
 |[]=>rfl
 |n::c=>by show(match toI (.i n),mx (c.map PV.i)with|some a,some b=>some (a::b)|_,_=>none)=_;rw[WO];rfl
def uG:List PV->Out PV
 |[.l a]=>wJ ((mx a).map λb=>.i b.sum)
 |_=>.wall
def xK:LfC W (Ds W.K) uG:=λM C B H g f Q n h q=>by
 unfold uG at q;split at q
 .obtain⟨z,e,q⟩:=yN q;obtain⟨c,hn,rfl⟩:=v2.mp e;obtain⟨v,r,rfl,⟨p,f,rfl,_,a,b⟩,d⟩:=h;cases(show _=_ from d);rw[aN b hn]at a;exact⟨p,c,rfl,SqL.of a,q _ H (zA.refl _) rfl⟩
 .exact q.elim
def fT:List PV->Option (List Bool)
 |[]=>some []
 |x::r=>match x,fT r with | .b a,some b=>some (a::b)|_,_=>none
theorem aO{W:RC}{M:Es}{H:Hp}:∀{c:EO}{g:EH}{f:Ew},yy W M H c g->fT c=some f->g=f.map V.bl
 |[],_,_,h,e=>by cases(show _=_ from h);cases e;rfl
 |x::c,_,f,h,e=>by
  obtain⟨v,r,rfl,j,i⟩:=h;unfold fT at e;cases x with
  |b a=>
   cases d:fT c with
   |none=>rw[d]at e;cases e
   |some b=>rw[d]at e;cases e;rw[F3,<- aO i d,(show v=_ from j)]
  |_=>cases e
theorem cb:∀{ns:Ew},fT (ns.map PV.b)=some ns
 |[]=>rfl
 |n::ns=>by unfold fT;rw[F3];simp only[cb]
def oQ:List PV->Out PV
 |[.l a]=>wJ ((fT a).map λb=>.b (b.all id))
 |_=>.wall
def xM:LfC W (Dm W.K) oQ:=λM C B H g f Q n h q=>by
 unfold oQ at q;split at q
 .obtain⟨z,e,q⟩:=yN q;obtain⟨c,hn,rfl⟩:=v2.mp e;obtain⟨v,r,rfl,⟨p,f,rfl,_,a,b⟩,d⟩:=h;cases(show _=_ from d);rw[aO b hn]at a;exact⟨p,c,rfl,SqL.of a,q _ H (zA.refl _) rfl⟩
 .exact q.elim
def oR(b:X.calm=true)(d:Gl X "sum")(f:X.mg "sum"=none)(c:AM X C S ws [e] ms)(he:starEach [e] X.env=[(false,eval e X.env)]:=by rfl):EM X C S false (.Call (.Name "sum" p) [e] [] pos) (zg uG ms):=
 J8 (λa=>a▸fC b) xK d f a2I c (he:=he)
def oS(b:X.calm=true)(d:Gl X "all")(f:X.mg "all"=none)(c:AM X C S ws [e] ms)(he:starEach [e] X.env=[(false,eval e X.env)]:=by rfl):EM X C S false (.Call (.Name "all" p) [e] [] pos) (zg oQ ms):=
 J8 (λa=>a▸l_ b) xM d f PyProof.Rows.boot_all c (he:=he)
def wc(W:RC)(M:Es)(H:Hp):List Bool->List PV->List V->Prop
 |[],a,b=>a=[]/\b=[]
 |w::ws,a,b=>∃x v c d,a=x::c/\b=v::d/\yp W (if w=true then λ_=>True else M) M H x v/\wc W M H ws c d
def RVs.args{C:LC}{B:Bs}{S:Eo}{P:ED}{H:Hp}:∀{ws:Ew}{a:EO}{b:EH},RVs C B S P H ws a b->wc C.W (Mof B S P) H ws a b
 |[],_,_,h=>h
 |w::ws,_,_,⟨x,v,c,e,d,i,g,f⟩=>⟨x,v,c,e,d,i,g,RVs.args f⟩
def wc.len{W:RC}{M:Es}{H:Hp}:∀{ws:Ew}{d:EO}{e:EH},wc W M H ws d e->e.length=ws.length/\d.length=ws.length
 |[],_,_,⟨a,b⟩=>by subst a;subst b;exact⟨rfl,rfl⟩
 |w::ws,_,_,⟨x,v,f,g,a,b,h,c⟩=>by subst a;subst b;exact⟨by rw[E4,E4,(wc.len c).1],by rw[E4,E4,(wc.len c).2]⟩
def RtV(W:RC)(fr:Bool)(M:Es)(H H2:Hp)(r:PV)(v:V):Prop:=if fr=true then RFr W (λa=>M a\/H a=none) H H2 r v else Rep W (λa=>M a\/H a=none) H2 r v
def Cy(W:RC)(fr:Bool)(M:Es)(H:Hp)(Q:VK)(E:XK):Out PV->Prop
 |.ok r=>∀v b,zA H b->RtV W fr M H b r v->Q v b
 |.exc c fs=>∀e d f b,zA H b->b e=some (XC e (W.cls c) d)->b d=some (XD d f)->vA W (λa=>M a\/H a=none) b fs f->E (.ref e) (some d) b
 |.wall=>False
def lsp(W:RC)(fr:Bool)(ws:Ew)(g:EJ):Sp:=λb H Q E=>∃M a,wc W M H ws a b/\Cy W fr M H Q E (g a)
def sv{W:RC}{fr:Bool}{ws:Ew}{g:EJ}{n:Nat}(h:ws.length=n):∀b H Q E,lsp W fr ws g b H Q E->b.length=n:=λb H Q E ⟨M,c,a,_⟩=>a.len.1.trans h
def RFr.sub(h:RFr W M H H2 x v)(s:∀a,M a->M' a):RFr W M' H H2 x v:=by obtain⟨p,e,hp,h⟩:=h;exact⟨p,e,hp,h.gen rfl Fr.refl λa m _=>⟨s a m.1,m.2⟩⟩
section
variable {X:Cx}{C:LC}{S:Eo}{e a b o:Ey}{es:Ex}{w fr:Bool}{ws:Ew}{m:ME}{ms:MA}{pos p:Pos}{x:Str}{k:Nat}{f:Addr}{fd:EL}{ps:EB}{g:EJ}
def fU(R:Rel C.W B S P H σ ρ)(q:XPo C B c fs):∀e h es d,zA H d->d e=some (XC e (C.W.cls c) h)->d h=some (XD h es)->vA C.W (λa=>Mof B S P a\/H a=none) d fs es->C.E (.ref e) (some h) d:=
 λe h es d s l i j=>q e h es d (R.same.trans s) l i (j.sub λa m _=>m.elim (λm=>m.1.1) λn=>.inr (zA.none R.same n))
def xN{B:Bs}{P:ED}{H:Hp}{h:St}{ρ:Sto}{Q:VK}{o:Out PV}(R:Rel C.W B S P H h ρ)(q:zX C B H (RV C B S P false) Q o):Cy C.W fr (Mof B S P) H Q C.E o:=by
 have sM:∀a,(Mof B S P a\/H a=none)->Mof B S P a:=λa m=>m.elim id λn=>R.new a n;cases o with
 |ok r=>
  intro v i s d;refine q v i s (RV.of ?_);unfold RtV at d;cases fr with
  |true=>rw[if_pos rfl]at d;exact(d.sub sM).rep R.new
  |false=>rw[if_neg F6]at d;exact d.sub λa m _=>sM a m
 |exc c fs=>exact fU R q
 |wall=>exact q
def sx{B:Bs}{P:ED}{H:Hp}{h:St}{ρ:Sto}{Q:VK}{o:Out PV}(R:Rel C.W B S P H h ρ)(q:zX C B H (RFr C.W (Mof B S P) H) Q o):Cy C.W true (Mof B S P) H Q C.E o:=by
 have sM:∀a,(Mof B S P a\/H a=none)->Mof B S P a:=λa m=>m.elim id λn=>R.new a n;cases o with
 |ok r=>intro v i s d;unfold RtV at d;rw[if_pos rfl]at d;exact q v i s (d.sub sM)
 |exc c fs=>exact fU R q
 |wall=>exact q
def aP(F:qY X.prog X.w X.K X.mg X.base (CXe X.prog X.w) k f fd ps (lsp C.W fr ws g))(t:wI k X.A)(i:Gl X x)(G:X.mg x=some (.ref f))(z:keepIn X.K (.ref f)=true)(A:Binds X.K fd ps [])(y:Passes (CXe X.prog X.w) X C.E)(v:AM X C S ws (e::es) ms)
  (c:(x==("__debug__":Str))=false:=by decide) (he:starEach (e::es) X.env=(false,eval e X.env)::starEach es X.env:=by rfl) (d:(backTo pos (starEach es X.env)).any (·.1)=false:=by rfl):EM X C S false (.Call (.Name x p) (e::es) [] pos) (zg g ms):=λs=>by
 obtain⟨I,E,j⟩:=v s;refine⟨_,ao F t i G z A .nil y E c he d,λB P H h u R Q q=>j B P H h u R _ (qA q λD K J n r l=>?_)⟩;rw[O7];exact⟨_,D,r.args,xN (R.keep n) l⟩
def vg(F:qY X.prog X.w X.K X.mg X.base (CXe X.prog X.w) k f fd ps (lsp C.W true ws g))(t:wI k X.A)(i:Gl X x)(G:X.mg x=some (.ref f))(z:keepIn X.K (.ref f)=true)(A:Binds X.K fd ps [])(y:Passes (CXe X.prog X.w) X C.E)(v:AM X C S ws (e::es) ms)
  (c:(x==("__debug__":Str))=false:=by decide) (he:starEach (e::es) X.env=(false,eval e X.env)::starEach es X.env:=by rfl) (d:(backTo pos (starEach es X.env)).any (·.1)=false:=by rfl):FM X C S (.Call (.Name x p) (e::es) [] pos) (zg g ms):=λs=>by
 obtain⟨I,E,j⟩:=v s;refine⟨_,ao F t i G z A .nil y E c he d,λB P H h u R Q q=>j B P H h u R _ (KD q λD K J n r l=>?_)⟩;rw[O7];exact⟨_,D,r.args,sx (R.keep n) l⟩
def aQ(d:Eo)(f:Str)(m:ME):ME:=λh=>(m h).bind λx=>match x with
 |.o c fs=>if c∈d then wJ (fs.lookup f)else .wall
 |_=>.wall
def KG(h:EM X C S w e m)(l:∀c∈cs,Cls X.K (C.W.cls c)/\j7 X.K (C.W.cls c) fn)(E:attributeBase e fn X.env (eval e X.env)=eval e X.env:=by rfl):EM X C S false (.Attribute e fn pos) (aQ cs fn m):=λz=>by
 obtain⟨I,F,s⟩:=h z;refine⟨_,ou F E,λB P H n D R Q q=>s B P H n D R _ (yV q λx v j G u d=>?_)⟩;cases x with
 |o c fs=>
  obtain⟨p,r,es,rfl,_,hp,hf⟩:=u;by_cases i:c∈cs
  .have d:zX C B j (RV C B S P false) Q (if c∈cs then wJ (fs.lookup fn)else .wall):=d;rw[if_pos i]at d;obtain⟨y,e,d⟩:=yN d;obtain⟨v,t,A⟩:=hf.lookup e;exact⟨p,_,r,es,v,rfl,hp,(l c i).1,(l c i).2,t,d v j (zA.refl _) (RV.of A)⟩
  .have d:zX C B j (RV C B S P false) Q (if c∈cs then wJ (fs.lookup fn)else .wall):=d;rw[if_neg i]at d;exact d.elim
 |_=>exact d.elim
inductive Kd where
 |int|str|bool|none|list|tuple|dict|obj (c:Nat)|exc (c:Nat)
 deriving DecidableEq
def kd:PV->Option Kd
 |.i _=>some .int | .s _=>some .str | .b _=>some .bool | .n=>some .none | .l _=>some .list | .t _=>some .tuple | .d _=>some .dict | .o c _=>some (.obj c) | .x c _=>some (.exc c)
 |.sc _=>Option.none
 |.dt _=>Option.none
def tyK(W:RC):Kd->Value
 |.int=>.type "int" | .str=>.type "str" | .bool=>.type "bool" | .none=>.type "NoneType" | .list=>.type "list" | .tuple=>.type "tuple" | .dict=>.type "dict" | .obj c=>.ref (W.cls c) | .exc c=>.ref (W.cls c)
def Bx(W:RC):Kd->Prop
 |.obj c=>Cls W.K (W.cls c)/\findIn W.K (.ref (W.cls c)) "__class__"=some (some (.builtin "object.__class__"))/\specialIn W.K (.builtin "object.__class__") "__get__"=some (some (.builtin "getset_descriptor.__get__"))/\takesIn W.K (.builtin "object.__class__")=some true/\mroIn W.K (W.cls c) (.type "object")=some true
 |.exc c=>XN W.K (W.cls c)/\XIs W.K (W.cls c)
 |_=>True
def fV(W:RC)(f:Fz):List (Kd×Bool)->Prop
 |[]=>True
 |q::r=>(Bx W q.1/\f (tyK W q.1)=some q.2)/\fV W f r
def fV.get{W:RC}{f:Fz}:∀{c:List (Kd×Bool)}{k:Kd}{b:Bool},fV W f c->c.lookup k=some b->Bx W k/\f (tyK W k)=some b
 |[],_,_,_,h=>by cases h
 |q::r,k,b,t,h=>by
  rw[O3]at h;by_cases e:(k==q.1)=true
  .simp only[e]at h;cases h;rw[N6.mp e];exact t.1
  .simp only[e]at h;exact fV.get t.2 h
def Du(c:List (Kd×Bool))(x:PV):Out PV:=wJ (((kd x).bind λk=>c.lookup k).map PV.b)
def D9(W:RC)(f:Fz)(c:V):List V->Hp->VK->Prop:=λd H Q=>∃(M:Es)(x:PV)(v:V)(k:Kd)(b:Bool),d=[v,c]/\yp W (λ_=>True) M H x v/\kd x=some k/\Bx W k/\f (tyK W k)=some b/\Q (.bl b) H
def xO{B:Ep}{Q:St}{H:Hp}{s:Eu}{W:RC}{N M:Es}{x:PV}{v:V}{u:Value}{k:Kd}(E:X.K=W.K)(I:Inv X B Q H s)(h:yp W N M H x v)(r:RelV v u)(j:kd x=some k)(ok:Bx W k):∃P,KitX X.K u (tyK W k) P/\P s.heap/\u≠.builtin "__main__.__loader__#opaque":=by
 cases x with
 |i a=>cases j;exact ax I r (.inl (by rw[(show v=_ from h)];exact .int a))
 |s a=>cases j;exact ax I r (.inl (by rw[(show v=_ from h)];exact .str a))
 |b a=>cases j;exact ax I r (.inl (by rw[(show v=_ from h)];exact .bl a))
 |n=>cases j;exact ax I r (.inl (by rw[(show v=_ from h)];exact .non))
 |l a=>cases j;obtain⟨p,L,rfl,_,q,_⟩:=h;exact ax I r (.inl (.lst q))
 |t a=>cases j;obtain⟨p,L,rfl,q,_⟩:=h;cases(show u=Value.ref p from r);rw[<- E]at q;obtain⟨U,_,⟨o,D,F,_⟩,_⟩:=I.tuple q;exact⟨_,kitx_tuple,⟨o,D,F⟩,λz=>nomatch z⟩
 |d a=>cases j;obtain⟨p,L,rfl,_,q,_⟩:=h;cases(show u=Value.ref p from r);obtain⟨_,_,ws,_,R⟩:=vf I.hok q;obtain⟨o,es,Y,D,F,_⟩:=R;exact⟨_,kitx_dict,⟨o,D,F.1⟩,λz=>nomatch z⟩
 |o c a=>cases j;obtain⟨p,G,es,rfl,_,q,_⟩:=h;obtain⟨A,y,O,J,K⟩:=ok;rw[<- E]at A y O J K;exact ax I r (.inl (.ins q A y O J K))
 |x c a=>cases j;obtain⟨p,G,es,rfl,q,T,_⟩:=h;obtain⟨A,y⟩:=ok;rw[<- E]at A y;exact ax I r (.inr ⟨p,_,G,es,rfl,rfl,A,y,.inl q,T⟩)
 |sc a=>cases j
 |dt a=>cases j
def my(hK:X.K=W.K)(hc:Cj cv=some cl):vz X (.builtin "isinstance") (D9 W (λt=>kitOne W.K t cl) cv):=by intro pins s σ H xs us Q I r h;obtain⟨M,x,v,k,b,rfl,hx,hk,ok,hb,q⟩:=h;obtain⟨u,c,rfl,rx,rc⟩:=vals2 r;obtain⟨P,kx,hP,hne⟩:=xO hK I hx rx hk ok;rw[l7 rc hc];rw[<- hK]at hb;exact O1 (n:=X.m) (by ac_rfl)<|kia_one kx I.kIn hP hb hne λtk hn=>⟨.bl b,H,I.tok _ hn,rfl,q⟩
def xP(s:Gl X "isinstance")(K:X.mg "isinstance"=none)(h:EM X C S w e m)(D:PE X ce (tC cv))(d:Cj cv=some cl)(G:fV C.W (λt=>kitOne C.W.K t cl) tab)
  (he:starEach [e,ce] X.env=[(false,eval e X.env),(false,eval ce X.env)]:=by rfl) (c:starEach [ce] X.env=[(false,eval ce X.env)]:=by rfl):EM X C S false (.Call (.Name "isinstance" p) [e,ce] [] pos) (mUn (Du tab) m):=λl=>by
 obtain⟨M,J,u⟩:=h l;refine⟨_,WD (my l d) s K PyProof.Rows.boot_isinstance (ve J (ve D YL c) (by rw[he,c])) (by decide) (by decide) (by rw[he,c]) (by rw[c];rfl),λB P H n E R Q q=>u B P H n E R _ (yV q λx v F L A i=>?_)⟩;obtain⟨z,r,i⟩:=yN i;obtain⟨b,j,rfl⟩:=v2.mp r;obtain⟨k,I,j⟩:=L6.mp j;obtain⟨ok,y⟩:=G.get j;exact⟨_,x,v,k,b,rfl,A.weak,I,ok,y,i _ F (zA.refl _) (RV.of rfl)⟩
end
def mz(C:LC)(B:Bs)(H:Hp)(x:PV)(v:V):Prop:=if C.fr=true then RFr C.W B.Mt B.H0 H x v else Rep C.W B.Mt H x v
def kH(C:LC)(B:Bs)(S' Sb Sc:Eo)(D:Ends):Out Fw->Prop
 |.ok (.nx d)=>∀e b a,Rel C.W B S' e b a d->D.nx a b
 |.ok (.rt x)=>∀v b,zA B.H0 b->mz C B b x v->D.rt v b
 |.ok (.bk d)=>∀e b a,Rel C.W B Sb e b a d->D.bk a b
 |.ok (.ct d)=>∀e b a,Rel C.W B Sc e b a d->D.ct a b
 |.exc c fs=>XPo C B c fs
 |.wall=>False
def LS(C:LC)(S S' Sb Sc:Eo)(ts:TS)(m:MS):Prop:=∀B P H a b,Rel C.W B S P H a b->∀D,kH C B S' Sb Sc D (m b)->ts D a H
def SM(X:Cx)(C:LC)(S S' Sb Sc:Eo)(st:Fh)(m:MS):Prop:=X.K=C.W.K->∃a,PS X st a/\LS C S S' Sb Sc a m
def SsM(X:Cx)(C:LC)(S S' Sb Sc:Eo)(st:Fd)(m:MS):Prop:=X.K=C.W.K->∃a,PSs X st a/\LS C S S' Sb Sc a m
def yI:MS:=λa=>.ok (.nx a)
def yj(a b:MS):MS:=λd=>(a d).bind λf=>match f with
 |.nx c=>b c
 |.rt x=>.ok (.rt x)
 |.bk c=>.ok (.bk c)
 |.ct c=>.ok (.ct c)
def yW(i:Nat)(m:ME):MS:=λa=>(m a).bind λx=>.ok (.nx (a.set i (some x)))
def Uk(m:ME):MS:=λa=>(m a).bind λ_=>.ok (.nx a)
def kc(m:ME):MS:=λa=>(m a).bind λx=>.ok (.rt x)
def sIf(t:MT)(a b:MS):MS:=λd=>(t d).bind λc=>if c=true then a d else b d
section
variable {X:Cx}{C:LC}{S S' S1 Sb Sc:Eo}{e a o:Ey}{w:Bool}{m:ME}{t1:MT}{s1 s2:MS}{pos p pos':Pos}{x:Str}{st:Fh}{sts stt:Fd}{i:Nat}
def yK:SsM X C S S Sb Sc [] yI:=λ_=>⟨_,af,λB P H c d R D q=>q P H c R⟩
def xQ(v:LS C S S1 Sb Sc t s1)(r:LS C S1 S' Sb Sc u s2):LS C S S' Sb Sc (BM t u) (yj s1 s2):=λB P H l h R D q=>by
 refine v B P H l h R _ ?_;unfold yj at q;revert q;cases s1 h with
 |ok f=>
  cases f with
  |nx d=>exact λq s n g j=>r B s n g d j D q
  |rt x=>exact id
  |bk d=>exact id
  |ct d=>exact id
 |exc c fs=>exact id
 |wall=>exact id
def zk(h:SM X C S S1 Sb Sc st s1)(g:SsM X C S1 S' Sb Sc sts s2):SsM X C S S' Sb Sc (st::sts) (yj s1 s2):=λc=>by obtain⟨t,j,d⟩:=h c;obtain⟨u,f,l⟩:=g c;exact⟨_,bJ j f,xQ d l⟩
def zz(f:SM X C S S' Sb Sc st s1):SsM X C S S' Sb Sc [st] s1:=λc=>by obtain⟨t,g,d⟩:=f c;exact⟨_,WC g,d⟩
def mB(i:Nat)(l:S1[i]?=some 2)(q:kH C B (S1.set i 0) Sb Sc D f):kH C B S1 Sb Sc D f:=by
 cases f with
 |ok f=>
  cases f with
  |nx d=>exact λn j g h=>q n j g (h.freeze l)
  |rt x=>exact q
  |bk d=>exact q
  |ct d=>exact q
 |exc c fs=>exact q
 |wall=>exact q
def QZ(i:Nat)(h:SsM X C S S1 Sb Sc sts s1)(g:S1[i]?=some 2:=by rfl):SsM X C S (S1.set i 0) Sb Sc sts s1:=λc=>by obtain⟨t,l,d⟩:=h c;exact⟨t,l,λB P H f j R D q=>d B P H f j R D (mB i g q)⟩
def xR(h:LE C S false te m):LS C S (S.set i 0) Sb Sc (oj te (VP i)) (yW i m):=λB P H f d R D q=>by
 refine h B P H f d R _ ?_;unfold yW at q;revert q;cases m d with
 |ok x=>exact λq v g s r=>q P g _ ((R.keep s).set r.rep)
 |exc c fs=>exact id
 |wall=>exact id
def oU(j:X.N.Nodup)(g:X.N[i]?=some x)(n:Loc X.env.scope x)(h:EM X C S false e m)(f:swapsWith e (some (.Name x pos')) pos.line X.env=pure false:=by rfl)(hf:X.fn x=true\/X.env.scope.names.lookup x=some .local:=by first|exact .inl rfl|exact .inr rfl|assumption):
  SM X C S (S.set i 0) Sb Sc (.Assign [.Name x pos'] e pos) (yW i m):=λc=>by
 obtain⟨q,l,d⟩:=h c;exact⟨_,eU j g n l f hf,xR d⟩
def fW(h:LFr C S te m)(g:i<S.length)(l:i≠0):LS C S (S.set i 2) Sb Sc (oj te (VP i)) (yW i m):=λB P H f d R D q=>by
 refine h B P H f d R _ ?_;unfold yW at q;revert q;cases m d with
 |ok x=>exact λq v j s ⟨p,e,hp,r⟩=>by subst e;exact q _ j _ (R.D5 s hp g l r)
 |exc c fs=>exact id
 |wall=>exact id
def jK(l:X.N.Nodup)(j:X.N[i]?=some x)(r:Loc X.env.scope x)(h:FM X C S e m)(f:i<S.length:=by decide)(n:i≠0:=by decide)(g:swapsWith e (some (.Name x pos')) pos.line X.env=pure false:=by rfl)(hf:X.fn x=true\/X.env.scope.names.lookup x=some .local:=by first|exact .inl rfl|exact .inr rfl|assumption):
  SM X C S (S.set i 2) Sb Sc (.Assign [.Name x pos'] e pos) (yW i m):=λc=>by
 obtain⟨s,q,d⟩:=h c;exact⟨_,eU l j r q g hf,fW d f n⟩
def WQ(h:EM X C S w e m)(l:swapsWith e none pos.line X.env=pure false:=by rfl):SM X C S S Sb Sc (.Expr e pos) (Uk m):=λg=>by
 obtain⟨u,t,j⟩:=h g;refine⟨_,QV t l,λB P H d f R D q=>j B P H d f R _ ?_⟩;unfold Uk at q;revert q;cases m f with
 |ok x=>exact λq v n s r=>q P n d (R.keep s)
 |exc c fs=>exact id
 |wall=>exact id
def yt(h:EM X C S false e m)(hf:C.fr=false:=by rfl):SM X C S S' Sb Sc (.Return (some e) pos) (kc m):=λf=>by
 obtain⟨t,n,g⟩:=h f;refine⟨_,bK n,λB P H j d R D q=>g B P H j d R _ ?_⟩;unfold kc at q;revert q;cases m d with
 |ok x=>exact λq v l s r=>q v l (R.same.trans s) (by unfold mz;rw[hf,if_neg F6];exact r.rep.sub λa m _=>m.1.1)
 |exc c fs=>exact id
 |wall=>exact id
def sA(h:FM X C S e m)(hf:C.fr=true:=by rfl):SM X C S S' Sb Sc (.Return (some e) pos) (kc m):=λf=>by
 obtain⟨t,n,g⟩:=h f;refine⟨_,bK n,λB P H j d R D q=>g B P H j d R _ ?_⟩;unfold kc at q;revert q;cases m d with
 |ok x=>exact λq v l s r=>q v l (R.same.trans s) (by
   unfold mz;rw[if_pos hf];obtain⟨p,e,hp,r⟩:=r;exact⟨p,e,zA.none R.same hp,r.gen rfl Fr.refl λa m _=>⟨m.1.1.1,m.2⟩⟩)
 |exc c fs=>exact id
 |wall=>exact id
def fX(h:PE X e (ZN i))(d:S[i]?=some 2:=by rfl)(hf:C.fr=true:=by rfl):SM X C S S' Sb Sc (.Return (some e) pos) (kc (zc i)):=λn=>by
 refine⟨_,bK h,λB P H r l R D q=>?_⟩;unfold kc zc at q;cases c:l[i]? with
 |none=>rw[c]at q;exact q.elim
 |some o=>
  cases o with
  |none=>rw[c]at q;exact q.elim
  |some y=>rw[c]at q;obtain⟨v,j,g,_,_⟩:=R.var i y c;obtain⟨rfl,f⟩:=g d;refine⟨_,j,q _ H R.same ?_⟩;unfold mz;rw[if_pos hf];exact⟨P i,rfl,(R.act i d).1,f.gen rfl Fr.refl λa m _=>⟨m.1.1,λz=>m.2 i d z.symm⟩⟩
def qZ(h:TM X C S c t1)(n:SsM X C S S' Sb Sc sts s1)(v:SsM X C S S' Sb Sc stt s2):SM X C S S' Sb Sc (.If c sts stt pos) (sIf t1 s1 s2):=λg=>by
 obtain⟨F,A,l⟩:=h g;obtain⟨t,z,y⟩:=n g;obtain⟨u,r,E⟩:=v g;refine⟨_,uW A z r,λB P H f d R D q=>l B P H f d R _ ?_⟩;unfold sIf at q;revert q;cases t1 d with
 |ok k=>
  intro q j s;cases k with
  |true=>exact lY (y B P j f d (R.keep s) D q)
  |false=>exact lX (E B P j f d (R.keep s) D q)
 |exc c fs=>exact id
 |wall=>exact id
def Rel.at2(R:Rel W B S P H σ ρ)(f:S[i]?=some 2)(e:ρ[i]?=some (some y)):σ[i]?=some (some (.ref (P i)))/\Kw W (Mof B S P) H (P i) y/\i<ρ.length:=by obtain⟨v,g,d,_,_⟩:=R.var i y e;obtain⟨rfl,c⟩:=d f;exact⟨g,c,(E7.mp e).1⟩
def Mof.wr{W:RC}{B:Bs}{P:ED}{H:Hp}{d:St}{ρ:Sto}{o:HO}(R:Rel W B S P H d ρ)(c:S[i]?=some 2):Fr (Mof B S P) H (upd H (P i) o):=λa q e m=>by
 obtain⟨_,h,f,g⟩:=R.act i c;have:a≠P i:=λz=>by
  rcases m with m|m
  .exact m.2 i c z.symm
  .rw[z,f]at e;cases e;exact g m
 rw[zh this];exact e
def uH(i:Nat)(m:ME):MS:=λc=>match c[i]? with
 |some (some (.l d))=>(m c).bind λy=>if d.length<sizeLine then .ok (.nx (c.set i (some (.l (d++[y])))))else .wall
 |_=>.wall
def Ul(I:PE X o (ZN i))(h:EM X C S false e m)(l:S[i]?=some 2:=by rfl)(F:attributeBase o "append" X.env (eval o X.env)=eval o X.env:=by rfl)
  (K:((backTo p (starEach [e] X.env)).all (λx=>!x.1)&&(backToKw p (keywordEach [] X.env)).all (λx=>x.1.isSome)&&decide ([e].length+([]:List Keyword).length+(if([]:List Keyword).isEmpty then 0 else 1)<30))=true:=by rfl)
  (E:(qo.endLine==p.line)=true:=by rfl) (t:starEach [e] X.env=[(false,eval e X.env)]:=by rfl) (g:swapsWith (.Call (.Attribute o "append" qo) [e] [] p) none pos.line X.env=pure false:=by rfl):
  SM X C S S Sb Sc (.Expr (.Call (.Attribute o "append" qo) [e] [] p) pos) (uH i m):=λJ=>by
 obtain⟨O,N,G⟩:=h J;refine⟨_,QV (rL a16 a1U a1V Kq I (ve N YL t) F K E t rfl) g,λB P H n j R D q=>?_⟩;unfold uH at q;split at q
 .rename_i A L;obtain⟨d,⟨z,hp,u⟩,M⟩:=R.at2 l L;refine⟨_,d,.inl ⟨rfl,_,SqL.of hp⟩,G B P H n j R _ ?_⟩;revert q;cases m j with
  |ok y=>
   intro q v Q s r;have q:kH C B S Sb Sc D (if A.length<sizeLine then .ok (.nx (j.set i (some (.l (A++[y])))))else .wall):=q;split at q
   .rename_i hz;have R2:=R.keep s;refine⟨_,z,v,rfl,rfl,s _ _ hp,by rw[u.len];exact hz,q P _ n (R2.wr l M d (by exact id) ?_)⟩;have f:=Mof.wr (o:=.lst (z++[v])) R2 l;exact⟨_,zd,((u.same s).append (.cons r.rep .nil)).gen f λ_ m _=>m⟩
   .exact q.elim
  |exc c fs=>exact id
  |wall=>exact id
 .exact q.elim
def dput{κ d:Type}[DecidableEq κ](kvs:List (κ×d))(k:κ)(v:d):List (κ×d):=
 if kvs.any (λc=>decide (c.1=k))=true then kvs.map (λc=>if c.1=k then(c.1,v)else c)else kvs++[(k,v)]
end
def yG.put(h:yG W M H a c)(l:Rep W M H x v):yG W M H (dput a k x) (putK c k v):=by
 have g:∀{a:EA}{c:Et},yG W M H a c->a.any (λb=>decide (b.1=k))=c.any (λb=>decide (b.1=k))/\yG W M H (a.map λb=>if b.1=k then(b.1,x)else b) (c.map λb=>if b.1=k then(b.1,v)else b)/\yG W M H (a++[(k,x)]) (c++[(k,v)]):=by
  intro a
  induction a with
  |nil=>intro c h;cases(show _=_ from h);exact⟨rfl,rfl,v,[],rfl,l,rfl⟩
  |cons n a o=>
   intro c h;obtain⟨u,q,rfl,j,m⟩:=h;obtain⟨i,d,f⟩:=o m;refine⟨by rw[R4,R4,i],?_,⟨u,_,rfl,j,f⟩⟩;rw[F3,F3];by_cases e:n.1=k
   .rw[if_pos e,if_pos e];exact⟨v,_,rfl,l,d⟩
   .rw[if_neg e,if_neg e];exact⟨u,_,rfl,j,d⟩
 obtain⟨i,d,f⟩:=g h;unfold dput putK;rw[i];split
 .exact d
 .exact f
section
variable {X:Cx}{C:LC}{S Sb Sc:Eo}{e a o:Ey}{es:Ex}{w:Bool}{m m1 m2:ME}{pos pos':Pos}{i:Nat}
def cf(i:Nat)(mk f:ME):MS:=λd=>(f d).bind λv=>match d[i]? with
 |some (some (.d c))=>(mk d).bind λy=>match pk y with
  |some k=>if c.length<sizeLine then .ok (.nx (d.set i (some (.d (dput c k v)))))else .wall
  |none=>.wall
 |_=>.wall
def Wc(W:X.A.units+1<cLine)(K:PE X o (ZN i))(t:EM X C S w a m1)(L:EM X C S false e m2)(A:S[i]?=some 2:=by rfl)(G:swapsWith e (some (.Subscript o a pos')) pos.line X.env=pure false:=by rfl):
  SM X C S S Sb Sc (.Assign [.Subscript o a pos'] e pos) (cf i m1 m2):=λF=>by
 obtain⟨Z,Y,J⟩:=t F;obtain⟨tv,U,O⟩:=L F;refine⟨_,fb W K Y U G,λB P H l h R D q=>O B P H l h R _ ?_⟩;unfold cf at q;revert q;cases m2 h with
 |ok y=>
  intro q v N r M;have s:=R.keep r;have q:kH C B S Sb Sc D (match h[i]? with
   |some (some (.d d))=>(m1 h).bind λz=>match pk z with
    |some k=>if d.length<sizeLine then .ok (.nx (h.set i (some (.d (dput d k y)))))else .wall
    |none=>.wall
   |_=>.wall):=q
  split at q
  .rename_i d Q;obtain⟨j,⟨es,hp,E⟩,T⟩:=s.at2 A Q;refine⟨_,j,J B P N l h s _ ?_⟩;revert q;cases m1 h with
   |ok z=>
    intro q u H2 g I;have R2:=s.keep g;have q:kH C B S Sb Sc D (match pk z with
     |some k=>if d.length<sizeLine then .ok (.nx (h.set i (some (.d (dput d k y)))))else .wall
     |none=>.wall):=q
    split at q
    .rename_i k t;split at q
     .rename_i hz;have n:=g _ _ hp;refine⟨_,_,rfl,by rw[YQ I.weak t];exact oF.k n (by rw[yG.len E];exact hz),q P _ l (R2.wr A T j (by exact id) ?_)⟩;have f:=Mof.wr (o:=.dK (putK es k v)) R2 A;exact⟨_,zd,((E.same g).put (M.rep.same g)).gen f λ_ m _=>m⟩
     .exact q.elim
    .exact q.elim
   |exc c fs=>exact id
   |wall=>exact id
  .exact q.elim
 |exc c fs=>exact id
 |wall=>exact id
end
section
variable {X:Cx}{C:LC}{S S' S1 Sb Sc:Eo}{e a b:Ey}{es:Ex}{m:ME}{pos p:Pos}{x:Str}{i:Nat}
abbrev MG:=PV->Sto->Option Sto
def LG(C:LC)(S S':Eo)(g:TG)(j:MG):Prop:=∀B P H f h x v,Rel C.W B S P H f h->Rep C.W (Mof B S P) H x v->∀Q:St->Hp->Prop,(∃d,j x h=some d/\∀c,Rel C.W B S' P H c d->Q c H)->g v f H Q
def GM(X:Cx)(C:LC)(S S':Eo)(d:Ey)(c:MG):Prop:=X.K=C.W.K->∃g,PG X d g/\LG C S S' g c
def gNm(i:Nat):MG:=λx c=>some (c.set i (some x))
def qP(d:X.N.Nodup)(c:X.N[i]?=some x)(g:Loc X.env.scope x)(hf:X.fn x=true\/X.env.scope.names.lookup x=some .local:=by first|exact .inl rfl|exact .inr rfl|assumption):GM X C S (S.set i 0) (.Name x pos) (gNm i):=
 λ_=>⟨_,ag d c g hf,λB P H h j x v R r Q ⟨f,e,k⟩=>by cases e;exact k _ (R.set r)⟩
abbrev MGs:=List PV->Sto->Option Sto
def LGs(C:LC)(S S':Eo)(g:TGs)(n:MGs):Prop:=∀B P H f j h l,Rel C.W B S P H f j->yy C.W (Mof B S P) H h l->∀Q:St->Hp->Prop,(∃d,n h j=some d/\∀c,Rel C.W B S' P H c d->Q c H)->g l f H Q
def GsM(X:Cx)(C:LC)(S S':Eo)(c:Ex)(d:MGs):Prop:=X.K=C.W.K->∃g,PGs X c g/\LGs C S S' g d
def sC:MGs:=λc d=>match c with
 |[]=>some d
 |_=>none
def wQ(g:MG)(d:MGs):MGs:=λf h=>match f with
 |x::r=>(g x h).bind λc=>d r c
 |[]=>none
def oV:GsM X C S S [] sC:=λ_=>⟨_,eS,λB P H f g c h R r Q ⟨d,e,k⟩=>by
 cases c with
 |nil=>cases e;cases(show _=_ from r);exact⟨rfl,k _ R⟩
 |cons x c=>cases e⟩
def Mof.le{B:Bs}{S S':Eo}{P:ED}(h:∀j:Nat,S'[j]?=some 2->S[j]?=some 2){a:Addr}(m:Mof B S P a):Mof B S' P a:=⟨m.1,λj c=>m.2 j (h j c)⟩
def vh(I:GM X C S S1 e g)(J:GsM X C S1 S' es gs)(G:∀j:Nat,S1[j]?=some 2->S[j]?=some 2)(D:(assignEach (e::es) X.env).map (·.2)=assign e X.env::(assignEach es X.env).map (·.2):=by rfl):GsM X C S S' (e::es) (wQ g gs):=λq=>by
 obtain⟨t,M,E⟩:=I q;obtain⟨u,L,K⟩:=J q;refine⟨_,bL M L D,λB P H z n f N R r Q ⟨c,e,k⟩=>?_⟩;cases f with
 |nil=>cases e
 |cons x f=>
  obtain⟨v,s,rfl,A,F⟩:=r;have e:(g x n).bind (λc=>gs f c)=some c:=e;cases l:g x n with
  |none=>rw[l]at e;cases e
  |some d=>rw[l]at e;exact⟨v,s,rfl,E B P H z n x v R A _ ⟨d,l,λh y=>K B P H h d f s y (F.sub λa m _=>Mof.le G m) Q ⟨c,e,k⟩⟩⟩
def gTp(n:Nat)(d:MGs):MG:=λx f=>match x with
 |.t c=>if c.length=n then d c f else none
 |_=>none
def oW(z:X.calm=true)(h:GsM X C S S' es gs)(hn:(assignEach es X.env).length=n:=by rfl)(g:(assignEach es X.env).findIdx? (·.1)=none:=by rfl):GM X C S S' (.Tuple es k pos) (gTp n gs):=λl=>by
 obtain⟨t,A,y⟩:=h l;refine⟨_,oi z A hn g,λB P H u q x v R r Q ⟨c,e,k⟩=>?_⟩;cases x with
 |t d=>
  obtain⟨p,s,rfl,hp,j⟩:=r;have e:(if d.length=n then gs d q else none)=some c:=e;by_cases f:d.length=n
  .rw[if_pos f]at e;exact⟨p,s,rfl,l▸hp,by rw[j.len];exact f,y B P H u q d s R j Q ⟨c,e,k⟩⟩
  .rw[if_neg f]at e;cases e
 |_=>cases e
def By(g:MG)(m:ME):MS:=λd=>(m d).bind λx=>(wJ (g x d)).bind λc=>.ok (.nx c)
def oX(h:EM X C S false e m)(F:GM X C S S' tg g)(E:swapsWithSole [tg] e pos.line X.env=pure false:=by rfl)(L:swappedStores [tg] e X.env=pure none:=by rfl)(I:(assignEach [tg] X.env).map (·.2)=[assign tg X.env]:=by rfl):SM X C S S' Sb Sc (.Assign [tg] e pos) (By g m):=λy=>by
 obtain⟨N,M,G⟩:=h y;obtain⟨t,K,J⟩:=F y;refine⟨_,eT M K E L I,λB P H u f R D q=>G B P H u f R _ ?_⟩;unfold By at q;revert q;cases m f with
 |ok x=>
  intro q v z s r;have q:kH C B S' Sb Sc D ((wJ (g x f)).bind λl=>.ok (.nx l)):=q;cases d:g x f with
  |some n=>rw[d]at q;exact J B P z u f x v (R.keep s) r.rep _ ⟨n,d,λj A=>q P z j A⟩
  |none=>rw[d]at q;exact q.elim
 |exc c fs=>exact id
 |wall=>exact id
def NA(B:Bs)(S:Eo)(P:ED):Addr->Prop:=λa=>¬B.xc a/\∀i,S[i]?=some 2->P i≠a
def uI(W:RC)(M N:Es)(H2:Hp)(J:It)(xs:EO):Prop:=∀d,Fr N H2 d->
 (∀i x,xs[i]?=some x->J.go i d/\∀v c,J.yld i d v c->zA d c/\∀f:Addr->Prop,(∀a,M a->H2 a≠none->f a)->Rep W f c x v)/\J.stop xs.length d
abbrev MI:=Sto->Out (List PV)
def NAc(c:Bool)(B:Bs)(S:Eo)(P:ED):Addr->Prop:=if c=true then λ_=>True else NA B S P
def mD(C:LC)(B:Bs)(S:Eo)(P:ED)(c:Bool)(H:Hp)(R:It->Hp->Prop):Out (List PV)->Prop
 |.ok f=>∀J d,zA H d->uI C.W (Mof B S P) (NAc c B S P) d J f->R J d
 |.exc c fs=>XPo C B c fs
 |.wall=>False
def LI(C:LC)(S:Eo)(c:Bool)(g:TI)(mi:MI):Prop:=∀B P H d f,Rel C.W B S P H d f->∀R:It->Hp->Prop,mD C B S P c H R (mi f)->g d H R
def IM(X:Cx)(C:LC)(S:Eo)(c:Bool)(g d:Ey)(mi:MI):Prop:=X.K=C.W.K->∃f,PI X g d f/\LI C S c f mi
def JU(g:MG)(b:MS):List PV->Sto->Out Fw
 |[],h=>.ok (.nx h)
 |x::j,h=>(wJ (g x h)).bind λd=>(b d).bind λf=>match f with
  |.nx c=>JU g b j c
  |.ct c=>JU g b j c
  |.bk c=>.ok (.nx c)
  |.rt v=>.ok (.rt v)
def wR(mi:MI)(g:MG)(b:MS):MS:=λc=>(mi c).bind λd=>JU g b d c
end
open Classical in
def Bs.loop(B:Bs)(S:Eo)(P:ED)(H:Hp)(hz:∀a,B.N0 a->(¬((∃i,S[i]?=some 2/\P i=a)\/B.xc a))/\H a≠none):Bs where
 H0:=λa=>if(∃i,S[i]?=some 2/\P i=a)\/B.xc a then none else H a
 M0:=B.Mt
 N0:=B.N0
 nz:=λa h=>by rw[if_neg (hz a h).1];exact(hz a h).2
 pin:=B.pin
 xc:=B.xc
section
variable {W:RC}{B:Bs}{S S':Eo}{P P':ED}{H H':Hp}{σ σ':St}{ρ ρ':Sto}
def Rel.hz(R:Rel W B S P H σ ρ):∀a,B.N0 a->(¬((∃i,S[i]?=some 2/\P i=a)\/B.xc a))/\H a≠none:=λa h=>by
 have b:=B.nz a h;refine⟨λz=>z.elim (λ⟨i,c,e⟩=>b (e▸(R.act i c).1)) (λz=>b (R.exc a z).choose_spec.2.2),λz=>?_⟩;cases q:B.H0 a with
 |none=>exact b q
 |some o=>rw[R.same a o q]at z;cases z
def YT(R:Rel W B S P H σ ρ)(h:(B.loop S P H R.hz).H0 a=none):B.H0 a=none:=by
 cases q:B.H0 a with
 |none=>rfl
 |some o=>have n:¬((∃i,S[i]?=some 2/\P i=a)\/B.xc a):=λz=>z.elim (λ⟨i,b,e⟩=>by rw[<- e,(R.act i b).1]at q;cases q) (λz=>by rw[(R.exc a z).choose_spec.2.2]at q;cases q);unfold Bs.loop at h;dsimp only at h;rw[if_neg n,R.same a o q]at h;cases h
def wU(R:Rel W B S P H σ ρ):zA B.H0 (B.loop S P H R.hz).H0:=λa o h=>by have n:¬((∃i,S[i]?=some 2/\P i=a)\/B.xc a):=λz=>z.elim (λ⟨i,b,e⟩=>by rw[<- e,(R.act i b).1]at h;cases h) (λz=>by rw[(R.exc a z).choose_spec.2.2]at h;cases h);unfold Bs.loop;dsimp only;rw[if_neg n];exact R.same a o h
def Q0(R:Rel W B S P H σ ρ)(h:(B.loop S P H R.hz).Mt a):B.Mt a:=h.elim id λz=>.inr (YT R z)
def Rel.loop(R:Rel W B S P H σ ρ):Rel W (B.loop S P H R.hz) S P H σ ρ:=by
 have sM:∀a,Mof B S P a->H a≠none->Mof (B.loop S P H R.hz) S P a:=λa m _=>⟨⟨.inl m.1.1,m.1.2⟩,m.2⟩;refine⟨λa o h=>?_,R.len,λi x e=>?_,λi c=>⟨?_,(R.act i c).2⟩,R.inj,R.pin,λa h=>?_,R.axc⟩
 .unfold Bs.loop at h;dsimp only at h;split at h
  .cases h
  .exact h
 .obtain⟨v,g,b,d,j⟩:=R.var i x e;exact⟨v,g,λz=>⟨(b z).1,(b z).2.gen rfl Fr.refl sM⟩,λz=>(d z).sub (λ_ m _=>m) sM,λz f=>(j z f).sub sM⟩
 .unfold Bs.loop;dsimp only;rw[if_pos (.inl ⟨i,c,rfl⟩)]
 .obtain⟨o,e,n,_⟩:=R.exc a h;exact⟨o,e,n,by unfold Bs.loop;dsimp only;rw[if_pos (.inr h)]⟩
def Rel.Jo(R:Rel W B S P H σ ρ)(b:Rel W (B.loop S P H R.hz) S' P' H' σ' ρ'):Rel W B S' P' H' σ' ρ':=by have sM:∀a,Mof (B.loop S P H R.hz) S' P' a->H' a≠none->Mof B S' P' a:=λa m _=>⟨⟨Q0 R m.1.1,m.1.2⟩,m.2⟩;refine⟨(wU R).trans b.same,b.len,λi x e=>?_,λi d=>⟨YT R (b.act i d).1,(b.act i d).2⟩,b.inj,b.pin,λa h=>let⟨o,e,n⟩:=b.exc a h;⟨o,e,n.1,YT R n.2⟩,b.axc⟩;obtain⟨v,j,c,f,l⟩:=b.var i x e;exact⟨v,j,λz=>⟨(c z).1,(c z).2.gen rfl Fr.refl sM⟩,λz=>(f z).sub (λ_ m _=>m) sM,λz g=>(l z g).sub sM⟩
def sE(R:Rel W B S P H σ ρ)(s:zA (B.loop S P H R.hz).H0 H'):Fr (NA B S P) H H':=λa o h m=>by
 have n:¬((∃i,S[i]?=some 2/\P i=a)\/B.xc a):=λz=>by
  rcases z with⟨i,d,e⟩|z
  .rcases m with m|m
   .exact m.2 i d e
   .obtain⟨_,f,b,c⟩:=R.act i d;rw[e,h]at b;cases b;exact c m
  .rcases m with m|m
   .exact m.1 z
   .obtain⟨f,b,c,_⟩:=R.exc a z;rw[h]at b;cases b;exact c m
 refine s a o ?_;unfold Bs.loop;dsimp only;rw[if_neg n];exact h
def WR(hW:C.W=W)(R:Rel W B S P H σ ρ)(q:XPo C B c fs):XPo C (B.loop S P H R.hz) c fs:=λe f g h s i b d=>q e f g h ((wU R).trans s) i b (d.sub λa m _=>Q0 R m)
def aR(hW:C.W=W)(R:Rel W B S P H σ ρ)(h:mz C (B.loop S P H R.hz) H' x v):mz C B H' x v:=by
 unfold mz at h ⊢;by_cases f:C.fr=true
 .rw[if_pos f]at h ⊢;obtain⟨p,e,hp,r⟩:=h;exact⟨p,e,YT R hp,r.gen rfl Fr.refl λa m _=>⟨Q0 R m.1,m.2⟩⟩
 .rw[if_neg f]at h ⊢;exact h.sub λa m _=>Q0 R m
end
def YU(hi:∀R:It->Hp->Prop,mD C B S P false H R (mi ρ)->wi σ H R)(U:LG C S S1 g mg)(hb:LS C S1 S S S tb mb)(R:Rel C.W B S P H σ ρ)(D:Ends)(q:kH C B S Sb Sc D (wR mi mg mb ρ)):om wi g tb D σ H:=by
 refine hi _ ?_;unfold wR at q;revert q;cases mi ρ with
 |exc c fs=>exact id
 |wall=>exact id
 |ok o=>
  intro q J O s2 io;have R2:=R.keep s2;have q:kH C B S Sb Sc D (JU mg mb o ρ):=q;refine⟨λi n r M=>n=o.length-i/\i<=o.length/\∃l t,Rel C.W (B.loop S P O R2.hz) S t M r l/\kH C B S Sb Sc D (JU mg mb (o.drop i) l),⟨_,rfl,P4 _,ρ,P,R2.loop,q⟩,?_⟩
  rintro i n r M ⟨rfl,hle,l,t,L,d⟩
  have E:=io M (sE R2 L.same);by_cases s:i<o.length
  .have hx:o[i]?=some o[i]:=E1 s;obtain⟨go,yl⟩:=E.1 i _ hx;refine .inr ⟨go,λA G=>i+1<=o.length/\∃l t,Rel C.W (B.loop S P O R2.hz) S t G A l/\kH C B S Sb Sc D (JU mg mb (o.drop (i+1)) l),λA G h=>⟨o.length-(i+1),by omega,rfl,h.1,h.2⟩,λv w hy=>?_⟩;obtain⟨Z,ry⟩:=yl v w hy;have T:=L.keep Z;have Q:=ry (Mof (B.loop S P O R2.hz) S t) λa m hn=>⟨⟨.inl m.1.1,m.1.2⟩,λj Y e=>by
    have z:=(L.act j Y).1;rw[e]at z;unfold Bs.loop at z;dsimp only at z;rw[if_neg (λz=>z.elim (λ⟨k,hk,X⟩=>m.2 k hk X) m.1.2)]at z;exact hn z⟩
   rw[W1 s]at d;have d:kH C B S Sb Sc D ((wJ (mg o[i] l)).bind λp=>(mb p).bind λf=>match f with
    |.nx b=>JU mg mb (o.drop (i+1)) b
    |.ct b=>JU mg mb (o.drop (i+1)) b
    |.bk b=>.ok (.nx b)
    |.rt v=>.ok (.rt v)):=d
   cases u:mg o[i] l with
   |none=>rw[u]at d;exact d.elim
   |some p=>
    rw[u]at d;refine U _ t w r l _ v T Q _ ⟨p,u,λN R1=>hb _ t w N p R1 _ ?_⟩;have d:kH C B S Sb Sc D ((mb p).bind λf=>match f with
     |.nx b=>JU mg mb (o.drop (i+1)) b
     |.ct b=>JU mg mb (o.drop (i+1)) b
     |.bk b=>.ok (.nx b)
     |.rt v=>.ok (.rt v)):=d
    revert d;cases mb p with
    |exc c fs=>exact λd=>WR rfl R2 d
    |wall=>exact id
    |ok f=>
     cases f with
     |nx b=>exact λd I K y F=>⟨s,b,I,F,d⟩
     |ct b=>exact λd I K y F=>⟨s,b,I,F,d⟩
     |bk b=>exact λd I K y F=>d I K y (R2.Jo F)
     |rt x=>exact λd v K W h3=>d v K ((wU R2).trans W) (aR rfl R2 h3)
  .have e:i=o.length:=by omega
   subst e;rw[a1W]at d;exact .inl ⟨E.2,d t M r (R2.Jo L)⟩
def xS(c:LI C S false wi mi)(e:LG C S S1 g mg)(a:LS C S1 S S S tb mb):LS C S S Sb Sc (om wi g tb) (wR mi mg mb):=λB P H b d R D q=>YU (c B P H b d R) e a R D q
def oY(hp:PassesOwn (FK X) X.A X.env X.xe)(e:X.calm=true)(i:IM X C S false tg iter mi)(j:GM X C S S1 tg mg)(b:SsM X C S1 S S S body mb)(d:∀x,foldedSetIterable iter X.env x=pure x:=by intro _;rfl):
  SM X C S S Sb Sc (.For tg iter body [] pos) (wR mi mg mb):=λa=>by
 obtain⟨o,l,c⟩:=i a;obtain⟨g,f,n⟩:=j a;obtain⟨p,h,m⟩:=b a;exact⟨_,Kn hp e l f h d,xS c n m⟩
def LEn(C:LC)(S:Eo)(c:TE)(m:ME):Prop:=∀B P H a b,Rel C.W B S P H a b->∀Q,zX C B H (λd=>yp C.W (NA B S P) (Mof B S P) d) Q (m b)->c a H Q
def EN(X:Cx)(C:LC)(S:Eo)(e:Ey)(m:ME):Prop:=X.K=C.W.K->∃a,PE X e a/\LEn C S a m
section
variable {X:Cx}{C:LC}{S:Eo}{e a b o tg:Ey}{w:Bool}{ws:Ew}{m:ME}{ms:MA}{s1:MS}{pos p:Pos}{x:Str}{i:Nat}
def Mof.na{B:Bs}{P:ED}{a:Addr}(m:Mof B S P a):NA B S P a:=⟨m.1.2,m.2⟩
def xT(h:PE X e (ZN i))(l:S[i]?=some 1:=by rfl):EN X C S e (zc i):=λ_=>⟨_,h,λB P H s u R Q q=>lv R q λx v g e=>by
 obtain⟨t,c,_,r,_⟩:=R.var i x e;rw[g]at c;cases c;refine yp.sub (r l) (λa n _=>?_) λ_ m _=>m;have d:=B.nz a n;exact⟨λz=>d (R.exc a z).choose_spec.2.2,λj f e=>d (e▸(R.act j f).1)⟩⟩
def Dv(K:Fc)(g:TE):TI:=λf H R=>g f H λx c=>(∃a,x=.ref a/\(∃d,SqL K c a d)/\R (Itl K a) c)\/∃a,x=.ref a/\(∃d,SqT K c a d)/\R (Itt K a) c
def cg(z:PE X l tl):PI X tg l (Dv X.K tl):=by
 intro f s t H R I h;refine thn (z f s t H _ I h) λv s1 ⟨x,r,c,n,u⟩=>?_;rcases u with⟨a,e,⟨A,g⟩,q⟩|⟨a,e,⟨A,g⟩,q⟩
 .subst e;cases n;obtain⟨d,y,p,hz⟩:=c.list g;refine a0w p.isList ?_;refine⟨s1.heap.objs.size,[s1.heap.objs.size],_,_,r,rfl,c.kept (t':=s1.toks) λb o e=>v4 _ e,eV a _,⟨_,G5 _ rfl,rfl,rfl⟩,λb j=>?_,q⟩;have e:b=s1.heap.objs.size:=by simpa using j
  subst e;exact c.Bo (E5 _) (c.hok.fresh (E5 _))
 .subst e;cases n;obtain⟨d,y,p,hz⟩:=c.tuple g;refine wpAny_pyIter_tuple (show s1.heap.IsTuple a d.toArray from p) ?_;refine⟨s1.heap.objs.size,[s1.heap.objs.size],_,_,r,rfl,c.kept (t':=s1.toks) λb o e=>v4 _ e,dF a _,⟨_,G5 _ rfl,rfl,rfl⟩,λb j=>?_,q⟩;have e:b=s1.heap.objs.size:=by simpa using j
  subst e;exact c.Bo (E5 _) (c.hok.fresh (E5 _))
def fY{W:RC}{K:Fc}{M N:Es}{H2:Hp}{a:Addr}{xs:EO}{vs:EH}(d:∀a,M a->N a)(h:∀c,Fr N H2 c->SqL K c a vs)(r:yy W M H2 xs vs):uI W M N H2 (Itl K a) xs:=λc f=>by refine⟨λi x s=>?_,vs,h c f,by rw[r.len];exact E5 _⟩;obtain⟨v,g,j⟩:=r.get s;refine⟨⟨vs,v,h c f,g⟩,λt l q=>?_⟩;obtain⟨rfl,y⟩:=q;have:=y vs (h _ f);rw[g]at this;cases this;exact⟨zA.refl _,λu sM=>Rep.gen (λa o h m=>f a o h (m.imp (d a) id)) (λa m n=>sM a m n) j⟩
def xU{W:RC}{K:Fc}{M N:Es}{H2:Hp}{a:Addr}{xs:EO}{vs:EH}(d:∀a,M a->N a)(h:∀c,Fr N H2 c->SqT K c a vs)(r:yy W M H2 xs vs):uI W M N H2 (Itt K a) xs:=λc f=>by refine⟨λi x s=>?_,vs,h c f,by rw[r.len];exact E5 _⟩;obtain⟨v,g,j⟩:=r.get s;refine⟨⟨vs,v,h c f,g⟩,λt l q=>?_⟩;obtain⟨rfl,y⟩:=q;have:=y vs (h _ f);rw[g]at this;cases this;exact⟨zA.refl _,λu sM=>Rep.gen (λa o h m=>f a o h (m.imp (d a) id)) (λa m n=>sM a m n) j⟩
def items:PV->Out (List PV)
 |.l c=>.ok c
 |.t c=>.ok c
 |.sc d=>.ok (d.map PV.i)
 |_=>.wall
def wd(m:ME):MI:=λc=>(m c).bind items
variable {cc:Bool}
def Mof.nac{B:Bs}{P:ED}{a:Addr}(m:Mof B S P a):NAc cc B S P a:=by
 unfold NAc;cases cc with
 |true=>rw[if_pos rfl];trivial
 |false=>rw[if_neg F6];exact Mof.na m
def fZ(A:X.K=C.W.K)(D:∀B P H h g,Rel C.W B S P H h g->∀Q,zX C B H (λd=>yp C.W (NAc cc B S P) (Mof B S P) d) Q (m g)->te h H Q):LI C S cc (Dv X.K te) (wd m):=λB P H h g R Q q=>by
 refine D B P H h g R _ ?_;unfold wd at q;revert q;cases m g with
 |exc c fs=>exact id
 |wall=>exact id
 |ok y=>
  intro q v d s r;cases y with
  |l F=>obtain⟨p,j,rfl,n,hp,u⟩:=r;exact .inl ⟨p,rfl,⟨j,SqL.of hp⟩,q _ d s (fY (λa m=>Mof.nac m) (λz f=>SqL.of (f _ _ hp (.inl n))) u)⟩
  |t F=>obtain⟨p,j,rfl,hp,u⟩:=r;rw[<- A]at hp;exact .inr ⟨p,rfl,⟨j,hp⟩,q _ d s (xU (λa m=>Mof.nac m) (λz f=>f.sqT hp) u)⟩
  |sc E=>obtain⟨p,rfl,hp⟩:=r;rw[<- A]at hp;exact .inl ⟨p,rfl,⟨_,hp.sq⟩,q _ d s (fY (vs:=E.map V.int) (λa m=>Mof.nac m) (λz f=>(hp.frame f).sq) yy.ints)⟩
  |_=>exact q.elim
def xV(h:EN X C S e m):IM X C S false tg e (wd m):=λc=>by obtain⟨g,d,f⟩:=h c;exact⟨_,cg d,fZ c f⟩
def f6(h:EM X C S w e m):IM X C S true tg e (wd m):=λc=>by obtain⟨l,g,f⟩:=h c;exact⟨_,cg g,fZ c λB P H d j R Q q=>f B P H d j R Q (Ky q λx v n s r=>r.weak)⟩
def eN(c:Int)(n:Nat):List PV:=(List.range n).map λk=>.i (c+(k:Nat))
def sF{f:Int}{n i:Nat}{x:PV}(h:(eN f n)[i]?=some x):i<n/\x=.i (f+i):=by unfold eN at h;rw[G9]at h;obtain⟨k,c,rfl⟩:=v2.mp h;rw[E7]at c;obtain⟨d,g⟩:=c;rw[O0]at d;rw[a04]at g;subst g;exact⟨d,rfl⟩
def sG{c:Int}{n:Nat}:(eN c n).length=n:=by unfold eN;rw[u8,O0]
def xW{W:RC}{M N:Es}{H2:Hp}{c:Int}{n:Nat}:uI W M N H2 (Itr c n) (eN c n):=λl f=>by refine⟨λi x j=>?_,by rw[sG];exact E5 _⟩;obtain⟨d,rfl⟩:=sF j;refine⟨d,λv g h=>?_⟩;obtain⟨rfl,rfl⟩:=h;exact⟨zA.refl _,λ_ _=>rfl⟩
def f7:List PV->Out (List PV)
 |[.i n]=>if -(2 ^ 62)<=n/\n<2 ^ 62 then .ok (eN 0 n.toNat)else .wall
 |_=>.wall
def WS(ms:MA):MI:=λc=>(ms c).bind f7
def KH(h:Gl X "range")(D:X.mg "range"=none)(u:AM X C S ws [a] ms)(g:starEach [a] X.env=[(false,eval a X.env)]:=by rfl):IM X C S cc tg (.Call (.Name "range" p) [a] [] pos) (WS ms):=λl=>by
 obtain⟨F,A,j⟩:=u l;refine⟨_,eW h D A g,λB P H f d R Q q=>j B P H f d R _ ?_⟩;unfold WS at q;revert q;cases ms d with
 |exc c fs=>exact id
 |wall=>exact id
 |ok z=>
  intro q G t s r;have r:=r.weak;have q:mD C B S P cc H Q (f7 z):=q;unfold f7 at q;split at q
  .split at q
   .rename_i hn;obtain⟨v,E,rfl,y,n⟩:=r;cases(show _=_ from n);cases(show _=_ from y);exact⟨_,rfl,hn.1,hn.2,q _ t s xW⟩
   .exact q.elim
  .exact q.elim
end
def noX{a:Type}:Out a->Out a
 |.exc _ _=>.wall
 |o=>o
def lcP(g:MG)(c:MT)(e:ME):List PV->Sto->List PV->Out PV
 |[],_,a=>.ok (.l a)
 |x::d,f,a=>(wJ (g x f)).bind λb=>(noX (c b)).bind λt=>if t=true then(noX (e b)).bind λy=>if a.length<sizeLine then lcP g c e d b (a++[y])else .wall else lcP g c e d b a
def Q1(ρ:Sto)(fr:EI):Sto:=fr.map λo=>match o with|none=>none|some j=>(ρ[j]?).join
def mLC(mi:MI)(fr:EI)(g:MG)(c:MT)(e:ME):ME:=λa=>(mi a).bind λb=>lcP g c e b (Q1 a fr) []
def f9:MT:=λ_=>.ok true
def inS(S:Eo)(fr:EI):List Nat:=fr.map λo=>match o with|none=>0|some j=>if S[j]?=some 2\/S[j]?=some 1 then 1 else 0
def lcB(B:Bs)(S:Eo)(P:ED)(H:Hp)(acc:Addr):Bs:=⟨H,Mof B S P,λa=>H a≠none,λ_ h=>h,none,λa=>a=acc⟩
def f_{S:Eo}{fr:EI}{k c:Nat}(h:(inS S fr)[k]?=some c):c≠2:=by
 unfold inS at h;rw[G9]at h;obtain⟨o,a,e⟩:=v2.mp h;intro z;rw[z]at e;cases o with
 |none=>cases e
 |some j=>dsimp only at e;split at e<;>cases e
section
variable {X:Cx}{C:LC}{S S1:Eo}{e a o iter tg elt:Ey}{ifs:Ex}{w:Bool}{m me:ME}{t1 mc:MT}{mg:MG}{mi:MI}{s1:MS}{pos:Pos}{x:Str}{i:Nat}{scope:Scope}
def Rel.comp{W:RC}{B:Bs}{P:ED}{H H':Hp}{g:St}{ρ:Sto}{acc:Addr}{fr:EI}{ys:EH}(R:Rel W B S P H g ρ)(A:H acc=none)(s:zA H H')(L:H' acc=some (.lst ys)):Rel W (lcB B S P H acc) (inS S fr) (λ_=>0) H' (i9 g fr) (Q1 ρ fr):=by
 have f:∀{k:Nat},(inS S fr)[k]?=some 2->False:=λ{k} h=>f_ h rfl;have sM:∀a,Mof B S P a->H a≠none->Mof (lcB B S P H acc) (inS S fr) (λ_=>0) a:=λa m n=>⟨⟨.inl m,λz=>n ((show a=acc from z)▸A)⟩,λi d=>(f d).elim⟩;refine⟨s,by unfold i9 Q1;rw[u8,u8],λk x e=>?_,λi d=>(f d).elim,λi j d=>(f d).elim,λd=>(f d).elim,λa h=>?_,λi d=>(f d).elim⟩
 .unfold Q1 at e;rw[G9]at e;obtain⟨o,t,e⟩:=v2.mp e;cases o with
  |none=>cases e
  |some j=>
   have e:(ρ[j]?).join=some x:=e;have D:ρ[j]?=some (some x):=by
    cases q:ρ[j]? with
    |none=>rw[q]at e;cases e
    |some z=>rw[q]at e;cases z with
     |none=>cases e
     |some z=>cases e;rfl
   obtain⟨v,F,J,K,G⟩:=R.var j x D;have u:(inS S fr)[k]?=some (if S[j]?=some 2\/S[j]?=some 1 then 1 else 0):=by unfold inS;rw[G9,t];rfl
   refine⟨v,by unfold i9;rw[G9,t];show some ((g[j]?).join)=_;rw[F];rfl,λz=>(f z).elim,λz=>?_,λz l=>?_⟩
   .rw[u]at z;by_cases r:S[j]?=some 2
    .obtain⟨rfl,I⟩:=J r;obtain⟨_,o,E,_⟩:=R.act j r;exact((I.Bq (N:=λa=>H a≠none) (by rw[E];intro z;cases z)).sub (λ_ m _=>m) sM).same s
    .by_cases y:S[j]?=some 1
     .exact((K y).sub (λa n q=>(R.hz a n).2) sM).same s
     .rw[if_neg (by rintro(q|q);exact r q;exact y q)]at z;cases z
   .rw[u]at l;by_cases c:S[j]?=some 2\/S[j]?=some 1
    .rw[if_pos c]at l;exact absurd rfl l
    .exact((G (λq=>c (.inl q)) (λq=>c (.inr q))).sub sM).same s
 .cases(show a=acc from h);exact⟨_,L,id,A⟩
def TsM(X:Cx)(C:LC)(S:Eo)(ifs:Ex)(m:MT):Prop:=X.K=C.W.K->∃c,PTs X ifs c/\LT C S c m
def Jp:TsM X C S [] f9:=λ_=>⟨_,fA,λB P H c d R Q q=>q H (zA.refl _)⟩
def gb(h:TM X C S c t1):TsM X C S [c] t1:=λd=>let⟨tt,a1,a2⟩:=h d;⟨tt,rW a1,a2⟩
def WT{l:Type}{Y:l->Cx}(h:∀z,EM (Y z) C S w e m)(f:∀z,(Y z).K=C.W.K):∃g,(∀z,PE (Y z) e g)/\LE C S w g m:=
 ⟨λc H Q=>∀z,(Classical.choose (h z (f z))) c H Q,λz d s c H Q I q=>(S6 (h z (f z))).1 d s c H Q I (q z),λB P H c j R Q q z=>(S6 (h z (f z))).2 B P H c j R Q q⟩
def WU{l:Type}{Y:l->Cx}(h:∀z,TsM (Y z) C S ifs mc)(f:∀z,(Y z).K=C.W.K):∃g,(∀z,PTs (Y z) ifs g)/\LT C S g mc:=
 ⟨λc H Q=>∀z,(Classical.choose (h z (f z))) c H Q,λz d s c H Q I q=>(S6 (h z (f z))).1 d s c H Q I (q z),λB P H c j R Q q z=>(S6 (h z (f z))).2 B P H c j R Q q⟩
def WV{j:Type}{Y:j->Cx}(h:∀z,GM (Y z) C S S1 tg mg)(f:∀z,(Y z).K=C.W.K):∃g,(∀z,PG (Y z) tg g)/\LG C S S1 g mg:=
 ⟨λv c H Q=>∀z,(Classical.choose (h z (f z))) v c H Q,λz d s c H v u Q I r q=>(S6 (h z (f z))).1 d s c H v u Q I r (q z),λB P H c l x v R r Q q z=>(S6 (h z (f z))).2 B P H c l x v R r Q q⟩
def KI{wi:TI}{g:TG}{tc:TT}{te:TE}{fr:EI}{Z:Eo}{W:RC}{B:Bs}{P:ED}{H:Hp}{σ:St}{ρ:Sto}(hi:∀R:It->Hp->Prop,mD C B S P true H R (mi ρ)->wi σ H R)(hW:W=C.W)(hS:Z=inS S fr)(hg:LG ⟨W,E0,false⟩ Z Z g mg)(ht:LT ⟨W,E0,false⟩ Z tc mc)(he:LE ⟨W,E0,false⟩ Z false te me)(R:Rel C.W B S P H σ ρ)(Q:VK)(q:zX C B H (RFr C.W (Mof B S P) H) Q (mLC mi fr mg mc me ρ)):tLC wi g tc te fr σ H Q:=by
 subst hW hS;refine hi _ ?_;unfold mLC at q;revert q;cases mi ρ with
 |exc c fs=>exact id
 |wall=>exact id
 |ok s=>
  intro q J K s1 io d ha;have R1:=R.keep s1;have q:zX C B H (RFr C.W (Mof B S P) H) Q (lcP mg mc me s (Q1 ρ fr) []):=q;have sM:∀a,Mof (lcB B S P K d) (inS S fr) (λ_=>0) a->Mof B S P a/\a≠d:=λa m=>⟨m.1.1.elim id λn=>R1.new a n,m.1.2⟩;refine⟨λi n M O=>n=s.length-i/\i<=s.length/\∃r A E,Rel C.W (lcB B S P K d) (inS S fr) (λ_=>0) O M r/\O d=some (.lst E)/\yy C.W (Mof (lcB B S P K d) (inS S fr) (λ_=>0)) O A E/\zX C B H (RFr C.W (Mof B S P) H) Q (lcP mg mc me (s.drop i) r A),
   ⟨_,rfl,P4 _,Q1 ρ fr,[],[],R1.comp ha (zA.upd ha) zd,zd,rfl,q⟩,?_⟩
  rintro i n M O ⟨rfl,hle,r,A,E,R',I,T,l⟩
  have io':=io O (zA.fr R'.same);by_cases F:i<s.length
  .have hx:s[i]?=some s[i]:=E1 F;obtain⟨go,yl⟩:=io'.1 i _ hx;refine .inr ⟨go,λY G=>i+1<=s.length/\∃r A E,Rel C.W (lcB B S P K d) (inS S fr) (λ_=>0) G Y r/\G d=some (.lst E)/\yy C.W (Mof (lcB B S P K d) (inS S fr) (λ_=>0)) G A E/\zX C B H (RFr C.W (Mof B S P) H) Q (lcP mg mc me (s.drop (i+1)) r A),λY G h=>⟨s.length-(i+1),by omega,rfl,h.1,h.2⟩,λv N hy=>?_⟩;obtain⟨sy,ry⟩:=yl v N hy;have Ry:=R'.keep sy;have rx:=ry (Mof (lcB B S P K d) (inS S fr) (λ_=>0)) λa m hn=>⟨⟨.inl m,λz=>hn ((show a=d from z)▸ha)⟩,λj hj=>(f_ hj rfl).elim⟩;rw[W1 F]at l;unfold lcP at l;cases L:mg s[i] r with
   |none=>rw[L]at l;exact l.elim
   |some f=>
    rw[L]at l;refine hg _ _ N M r _ v Ry rx _ ⟨f,L,λσ1 U=>ht _ _ N σ1 f U _ ?_⟩;have l:zX C B H (RFr C.W (Mof B S P) H) Q ((noX (mc f)).bind λt=>if t=true then(noX (me f)).bind λy=>if A.length<sizeLine then lcP mg mc me (s.drop (i+1)) f (A++[y])else .wall else lcP mg mc me (s.drop (i+1)) f A):=l;revert l;cases mc f with
    |exc c fs=>exact λl=>l.elim
    |wall=>exact id
    |ok t=>
     intro l H5 s5;have R5:=U.keep s5;have u:=s5 _ _ (sy _ _ I);have D:=(T.same sy).same s5;cases t with
     |false=>exact lX ⟨F,f,A,E,R5,u,D,l⟩
     |true=>
      refine lY (he _ _ H5 σ1 f R5 _ ?_);have l:zX C B H (RFr C.W (Mof B S P) H) Q ((noX (me f)).bind λy=>if A.length<sizeLine then lcP mg mc me (s.drop (i+1)) f (A++[y])else .wall):=l;revert l;cases me f with
      |exc c fs=>exact λl=>l.elim
      |wall=>exact id
      |ok y=>
       intro l v6 H6 s6 r6;have l:zX C B H (RFr C.W (Mof B S P) H) Q (if A.length<sizeLine then lcP mg mc me (s.drop (i+1)) f (A++[y])else .wall):=l;split at l
       .rename_i hz;have R6:=R5.keep s6;have fr6:Fr (Mof (lcB B S P K d) (inS S fr) (λ_=>0)) H6 (upd H6 d (.lst (E++[v6]))):=λa o h m=>by
         have:a≠d:=λz=>by
          rcases m with m|m
          .exact m.1.2 z
          .rw[z,s6 _ _ u]at h;cases h;exact m
         rw[zh this];exact h
        exact⟨E,s6 _ _ u,by rw[D.len];exact hz,F,f,A++[y],E++[v6],R6.wrx (show(lcB B S P K d).xc d from rfl) (by exact id),zd,((D.same s6).append (.cons r6.rep .nil)).gen fr6 λ_ m _=>m,l⟩
       .exact l.elim
  .have e:i=s.length:=by omega
   subst e;rw[a1W]at l;exact .inl ⟨io'.2,l _ O (s1.trans R'.same) ⟨d,rfl,zA.none s1 ha,E,I,T.sub λa m _=>sM a m⟩⟩
def Cz{f:TI}{g:TG}{h:TT}{d:TE}{fr:EI}{c:Eo}{W:RC}(l:LI C S true f mi)(hW:W=C.W)(n:c=inS S fr)(s:LG ⟨W,E0,false⟩ c c g mg)(t:LT ⟨W,E0,false⟩ c h mc)(he:LE ⟨W,E0,false⟩ c false d me):LFr C S (tLC f g h d fr) (mLC mi fr mg mc me):=λB P H j r R Q q=>KI (l B P H j r R) hW n s t he R Q q
abbrev CI:=List Addr×List (Addr×Obj)×Shared×Hp×Addr
abbrev cxI(X:Cx)(scope:Scope)(N:EB)(z:CI):Cx:=y4 X scope N z.1 z.2.1 z.2.2.1 z.2.2.2.1 z.2.2.2.2
def xX(N:EB)(fr:EI)(d:Eo)(v:X.calm=true)(j:eM X scope N fr=true)(E:IM X C S true tg iter mi)(q:∀z:CI,GM (cxI X scope N z) ⟨C.W,E0,false⟩ d d tg mg)(A:∀z:CI,TsM (cxI X scope N z) ⟨C.W,E0,false⟩ d ifs mc)(he:∀z:CI,EM (cxI X scope N z) ⟨C.W,E0,false⟩ d false elt me)(u:d=inS S fr:=by rfl)
  (l:∀x,foldedSetIterable iter X.env x=pure x:=by intro _;rfl):FM X C S (.ListComp elt [⟨tg,iter,ifs,0⟩] scope pos) (mLC mi fr mg mc me):=λh=>by
 obtain⟨K,F,t⟩:=E h;obtain⟨g,D,B⟩:=WV q λ_=>h;obtain⟨I,y,G⟩:=WU A λ_=>h;obtain⟨J,r,n⟩:=WT he λ_=>h;exact⟨_,l9 N fr v j F (λc f s H L=>D ⟨c,f,s,H,L⟩) (λc f s H L=>y ⟨c,f,s,H,L⟩) (λc f s H L=>r ⟨c,f,s,H,L⟩) l,Cz t rfl u B G n⟩
end
def QR(fr:Bool)(n:Nat)(ms:MS)(xs:EO):Out PV:=match ms (xs.map some++List.replicate (n-xs.length) none)with
 |.ok (.nx _)=>if fr=true then .wall else .ok .n
 |.ok (.rt x)=>.ok x
 |.ok (.bk _)=>.wall
 |.ok (.ct _)=>.wall
 |.exc c fs=>.exc c fs
 |.wall=>.wall
def Um(ws:Ew)(n:Nat):List Nat:=ws.map (λw=>if w=true then 1 else 0)++List.replicate (n-ws.length) 0
def gd{ws:Ew}{n k:Nat}:(Um ws n)[k]?≠some 2:=by
 unfold Um;rw[a1q];split
 .rw[G9];intro h;obtain⟨w,_,e⟩:=v2.mp h;split at e<;>cases e
 .rw[a0H];intro h;split at h<;>cases h
def wc.get{W:RC}{M:Es}{H:Hp}:∀{ws:Ew}{d:EO}{e:EH}{k:Nat}{x:PV},wc W M H ws d e->d[k]?=some x->∃v w,e[k]?=some v/\ws[k]?=some w/\yp W (if w=true then λ_=>True else M) M H x v
 |[],_,_,_,_,⟨a,b⟩,h=>by subst a;simp at h
 |w::ws,_,_,0,x,⟨y,v,g,i,a,b,f,c⟩,h=>by subst a;subst b;simp at h;subst h;exact⟨v,w,rfl,rfl,f⟩
 |w::ws,_,_,k+1,x,⟨y,v,g,i,a,b,f,c⟩,h=>by subst a;subst b;simp only[List.getElem?_cons_succ]at h ⊢;exact wc.get c h
def gf{xs:EO}{n k:Nat}{x:PV}(h:(xs.map some++List.replicate (n-xs.length) none)[k]?=some (some x)):xs[k]?=some x:=by
 rw[a1q]at h;split at h
 .rw[G9]at h;obtain⟨y,a,e⟩:=v2.mp h;cases e;exact a
 .rw[a0H]at h;split at h<;>cases h
def gh(H:Hp)(M:Es):Bs:=⟨H,M,λa=>H a≠none,λ_ h=>h,none,λ_=>False⟩
def gi(h:wc W M H ws xs vs)(hn:ws.length<=N.length):Rel W (gh H M) (Um ws N.length) (λ_=>0) H (start N vs) (xs.map some++List.replicate (N.length-xs.length) none):=by
 have c:∀{k:Nat},(Um ws N.length)[k]?=some 2->False:=λ{k} h=>gd h;have sM:∀a,M a->H a≠none->Mof (gh H M) (Um ws N.length) (λ_=>0) a:=λa m _=>⟨⟨.inl m,id⟩,λi b=>(c b).elim⟩;obtain⟨d,o⟩:=h.len;refine⟨zA.refl _,?_,λk x e=>?_,λi b=>(c b).elim,λi j b=>(c b).elim,λb=>(c b).elim,λa h=>h.elim,λi b=>(c b).elim⟩
 .unfold start;rw[F7,F7,u8,u8,a0q,a0q,d,o]
 .obtain⟨v,w,f,p,r⟩:=h.get (gf e);have l:k<vs.length:=(E7.mp f).1;have g:(Um ws N.length)[k]?=some (if w=true then 1 else 0):=by unfold Um;rw[M8 (by rw[u8,<- d];exact l),G9,p];rfl
  refine⟨v,?_,λz=>(c z).elim,λz=>?_,λ_ z=>?_⟩
  .unfold L2.start;rw[M8 (by rw[u8];exact l),G9,f];rfl
  .rw[g]at z;refine yp.sub r (λa _ n=>n) sM
  .rw[g]at z;cases w with
   |true=>exact absurd rfl z
   |false=>exact(yp.iff.mp r).sub sM
section
variable {P:Ez}{w:EF}{K:Fc}{mg:Er}{base:Heap}
def z5{x b:Str}{st:Fh}{f:Addr}{l:EL}{N j:EB}{k n:Nat}{W:RC}{fr:Bool}{ws:Ew}{ms:MS}{S' Sb Sc:Eo}(F:Fun K x b st f l)(S:zH N j (zt st))(hW:K=W.K)(U:ws.length=j.length)(C:N.length=n)(hn:ws.length<=n)
  (h:∀(d:Value)(A:EK)(a:List Env)(s:Eu)(H:Hp)(E:XK),wI k (A.deeper (envOfC b (zt st) s.heap.objs.size f d))->SsM (thr (eL (CXe P w) P w K mg base N b (zt st) f d A a s H E) E) ⟨W,E,fr⟩ (Um ws n) S' Sb Sc (wO st) ms):
  qY P w K mg base (CXe P w) (k+1) f l j (lsp W fr ws (QR fr n ms)):=by
 subst C;refine F.okX S (sv U) λd A a s H Y Q E J ⟨M,m,T,q⟩=>?_;obtain⟨B,p,G⟩:=h d A a s H E J hW;refine⟨B,p,G (gh H M) _ H _ _ (gi T hn) _ ?_⟩;unfold QR at q;revert q;cases ms (m.map some++List.replicate (N.length-m.length) none)with
 |exc c fs=>exact λq e u D R s I L O=>q e u D R s I L O
 |wall=>exact id
 |ok t=>
  cases t with
  |nx g=>
   intro q X i z o;cases fr with
   |true=>exact q.elim
   |false=>exact q .non i o.same rfl
  |rt y=>exact λq v i s r=>q v i s r
  |bk g=>exact λq=>q.elim
  |ct g=>exact λq=>q.elim
end
def CA(C:Addr)(fs:EB):Sp:=λc H Q _=>∃e b,c=.ref e::b/\b.length=fs.length/\H e=some (XO e C none .none)/\∀a,H a=none->Q .non (upd (upd H a (XD a (fs.zip b))) e (XO e C (some a) .none))
def cj(c:Nat)(a:EB)(ms:MA):MS:=λd=>(ms d).bind λb=>if b.length=a.length/\b.length<=1000 then .exc c (a.zip b)else .wall
def vA.zip{W:RC}{M:Es}{H:Hp}:∀{a:EB}{b:EO}{c:EH},yy W M H b c->b.length=a.length->vA W M H (a.zip b) (a.zip c)
 |[],[],_,h,_=>by cases(show _=_ from h);rfl
 |f::a,x::b,_,h,e=>by obtain⟨v,r,rfl,g,d⟩:=h;exact⟨v,_,rfl,g,vA.zip d (by simpa using e)⟩
 |[],_::_,_,_,e=>by cases e
 |_::_,[],_,_,e=>by cases e
def ck(L:X.calm=true)(M:XMk X.K (C.W.cls c) f)(G:XN X.K (C.W.cls c))(F:qY X.prog X.w X.K X.mg X.base (CXe X.prog X.w) k f fd ps (CA (C.W.cls c) fns))(O:wI (k+1) X.A)(I:Gl X x)(W:X.mg x=some (.ref (C.W.cls c)))(h:Binds X.K fd ps [])
  (Q:AM (thr X C.E) C S ws (e::es) ms) (T:ws.all (!·)=true:=by rfl) (i:(x==("__debug__":Str))=false:=by decide) (he:starEach (e::es) X.env=(false,eval e X.env)::starEach es X.env:=by rfl) (l:(backTo qr (starEach es X.env)).any (·.1)=false:=by rfl):
  SM (thr X C.E) C S S' Sb Sc (.Raise (some (.Call (.Name x p) (e::es) [] qr)) none pos) (cj c fns ms):=λs=>by
 obtain⟨E,U,J⟩:=Q s;refine⟨_,l6 L (l5 (X:=thr X C.E) M F O I W h zE U i he l),λB P H r t R D q=>?_⟩;show E r H _;refine J B P H r t R _ ?_;unfold cj at q;revert q;cases ms t with
 |exc c fs=>exact id
 |wall=>exact id
 |ok o=>
  intro q n u K N;have j:=N.Bt T;have q:kH C B S' Sb Sc D (if o.length=fns.length/\o.length<=1000 then .exc c (fns.zip o)else .wall):=q;split at q
  .rename_i hz;refine⟨by rw[j.len];exact hz.2,λy A=>⟨y,n,rfl,by rw[j.len];exact hz.1,zd,λg d=>⟨rfl,y,_,g,rfl,s▸G,zd,?_⟩⟩⟩;have v:g≠y:=λz=>by rw[z,zd]at d;cases d
   rw[zh v]at d;rw[QU];have w:zA u (upd (upd (upd u y (XO y (C.W.cls c) none .none)) g (XD g (fns.zip n))) y (XC y (C.W.cls c) g)):=λb q h=>by rw[zh (yx h A),zh (yx h d),zh (yx h A)];exact h
   exact q y g (fns.zip n) _ (R.same.trans (K.trans w)) zd (by rw[zh v,zd]) ((vA.zip j hz.1).gen w.fr λa m _=>m.1.1)
  .exact q.elim
def ZP{S:Eo}{i:Nat}:∀j:Nat,(S.set i 0)[j]?=some 2->S[j]?=some 2:=λ_ h=>(yM (c:=0) h).1
section
variable {X:Cx}{C:LC}{S:Eo}{pos:Pos}
def kI:ME:=λ_=>.ok (.d [])
def qQ:FM X C S (.Dict [] [] pos) kI:=λc=>⟨_,lP,λB P H d f R Q q=>λp hp=>q _ _ (zA.upd hp) (sr (xs:=[]) (vs:=[]) rfl hp)⟩
end
section
variable {α β:Type}
def jL{a:α}{f:α->Out β}:(Out.ok a).bind f=f a:=rfl
def Jq(c:-(2 ^ 64)<a)(d:a<2 ^ 64):ZI (.i a) (.i b)=.ok (.i (a*b)):=by show(if oq a b\/_ then _ else _)=_;rw[if_pos (.inl (.inl ⟨c,d⟩))]
def xY(c:0<b)(d:b<1073741824):fG (.i a) (.i b)=.ok (.i (a / b)):=by show(if uA a b then _ else _)=_;rw[if_pos ⟨c,d⟩]
def Uo(c:0<b):QX (.i a) (.i b)=.ok (.i (a % b)):=by show(if 0<b then _ else _)=_;rw[if_pos c]
def oZ(c:0<=b)(d:b<=1000000)(e:a.natAbs<2 ^ 64):WK (.i a) (.i b)=.ok (.i (a ^ b.toNat)):=by show(if uB a b then _ else _)=_;rw[if_pos ⟨c,d,e⟩]
def xZ:pIx (.l xs) (.i a)=wJ (atI xs a):=rfl
def vB{a:α}:wJ (some a)=.ok a:=rfl
def cm{xs:List α}(h:0<=k):atI xs k=xs[k.toNat]?:=by
 unfold atI ixN;rw[if_pos h];by_cases c:k<xs.length
 .rw[if_pos c];rfl
 .rw[if_neg c];symm;exact a00.mpr (by omega)
def Up:JU g b (x::xs) ρ=(wJ (g x ρ)).bind λc=>(b c).bind λf=>match f with
  |.nx a=>JU g b xs a
  |.ct a=>JU g b xs a
  |.bk a=>.ok (.nx a)
  |.rt v=>.ok (.rt v):=rfl
def WX{α:Type}[BEq α][LawfulBEq α][DecidableEq α]{a b:α}:(a==b)=decide (a=b):=by
 by_cases h:a=b
 .subst h;simp
 .simp[h]
def gj:j2 n (.i a) (.i b)=.ok (.b (xor n (decide (a=b)))):=by show Out.ok (PV.b (xor n (a==b)))=_;rw[WX]
def CB:j2 n (.b x) (.b y)=.ok (.b (xor n (decide (x=y)))):=by show Out.ok (PV.b (xor n (x==y)))=_;rw[WX]
def CC:j2 n (.l xs) (.l ys)=match sd (b7 7) xs ys with|some b=>.ok (.b (xor n b))|none=>.wall:=rfl
def z3{fr:Bool}{n:Nat}{ms:MS}{xs:EO}{x:PV}(h:ms (xs.map some++List.replicate (n-xs.length) none)=.ok (.rt x)):QR fr n ms xs=.ok x:=by unfold QR;rw[h]
def sH(h:s ρ=.ok (.nx ρ')):yj s t ρ=t ρ':=by unfold yj;rw[h];rfl
def qB(h:s ρ=.ok (.rt x)):yj s t ρ=.ok (.rt x):=by unfold yj;rw[h];rfl
end
def o_{b:Type}{a:b}:noX (.ok a)=.ok a:=rfl
theorem Q2{j:Type}{g:MG}{c:MT}{e:ME}(l:j->PV)(keep:j->Bool)(d:j->PV)(J:Sto->Prop):∀(i:List j)(f:Sto)(a:EO),J f->(∀x∈i,∀f,J f->∃b,g (l x) f=some b/\J b/\c b=.ok (keep x)/\(keep x=true->e b=.ok (d x)))->a.length+i.length<=100000->lcP g c e (i.map l) f a=.ok (.l (a++(i.filter keep).map d))
 |[],f,a,_,_,_=>by simp[lcP]
 |x::i,f,a,p,h,o=>by
  obtain⟨b,r,n,q,s⟩:=h x E9 f p;rw[E4]at o;rw[F3];unfold lcP;rw[r,vB,jL,q,o_,jL];cases m:keep x with
  |true=>rw[if_pos rfl,s m,o_,jL,if_pos (F5 (show a.length<100000 by omega) (by decide)),List.filter_cons_of_pos m,F3];rw[Q2 l keep d J i b (a++[d x]) n (λz hz=>h z (E3 _ hz)) (by rw[F7];show a.length+1+_<=_;omega),T3];rfl
  |false=>rw[if_neg F6,List.filter_cons_of_neg (by rw[m];exact F6)];exact Q2 l keep d J i b a n (λz hz=>h z (E3 _ hz)) (by omega)
def wV{i:Type}(j:i->PV)(f:i->PV)(J:Sto->Prop)(xs:List i)(ρ:Sto)(n:J ρ)(h:∀x∈xs,∀ρ,J ρ->∃d,g (j x) ρ=some d/\J d/\e d=.ok (f x))(m:xs.length<=100000):lcP g f9 e (xs.map j) ρ []=.ok (.l (xs.map f)):=by rw[Q2 (c:=f9) j (λ_=>true) f J xs ρ [] n (λx o ρ l=>let⟨d,a,b,c⟩:=h x o ρ l;⟨d,a,b,rfl,λ_=>c⟩) (by simpa using m)];rw[List.filter_eq_self.mpr λ_ _=>rfl];rfl
def Uq{α:Type}{f:α->Bool}{xs:List α}:fT (xs.map λx=>PV.b (f x))=some (xs.map f):=by
 have:=cb (ns:=xs.map f)
 rwa [F4]at this
def cn{a:Type}{f:a->Bool}{xs:List a}:oQ [.l (xs.map λx=>PV.b (f x))]=.ok (.b (xs.all f)):=by show wJ ((fT (xs.map λx=>PV.b (f x))).map _)=_;rw[Uq,a2i,vB,List.all_map];rfl
def pd{ns:EW}:uG [.l (ns.map PV.i)]=.ok (.i ns.sum):=by show wJ ((mx (ns.map PV.i)).map _)=_;rw[WO,a2i,vB]
end L2
namespace L2
open PySem
end L2
namespace L2
open PySem PySem.Spec PyProof.Rows PySem.W
section
variable {X:Cx}
theorem KJ:∀{a:EH}{b:EE},a.length=b.length->(∀(j:Nat) x u,a[j]?=some x->b[j]?=some u->RelV x u)->Vals a b
 |[],[],_,_=>.nil
 |x::a,u::b,c,h=>.cons (h 0 x u rfl rfl) (KJ (by simpa using c) λj y v d e=>h (j+1) y v (by simpa using d) (by simpa using e))
def cq(I:Inv X pins σ H s)(a:s.heap.objs.size<=l)(d:∀b o,s.heap.get? b=some o->h'.get? b=some o)
  (e:h'.get? l=some { cls:=.type "list",dict:=none,data:=.seq acc c,slots:=#[] }) (hz:ys.length<=sizeLine) (h:ys.length=acc.size) (g:∀(j:Nat) x u,ys[j]?=some x->acc[j]?=some u->RelV x u) (q:∀l,H l=none->Q (.ref l) (upd H l (.lst ys))) (m:X.m<=tk:=by ac_rfl):
  EP X pins σ Q (.ref l) { s with heap:=h',toks:=tk }:=
 ⟨.ref l,_,I.laid (t':=tk) d a (show y8 X.prog X.w _ h' _ (.lst ys)from⟨hz,acc.toList,c,KJ (by rw[a1s];exact h) (λj x u f i=>g j x u f (by simpa using i)),by rw[Array.toArray_toList];exact e⟩),rfl,q _ (I.hok.fresh a)⟩
end
def Inv.swap(I:Inv X pins σ H s)(h:H a=some u)(w:∀f,u≠.tup f)(A:∀o v,X.H₀ a≠some (.frz o v))(B:∀j,u≠.tbl j)(y:∀b,u≠.own b)(new:y8 X.prog X.w (upd H a u') s.heap a u'):Inv X pins σ (upd H a u') s:=by
 have i:∀b,H b=none->b≠a:=λb n z=>by rw[z,h]at n;cases n
 have m:∀b f,H b=some (.tup f)->b≠a:=λb f q z=>by rw[z,h]at q;cases q;exact w _ rfl
 have no:∀b c,H b=some (.own c)->b≠a:=λb c q z=>by rw[z,h]at q;cases q;exact y _ rfl
 have d:∀{b},b≠a->upd H a u' b=H b:=λz=>zh z;refine⟨I.ok,I.os,I.bare,⟨I.base.keep,I.base.slot,λb o q n C=>?_,I.base.there,λb f q=>?_,λb o v q=>?_,λb j q=>?_⟩,I.loc,I.cell,?_,λx c q=>?_,λp hp=>?_,λb v q=>?_,I.len,I.tk⟩
 .have:=I.base.free b o q n C;rw[d (i b this)];exact this
 .have:=I.base.oa b f q;rw[d (m b f this)];exact this
 .have g:b≠a:=λz=>A o v (z▸q);rw[d g];exact I.base.i6 b o v q
 .obtain⟨more,e⟩:=I.base.og b j q;have g:b≠a:=λz=>by rw[z,h]at e;cases e;exact B _ rfl
  exact⟨more,by rw[d g];exact e⟩
 .rw[d (i _ I.free)];exact I.free
 .rw[d (i _ (I.JZ x c q))];exact I.JZ x c q
 .obtain⟨D,l,t⟩:=I.pin p hp;exact⟨D,by rw[d (i _ l)];exact l,t⟩
 .by_cases g:b=a
  .subst g;rw[zd]at q;cases q;exact new
  .rw[d g]at q;exact(I.hok b v q).oh (λ_ _ _ r=>r) (λc r=>by rw[d (no c b r)];exact r) λc f r=>by rw[d (m c f r)];exact r
def Inv.cu(I:Inv X pins σ H s)(b:H a=some (.dK es)):∀o v,X.H₀ a≠some (.frz o v):=λo v q=>by have:=I.base.i6 a o v q;rw[b]at this;cases this
def Inv.CD(I:Inv X pins σ H s)(c:H a=some (.dK es)):∃o,Inv X pins σ (upd H a (.frz o (.dK es))) s:=by obtain⟨z,e,h,b,o,g,f,d,i⟩:=(show y8 X.prog X.w H s.heap a (.dK es)from I.hok a _ c);exact⟨o,I.swap c (λ_=>by nofun) (I.cu c) (λ_=>by nofun) (λ_=>by nofun) ⟨d,z,e,h,b,o,g,f,d,i⟩⟩
def Inv.mF(I:Inv X pins σ H s)(b:H a=some (.frz o (.dK es)))(hz:∀o v,X.H₀ a≠some (.frz o v)):Inv X pins σ (upd H a (.dK es)) s:=
 I.swap b (λ_=>by nofun) hz (λ_=>by nofun) (λ_=>by nofun) (show y8 X.prog X.w H s.heap a (.frz o (.dK es))from I.hok a _ b).2
def Bz(o:Obj):Nat:=match o.data with | .dict _ a=>a|_=>0
def Itd(a:Addr)(o:Obj)(es:Et):It:=
 ⟨λi H=>H a=some (.frz o (.dK es))/\i<es.length,λi H x b=>b=H/\∃k v,es[i]?=some (k,v)/\x=kV k,λi H=>H a=some (.frz o (.dK es))/\es.length<=i⟩
def gk(h:KV es vs):∀{i:Nat}{k:Fg}{v:V},es[i]?=some (k,v)->∃w,vs[i]?=some (k,w):=by
 induction h with
 |nil=>intro i k v e;simp at e
 |@cons p q _ _ hp _ a=>
  intro i k v e;cases i with
  |zero=>simp at e;subst e;exact⟨q.2,by simp;exact Prod.ext hp.1.symm rfl⟩
  |succ i=>simp at e ⊢;exact a e
def Ur(h:(zV P w).is k u=true):RelV (kV k) u:=by
 rw[dD]at h;rcases yo h with⟨i,t,rfl,rfl⟩|⟨x,t,rfl,rfl⟩
 .exact⟨t,rfl⟩
 .exact⟨t,rfl⟩
def gm(ok:HOk P w H h)(e:H a=some (.frz o (.dK es))):(a==sysModules)=false/\∃b,KV es b/\h.DictAt (zV P w) a b (Bz o):=by
 obtain⟨f,_,i,b,c,p,m,j,g,l,d,n⟩:=(show y8 P w H h a (.frz o (.dK es))from ok a _ e);rw[f]at g;cases g;have:Bz o=j:=by unfold Bz;rw[d]
 exact⟨i,b,c,o,m,f,l,by rw[this];exact d,n⟩
def gq{P:Ez}{w:EF}{K:Fc}{Y:Ey}(a j:Addr)(o:Obj)(es:Et):Turn P w K Y (Itd a o es) [j] j (λi h=>h.IsKeyIter j a i es.length (Bz o))where
 mem:=by simp
 obj:=λi h st b l=>by
  have e:b=j:=by simpa using l
  subst e;obtain⟨o,e,c,d⟩:=st;exact⟨o,e,λv z=>by rw[d]at z;cases z⟩
 keep:=λi h p st k=>st.at λo e=>k j (by simp) o e
 item:=by intro X hP n A J i g s G H E I hf st t;subst hP n A;obtain⟨F,M⟩:=t;obtain⟨Q,R,f,u⟩:=gm I.hok F;have L:es[i]?=some es[i]:=E1 M;obtain⟨w,n⟩:=gk f (k:=es[i].1) (v:=es[i].2) L;obtain⟨r,C,U,y,x,B⟩:=hf j (by simp);rw[P9 f]at st;refine wpAny_pyNext_dict_item st u n λD p T m N=>?_;have O:Inv X g G H { s with heap:=p }:=I.turned (t':=s.toks) (λb o l e=>(N.2 b l).trans e) r C y x B;obtain⟨q,e,c,d⟩:=id m;refine⟨D,rfl,lE (s:={ s with heap:=p }) e c d (by decide) ⟨_,H,O,Ur T,⟨rfl,_,_,L,rfl⟩,?_,λb l=>(hf b l).1⟩⟩;rw[P9 f];exact m
 done:=by intro X hP n A J i g s G H E I hf st t;subst hP n A;obtain⟨F,M⟩:=t;obtain⟨Q,R,f,u⟩:=gm I.hok F;obtain⟨r,C,U,y,x,B⟩:=hf j (by simp);have W:=P9 f;rw[W]at st;exact wpAny_pyNext_dict_end (I.ok.hd J) st u (a00.mpr (by omega)) λp S=>⟨rfl,I.turned (t':=s.toks) (λb o l e=>S b o l e) r C y x B⟩
 self:=λ_ _ _ _ _ st h=>wpAny_pyIter_keyiter st h
def KN(e:TE):TI:=λd H R=>e d H λx c=>∃a o b,x=.ref a/\c a=some (.frz o (.dK b))/\R (Itd a o b) c
def vQ(w:PE X l tl):PI X tg l (KN tl):=by
 intro c s i H R I h;refine thn (w c s i H _ I h) λv d ⟨x,r,f,n,a,o,m,e,t,q⟩=>?_;subst e;cases n;obtain⟨p,y,g,j⟩:=gm f.hok t;refine wpAny_pyIter_dict p j ?_;refine⟨d.heap.objs.size,[d.heap.objs.size],_,_,r,rfl,f.kept (t':=d.toks) λb o e=>v4 _ e,gq a _ o m,?_,λb u=>?_,q⟩
 .rw[P9 g];exact⟨_,G5 _ rfl,rfl,rfl⟩
 have e:b=d.heap.objs.size:=by simpa using u
 subst e;exact f.Bo (E5 _) (f.hok.fresh (E5 _))
def cw(h:Rd H a (.dK es))(h':Rd H a (.dK es')):es'=es:=by rcases h with h|⟨o,h⟩<;>rcases h' with h'|⟨b,h'⟩<;>rw[h]at h'<;>cases h'<;>rfl
section
variable {W:RC}{M:Es}{H H':Hp}{a:Addr}{es:Et}
def YV(e:Rd H a (.dK es))(h:H b=some u)(d:∀es,u≠.dK es)(c:∀o es,u≠.frz o (.dK es)):b≠a:=λz=>by
 subst z;rcases e with z|⟨o,z⟩<;>rw[z]at h<;>cases h
 .exact d _ rfl
 .exact c _ _ rfl
def Zz(e:Rd H a (.dK es))(c:∀b,b≠a->H' b=H b)(h:Rd H b u)(d:∀es,u≠.dK es)(hf:∀o v,u≠.frz o v):Rd H' b u:=by
 rcases h with h|⟨o,h⟩
 .exact .inl ((c b (YV e h d λo es=>hf o _)).trans h)
 .exact .inr ⟨o,(c b (YV e h (λ_=>by nofun) λo es z=>by cases z;exact d _ rfl)).trans h⟩
mutual
theorem Rep.sw(f:Rd H a (.dK es))(i:Rd H' a (.dK es))(d:∀b,b≠a->H' b=H b):∀{x:PV}{v:V},Rep W M H x v->Rep W M H' x v
 |.i n,v,h=>h
 |.s x,v,h=>h
 |.b c,v,h=>h
 |.n,v,h=>h
 |.l s,v,h=>by unfold Rep at h ⊢;obtain⟨p,g,e,m,r,q⟩:=h;exact⟨p,g,e,m,(d p (YV f r (λ_=>by nofun) λ_ _=>by nofun)).trans r,yy.sw f i d q⟩
 |.sc t,v,h=>by unfold Rep at h ⊢;obtain⟨p,e,r⟩:=h;exact⟨p,e,r.elim (λz=>.inl ⟨z.1,Zz f d z.2 (λ_=>by nofun) λ_ _=>by nofun⟩) .inr⟩
 |.dt l,v,h=>by unfold Rep at h ⊢;obtain⟨p,e,m,r⟩:=h;exact⟨p,e,m,Zz f d r (λ_=>by nofun) λ_ _=>by nofun⟩
 |.t s,v,h=>by unfold Rep at h ⊢;obtain⟨p,g,e,r,q⟩:=h;exact⟨p,g,e,r.elim (λz=>.inl (Zz f d z (λ_=>by nofun) λ_ _=>by nofun)) .inr,yy.sw f i d q⟩
 |.d l,v,h=>by
  unfold Rep at h ⊢;obtain⟨p,g,e,m,r,q⟩:=h;refine⟨p,g,e,m,?_,yG.sw f i d q⟩;by_cases hp:p=a
  .subst hp;rw[cw f r];exact i
  .unfold Rd;rw[d p hp];exact r
 |.o c fs,v,h=>by unfold Rep at h ⊢;obtain⟨p,j,g,e,m,r,q⟩:=h;exact⟨p,j,g,e,m,(d p (YV f r (λ_=>by nofun) λ_ _=>by nofun)).trans r,vA.sw f i d q⟩
 |.x c fs,v,h=>by unfold Rep at h ⊢;obtain⟨p,j,g,e,r,o,q⟩:=h;exact⟨p,j,g,e,(d p (YV f r (λ_=>by nofun) λ_ _=>by nofun)).trans r,(d j (YV f o (λ_=>by nofun) λ_ _=>by nofun)).trans o,vA.sw f i d q⟩
theorem yy.sw(f:Rd H a (.dK es))(d:Rd H' a (.dK es))(c:∀b,b≠a->H' b=H b):∀{x:EO}{v:EH},yy W M H x v->yy W M H' x v
 |[],v,h=>h
 |x::j,l,h=>by unfold yy at h ⊢;obtain⟨v,r,e,g,i⟩:=h;exact⟨v,r,e,Rep.sw f d c g,yy.sw f d c i⟩
theorem yG.sw(f:Rd H a (.dK es))(d:Rd H' a (.dK es))(c:∀b,b≠a->H' b=H b):∀{x:EA}{v:Et},yG W M H x v->yG W M H' x v
 |[],v,h=>h
 | (k,x)::j,l,h=>by unfold yG at h ⊢;obtain⟨v,r,e,g,i⟩:=h;exact⟨v,r,e,Rep.sw f d c g,yG.sw f d c i⟩
theorem vA.sw(f:Rd H a (.dK es))(d:Rd H' a (.dK es))(c:∀b,b≠a->H' b=H b):∀{x:EV}{v:E_},vA W M H x v->vA W M H' x v
 |[],v,h=>h
 | (k,x)::j,l,h=>by unfold vA at h ⊢;obtain⟨v,r,e,g,i⟩:=h;exact⟨v,r,e,Rep.sw f d c g,vA.sw f d c i⟩
end
def yp.sw{N:Es}{x:PV}{v:V}(g:Rd H a (.dK es))(j:Rd H' a (.dK es))(f:∀b,b≠a->H' b=H b)(h:yp W N M H x v):yp W N M H' x v:=by
 cases x with
 |l A=>obtain⟨p,u,e,m,r,q⟩:=h;exact⟨p,u,e,m,(f p (YV g r (λ_=>by nofun) λ_ _=>by nofun)).trans r,q.sw g j f⟩
 |d w=>
  obtain⟨p,u,e,m,r,q⟩:=h;refine⟨p,u,e,m,?_,q.sw g j f⟩;by_cases hp:p=a
  .subst hp;rw[cw g r];exact j
  .unfold Rd;rw[f p hp];exact r
 |sc B=>obtain⟨p,e,r⟩:=h;exact⟨p,e,r.elim (λz=>.inl ⟨z.1,Zz g f z.2 (λ_=>by nofun) λ_ _=>by nofun⟩) .inr⟩
 |dt w=>obtain⟨p,e,m,r⟩:=h;exact⟨p,e,m,Zz g f r (λ_=>by nofun) λ_ _=>by nofun⟩
 |o c fs=>obtain⟨p,y,u,e,m,r,q⟩:=h;exact⟨p,y,u,e,m,(f p (YV g r (λ_=>by nofun) λ_ _=>by nofun)).trans r,q.sw g j f⟩
 |i n=>exact Rep.sw g j f h
 |s n=>exact Rep.sw g j f h
 |b n=>exact Rep.sw g j f h
 |n=>exact Rep.sw g j f h
 |t n=>exact Rep.sw g j f h
 |x c n=>exact Rep.sw g j f h
def Kw.sw{p:Addr}{x:PV}(hp:p≠a)(r:Rd H a (.dK es))(j:Rd H' a (.dK es))(f:∀b,b≠a->H' b=H b)(h:Kw W M H p x):Kw W M H' p x:=by
 cases x with
 |l v=>obtain⟨g,e,q⟩:=h;exact⟨g,(f p hp).trans e,q.sw r j f⟩
 |d m=>obtain⟨g,e,q⟩:=h;exact⟨g,(f p hp).trans e,q.sw r j f⟩
 |dt m=>exact(f p hp).trans h
 |o c fs=>obtain⟨u,g,e,q⟩:=h;exact⟨u,g,(f p hp).trans e,q.sw r j f⟩
 |i n=>exact h.elim
 |s n=>exact h.elim
 |b n=>exact h.elim
 |n=>exact h.elim
 |t n=>exact h.elim
 |x c n=>exact h.elim
 |sc n=>exact h.elim
end
def Bs.at'(B:Bs)(a:Addr)(u:HO):Bs:=⟨upd B.H0 a u,B.M0,B.N0,λb h=>by
 by_cases e:b=a
 .rw[e,zd];exact λz=>by cases z
 .rw[zh e];exact B.nz b h,B.pin,B.xc⟩
section
variable {W:RC}{B:Bs}{S:Eo}{P:ED}{H:Hp}{σ:St}{ρ:Sto}{a:Addr}{es:Et}{u u':HO}
def WY(c:B.H0 a≠none):(B.at' a u).H0 b=none↔B.H0 b=none:=by
 show upd B.H0 a u b=none↔_;by_cases e:b=a
 .subst e;rw[zd];exact⟨λz=>(by cases z),λz=>absurd z c⟩
 .rw[zh e]
def x3(c:B.H0 a≠none):(B.at' a u).Mt b↔B.Mt b:=or_congr a1t (WY c)
def gr(c:B.H0 a≠none):Mof (B.at' a u) S P b↔Mof B S P b:=and_congr (and_congr (x3 c) a1t) a1t
def DU(es:Et)(u:HO):Prop:=u=.dK es\/∃o,u=.frz o (.dK es)
def DU.rd(h:DU es u)(e:H a=some u):Rd H a (.dK es):=h.elim (λz=>.inl (z▸e)) λ⟨o,z⟩=>.inr ⟨o,z▸e⟩
def Rel.sw(R:Rel W B S P H σ ρ)(r:B.H0 a=some u)(y:DU es u)(g:DU es u'):Rel W (B.at' a u') S P (upd H a u') σ ρ:=by
 have C:H a=some u:=R.same a u r;have d:B.H0 a≠none:=by rw[r];exact λz=>by cases z
 have j:Rd H a (.dK es):=y.rd C;have l:Rd (upd H a u') a (.dK es):=g.rd zd;have c:∀b,b≠a->upd H a u' b=H b:=λb z=>zh z;have D:Mof B S P=Mof (B.at' a u') S P:=funext λb=>propext (gr d).symm;have p:∀{i},S[i]?=some 2->P i≠a:=λ{i} f z=>d (z▸(R.act i f).1);refine⟨λb o h=>?_,R.len,λi x e=>?_,λi f=>⟨(WY d).mpr (R.act i f).1,?_⟩,R.inj,R.pin,λb h=>?_,R.axc⟩
 .have h:upd B.H0 a u' b=some o:=h;by_cases e:b=a
  .subst e;rw[zd]at h ⊢;exact h
  .rw[zh e]at h ⊢;exact R.same b o h
 .obtain⟨v,w,m,s,t⟩:=R.var i x e;rw[<- D];exact⟨v,w,λz=>⟨(m z).1,(m z).2.sw (p z) j l c⟩,λz=>(s z).sw j l c,λz A=>(t z A).sw j l c⟩
 .obtain⟨o,e,n⟩:=(R.act i f).2;exact⟨o,(c _ (p f)).trans e,n⟩
 .obtain⟨o,e,n,z⟩:=R.exc b h;have:b≠a:=λq=>d (q▸z);exact⟨o,(c b this).trans e,n,(WY d).mpr z⟩
def CF:(B.at' a u').at' a u''=B.at' a u'':=by
 unfold Bs.at';congr 1
 funext b
 show upd (upd B.H0 a u') a u'' b=upd B.H0 a u'' b;rw[QU]
def sI(c:B.H0 a=some u):B.at' a u=B:=by
 cases B;unfold Bs.at';congr 1
 funext b
 by_cases e:b=a
 .subst e;rw[zd];exact c.symm
 .rw[zh e]
def Rel.ws(c:B.H0 a=some u)(d:DU es u)(b:DU es u')(R:Rel W (B.at' a u') S P H σ ρ):Rel W B S P (upd H a u) σ ρ:=by have:=Rel.sw (u:=u') (u':=u) R zd b d;rw[CF,sI c]at this;exact this
def gu(c:B.H0 a=some u)(s:zA (B.at' a u').H0 H):zA B.H0 (upd H a u):=λb o h=>by
 by_cases e:b=a
 .subst e;rw[c]at h;rw[zd];exact h
 .rw[zh e];exact s b o (show upd B.H0 a u' b=some o by rw[zh e];exact h)
end
def Df(a:Addr)(es:Et)(D:Ends):Ends where
 nx:=λb H=>(∃o,H a=some (.frz o (.dK es)))/\D.nx b (upd H a (.dK es))
 rt:=λv H=>(∃o,H a=some (.frz o (.dK es)))/\D.rt v (upd H a (.dK es))
 bk:=λb H=>(∃o,H a=some (.frz o (.dK es)))/\D.bk b (upd H a (.dK es))
 ct:=λb H=>(∃o,H a=some (.frz o (.dK es)))/\D.ct b (upd H a (.dK es))
def Ef(a:Addr)(es:Et)(E:XK):XK:=λv d H=>(∃o,H a=some (.frz o (.dK es)))/\E v d (upd H a (.dK es))
def gw{W:RC}{E:XK}{fr:Bool}{B:Bs}{S' Sb Sc:Eo}{D:Ends}{a:Addr}{es:Et}{o:Obj}{i:Out Fw}(l:B.H0 a=some (.dK es))(q:kH ⟨W,E,fr⟩ B S' Sb Sc D i):kH ⟨W,Ef a es E,fr⟩ (B.at' a (.frz o (.dK es))) S' Sb Sc (Df a es D) i:=by
 have L:B.H0 a≠none:=by rw[l];exact λz=>by cases z
 have J:DU es (.dK es):=.inl rfl;have j:DU es (.frz o (.dK es)):=.inr ⟨o,rfl⟩;have t:(B.at' a (.frz o (.dK es))).H0 a=some (.frz o (.dK es)):=zd;have sw:∀{H:Hp}{u:HO},H a=some (.frz o (.dK es))->Rd H a (.dK es)/\Rd (upd H a (.dK es)) a (.dK es)/\∀b,b≠a->upd H a (.dK es) b=H b:=λh=>⟨.inr ⟨o,h⟩,.inl zd,λb z=>zh z⟩;have M:(B.at' a (.frz o (.dK es))).Mt=B.Mt:=funext λb=>propext (x3 L);cases i with
 |wall=>exact q
 |exc c fs=>
  intro e G R S s P O Q;have A:=s a _ t;obtain⟨n,F,m⟩:=sw (u:=.dK es) A;have K:e≠a:=YV n P (λ_=>by nofun) λ_ _=>by nofun
  have N:G≠a:=YV n O (λ_=>by nofun) λ_ _=>by nofun
  exact⟨⟨o,A⟩,q e G R _ (gu l s) ((m e K).trans P) ((m G N).trans O) ((M▸Q).sw n F m)⟩
 |ok f=>
  cases f with
  |nx w=>exact λy I d g=>⟨⟨o,g.same a _ t⟩,q y _ d (Rel.ws l J j g)⟩
  |bk w=>exact λy I d g=>⟨⟨o,g.same a _ t⟩,q y _ d (Rel.ws l J j g)⟩
  |ct w=>exact λy I d g=>⟨⟨o,g.same a _ t⟩,q y _ d (Rel.ws l J j g)⟩
  |rt x=>
   intro v I s r;have A:=s a _ t;obtain⟨n,F,m⟩:=sw (u:=.dK es) A;refine⟨⟨o,A⟩,q v _ (gu l s) ?_⟩;unfold mz at r ⊢;cases fr with
   |true=>rw[if_pos rfl]at r ⊢;obtain⟨p,e,hp,r⟩:=r;have C:B.H0 p=none:=(WY L).mp hp;have:p≠a:=λz=>L (z▸C);exact⟨p,e,C,(M▸r).sw this n F m⟩
   |false=>rw[if_neg F6]at r ⊢;exact(M▸r).sw n F m
def mG(h:a≠b):upd (upd H a u) b v=upd (upd H b v) a u:=by
 funext c
 by_cases d:c=a
 .subst d;rw[zh h,zd,zd]
 .by_cases e:c=b
  .subst e;rw[zd,zh d,zd]
  .rw[zh e,zh d,zh d,zh e]
def tFz(ts:XK->TS)(E:XK):TS:=λD c H=>(∃a b,H a=some (.dK b)/\∀o,ts (Ef a b E) (Df a b D) c (upd H a (.frz o (.dK b))))\/ts E D c H
def mH{X:Cx}{E:XK}{st:Fh}{ts:XK->TS}(h:∀p,PS (thr X p) st (ts p)):PS (thr X E) st (tFz ts E):=by
 intro g s m H D I q;rcases q with⟨a,n,r,q⟩|q
 .obtain⟨o,B⟩:=I.CD r;have hz:∀o v,X.H₀ a≠some (.frz o v):=I.cu r;refine S9 (h (Ef a n E) g s m _ (Df a n D) (B.j6.VM _) (q o)) (λf A z=>?_) λv A z=>?_
  .cases f with
   |next=>obtain⟨c,j,J,⟨i,hf⟩,d⟩:=z;exact⟨c,_,Inv.mF (J.j6.VM _) hf hz,d⟩
   |brk=>obtain⟨c,j,J,⟨i,hf⟩,d⟩:=z;exact⟨c,_,Inv.mF (J.j6.VM _) hf hz,d⟩
   |cont=>obtain⟨c,j,J,⟨i,hf⟩,d⟩:=z;exact⟨c,_,Inv.mF (J.j6.VM _) hf hz,d⟩
   |ret u=>obtain⟨v,c,j,J,G,⟨i,hf⟩,d⟩:=z;exact⟨v,c,_,Inv.mF (J.j6.VM _) hf hz,G,d⟩
  .obtain⟨c,j,e,C,x,rfl,J,f,⟨i,hf⟩,d⟩:=z;have l:e≠a:=λz=>by subst z;rw[zd]at hf;cases hf
   rw[zh l.symm]at hf;rw[mG l]at d;refine⟨c,_,e,C,x,rfl,Inv.mF J hf hz,?_,d⟩;obtain⟨T,y,K⟩:=f;refine⟨T,by rw[zh l];exact y,K.imp id λ⟨t,w,L,b,F⟩=>⟨t,w,L,⟨b.tbk,b.new,?_,b.pin⟩,F⟩⟩;have:t≠a:=λz=>by have:=b.free;rw[z,hf]at this;cases this
   rw[zh this];exact b.free
 .exact h E g s m H D I q
def kP:Key->PV
 |.inl i=>.i i
 |.inr x=>.s x
def gx{W:RC}{M:Es}{H:Hp}:∀k:Key,Rep W M H (kP k) (kV k)
 |.inl _=>rfl
 |.inr _=>rfl
def yb(i:Nat):MI:=λc=>match c[i]? with
 |some (some (.d a))=>.ok (a.map λb=>kP b.1)
 |_=>.wall
def kg{W:RC}{M N:Es}{H2:Hp}{a:Addr}{o:Obj}{es:Et}{kvs:EA}(n:H2 a=some (.frz o (.dK es)))(g:es.map (·.1)=kvs.map (·.1)):uI W M N H2 (Itd a o es) (kvs.map λe=>kP e.1):=λq f=>by
 have c:=f a _ n (.inr trivial);have p:es.length=kvs.length:=by simpa using G8 List.length g
 refine⟨λi x h=>?_,c,by rw[u8];omega⟩;rw[G9]at h;obtain⟨e,b,rfl⟩:=v2.mp h;have r:i<kvs.length:=(E7.mp b).1;refine⟨⟨c,by omega⟩,λv m l=>?_⟩;obtain⟨rfl,k,w,d,rfl⟩:=l;have:k=e.1:=by
  have j:(es.map (·.1))[i]?=some k:=by rw[G9,d];rfl
  rw[g,G9,b]at j;cases j;rfl
 subst this;exact⟨zA.refl _,λ_ _=>gx _⟩
section
variable {X:Cx}{W:RC}{E:XK}{fr:Bool}{S S1 Sb Sc:Eo}{tg iter:Ey}{body:Fd}{mg:MG}{mb:MS}{pos:Pos}{i:Nat}
def gz(R:Rel W B S P H σ ρ)(l:S[i]?≠some 2)(p:ρ[i]?=some (some (.d kvs))):∃a b,σ[i]?=some (some (.ref a))/\NA B S P a/\Rd H a (.dK b)/\b.map (·.1)=kvs.map (·.1):=by
 obtain⟨v,d,_,h,o⟩:=R.var i _ p;by_cases c:S[i]?=some 1
 .obtain⟨a,b,rfl,n,r,rk⟩:=h c;have f:=B.nz a n;exact⟨a,b,d,⟨λz=>f (R.exc a z).choose_spec.2.2,λj g e=>f (e▸(R.act j g).1)⟩,r,(yG.iff.mp rk).1⟩
 .obtain⟨a,b,rfl,m,r,rk⟩:=o l c;exact⟨a,b,d,Mof.na m,r,(yG.iff.mp rk).1⟩
def WZ(R:Rel W B S P H σ ρ)(na:NA B S P a)(h:H a=some u):(B.loop S P H R.hz).H0 a=some u:=by unfold Bs.loop;dsimp only;rw[if_neg λz=>z.elim (λ⟨j,b,e⟩=>na.2 j b e) na.1];exact h
def Yo(hc:X.calm=true)(own:Own X)(hv:∀h,PE (thr X h) iter (ZN i))(hg:∀h,GM (thr X h) ⟨W,h,fr⟩ S S1 tg mg)(hb:∀h,SsM (thr X h) ⟨W,h,fr⟩ S1 S S S body mb)(hS:S[i]?≠some 2:=by decide)(hs:∀x,foldedSetIterable iter X.env x=pure x:=by intro _;rfl):
  SM (thr X E) ⟨W,E,fr⟩ S S Sb Sc (.For tg iter body [] pos) (wR (yb i) mg mb):=λQ=>by
 refine⟨tFz (λh D O H=>∃g u,PG (thr X h) tg g/\PSs (thr X h) body u/\om (KN (ZN i)) g u D O H) E,mH λh N s O H D I ⟨g,u,M,A,q⟩=>Kn (X:=thr X h) (yi own) hc (vQ (hv h)) M A hs N s O H D I q,λB P H O Y R D q=>?_⟩;cases e:Y[i]? with
 |none=>unfold wR yb at q;rw[e]at q;exact q.elim
 |some z=>
  cases z with
  |none=>unfold wR yb at q;rw[e]at q;exact q.elim
  |some y=>
   cases y with
   |d Z=>
    obtain⟨a,p,K,na,hrd,hk⟩:=gz R hS e;have hm:yb i Y=.ok (Z.map λkx=>kP kx.1):=by unfold yb;rw[e]
    rcases hrd with L|⟨o,L⟩
    .refine .inl ⟨a,p,L,λo=>?_⟩;obtain⟨g,M,U⟩:=hg (Ef a p E) Q;obtain⟨u,A,T⟩:=hb (Ef a p E) Q;have R1:=R.loop;have h0:=WZ R na L;have Rf:=R1.sw (u':=.frz o (.dK p)) h0 (.inl rfl) (.inr ⟨o,rfl⟩);refine⟨g,u,M,A,YU (mi:=yb i) (C:=⟨W,Ef a p E,fr⟩) (Sb:=Sb) (Sc:=Sc) (λRr G=>?_) U T Rf _ (gw h0 ?_)⟩
     .rw[hm]at G;exact⟨.ref a,K,a,o,p,rfl,zd,G _ _ (zA.refl _) (kg zd hk)⟩
     .revert q;cases wR (yb i) mg mb Y with
      |wall=>exact id
      |exc c fs=>exact λq=>WR (C:=⟨W,E,fr⟩) rfl R q
      |ok f=>
       cases f with
       |nx F=>exact λq J m j w=>q J m j (R.Jo w)
       |bk F=>exact λq J m j w=>q J m j (R.Jo w)
       |ct F=>exact λq J m j w=>q J m j (R.Jo w)
       |rt x=>exact λq v m s r=>q v m ((wU R).trans s) (aR (C:=⟨W,E,fr⟩) rfl R r)
    .obtain⟨g,M,U⟩:=hg E Q;obtain⟨u,A,T⟩:=hb E Q;refine .inr ⟨g,u,M,A,YU (mi:=yb i) (C:=⟨W,E,fr⟩) (Sb:=Sb) (Sc:=Sc) (λRr G=>?_) U T R D q⟩;rw[hm]at G;exact⟨.ref a,K,a,o,p,rfl,L,G _ _ (zA.refl _) (kg L hk)⟩
   |i n=>unfold wR yb at q;rw[e]at q;exact q.elim
   |s n=>unfold wR yb at q;rw[e]at q;exact q.elim
   |b n=>unfold wR yb at q;rw[e]at q;exact q.elim
   |n=>unfold wR yb at q;rw[e]at q;exact q.elim
   |l n=>unfold wR yb at q;rw[e]at q;exact q.elim
   |t n=>unfold wR yb at q;rw[e]at q;exact q.elim
   |o c n=>unfold wR yb at q;rw[e]at q;exact q.elim
   |x c n=>unfold wR yb at q;rw[e]at q;exact q.elim
   |sc n=>unfold wR yb at q;rw[e]at q;exact q.elim
   |dt n=>unfold wR yb at q;rw[e]at q;exact q.elim
end
def tGz(c:TE):TE:=λd H Q=>(∃a b,H a=some (.dK b)/\∀o,c d (upd H a (.frz o (.dK b))) (λv e=>(∃o,e a=some (.frz o (.dK b)))/\Q v (upd e a (.dK b))))\/c d H Q
def x4(h:PE X e te):PE X e (tGz te):=by
 intro b s c H Q I q;rcases q with⟨a,n,f,q⟩|q
 .obtain⟨o,g⟩:=I.CD f;have hz:∀o v,X.H₀ a≠some (.frz o v):=I.cu f;refine thn (h b s c _ _ g (q o)) λv m ⟨x,l,J,i,⟨j,hf⟩,d⟩=>⟨x,_,J.mF hf hz,i,d⟩
 .exact h b s c H Q I q
theorem YW{g:MG}{c:MT}{e:ME}{k:Nat}{fs:EV}:∀{f:EO}{d:Sto}{a:EO},lcP g c e f d a≠.exc k fs
 |[],d,a=>by unfold lcP;exact λz=>by cases z
 |x::f,d,a=>by
  unfold lcP;cases g x d with
  |none=>exact λz=>by cases z
  |some b=>
   show(noX (c b)).bind _≠_;cases c b with
   |wall=>exact λz=>by cases z
   |exc _ _=>exact λz=>by cases z
   |ok t=>
    show(if t=true then _ else _)≠_;split
    .cases e b with
     |wall=>exact λz=>by cases z
     |exc _ _=>exact λz=>by cases z
     |ok y=>
      show(if a.length<sizeLine then _ else _)≠_;split
      .exact YW
      .exact λz=>by cases z
    .exact YW
def pe{g:TG}{M:TT}{T:TE}{fr:EI}{n:Eo}(F:S[i]?≠some 2)(N:n=inS S fr)(L:LG ⟨C.W,E0,false⟩ n n g mg)(U:LT ⟨C.W,E0,false⟩ n M mc)(he:LE ⟨C.W,E0,false⟩ n false T me):LFr C S (tGz (tLC (KN (ZN i)) g M T fr)) (mLC (yb i) fr mg mc me):=λB P H σ D R Q q=>by
 cases f:yb i D with
 |wall=>unfold mLC at q;rw[f]at q;exact q.elim
 |exc c fs=>unfold yb at f;split at f<;>cases f
 |ok xs=>
  obtain⟨d,A⟩:∃d,D[i]?=some (some (.d d)):=by
   unfold yb at f;split at f
   .rename_i d h;exact⟨d,h⟩
   .cases f
  have J:xs=d.map λj=>kP j.1:=by unfold yb at f;rw[A]at f;cases f;rfl
  subst J;obtain⟨a,w,y,na,I,W⟩:=gz R F A;rcases I with l|⟨o,l⟩
  .refine .inl ⟨a,w,l,λo=>?_⟩;have O:=WZ R na l;have Z:=R.loop.sw (u':=.frz o (.dK w)) O (.inl rfl) (.inr ⟨o,rfl⟩);refine KI (C:=C) (mi:=yb i) (λRr t=>?_) rfl N L U he Z _ ?_
   .rw[f]at t;exact⟨.ref a,y,a,o,w,rfl,zd,t _ _ (zA.refl _) (kg zd W)⟩
   .unfold mLC at q ⊢;rw[f]at q ⊢;have q:zX C B H (RFr C.W (Mof B S P) H) Q (lcP mg mc me (d.map λj=>kP j.1) (Q1 D fr) []):=q;show zX C _ _ _ _ (lcP mg mc me (d.map λj=>kP j.1) (Q1 D fr) []);revert q;cases X:lcP mg mc me (d.map λj=>kP j.1) (Q1 D fr) []with
    |wall=>exact id
    |exc c fs=>exact absurd X YW
    |ok x=>
     intro q v H2 s r;have hf:=s a _ (zd (H:=H) (o:=.frz o (.dK w)));refine⟨⟨o,hf⟩,q v _ (λb u G=>?_) ?_⟩
     .by_cases e:b=a
      .subst e;rw[l]at G;rw[zd];exact G
      .rw[zh e];exact s b u (by rw[zh e];exact G)
     .obtain⟨p,e,hp,r⟩:=r;have K:p≠a:=λz=>by rw[z,zd]at hp;cases hp
      rw[zh K]at hp;refine⟨p,e,hp,Kw.sw K (.inr ⟨o,hf⟩) (.inl zd) (λb z=>zh z) (r.gen rfl Fr.refl λb m _=>⟨?_,m.2⟩)⟩;have Y:(B.loop S P H R.hz).H0 a≠none:=by rw[O];exact λz=>by cases z
      have E:=(gr Y).mp m.1;exact⟨⟨Q0 R E.1.1,E.1.2⟩,E.2⟩
  .refine .inr (KI (C:=C) (mi:=yb i) (λRr t=>?_) rfl N L U he R _ q);rw[f]at t;exact⟨.ref a,y,a,o,w,rfl,l,t _ _ (zA.refl _) (kg l W)⟩
def Wd(N:EB)(fr:EI)(b:Eo)(p:X.calm=true)(d:eM X scope N fr=true)(n:PE X iter (ZN i))(l:∀z:CI,GM (cxI X scope N z) ⟨C.W,E0,false⟩ b b tg mg)(r:∀z:CI,TsM (cxI X scope N z) ⟨C.W,E0,false⟩ b ifs mc)(he:∀z:CI,EM (cxI X scope N z) ⟨C.W,E0,false⟩ b false elt me)(f:S[i]?≠some 2:=by decide)(o:b=inS S fr:=by rfl)
  (h:∀x,foldedSetIterable iter X.env x=pure x:=by intro _;rfl):FM X C S (.ListComp elt [⟨tg,iter,ifs,0⟩] scope pos) (mLC (yb i) fr mg mc me):=λe=>by
 obtain⟨g,u,t⟩:=WV l λ_=>e;obtain⟨w,q,v⟩:=WU r λ_=>e;obtain⟨y,m,j⟩:=WT he λ_=>e;exact⟨_,x4 (l9 N fr p d (vQ n) (λa c s H L=>u ⟨a,c,s,H,L⟩) (λa c s H L=>q ⟨a,c,s,H,L⟩) (λa c s H L=>m ⟨a,c,s,H,L⟩) h),pe f o t v j⟩
def range_any(bs:Ew):(List.range bs.length).any (λi=>bs.getD i false)=bs.any id:=by
 induction bs with
 |nil=>rfl
 |cons b bs a=>rw[E4,a2t,R4,a3a,R4,<- a];rfl
def Dw(K:Fc):List V->Hp->VK->Prop:=λa H Q=>∃(p:Addr)(bs:Ew),a=[.ref p]/\SqL K H p (bs.map V.bl)/\Q (.bl (bs.any id)) H
def mI(w:X.calm=true):vz X (.builtin "any") (Dw X.K):=by
 intro a s j H C B Q I r h;obtain⟨p,bs,rfl,v,q⟩:=h;obtain⟨u,rfl,l⟩:=vals1 r;cases l;obtain⟨z,x,d,_⟩:=I.list v;have e:=WI x;subst e;have f:p≠s.heap.objs.size:=by obtain⟨o,c,_⟩:=d.isList;exact F1 (E6 c)
 refine O1 (n:=X.m) (by ac_rfl)<|call_any_walk (a0w d.isList ⟨s.heap.objs.size,_,_,_,_,_,_,rfl,a2T (A:=X.A.in1) (I.ok.hd w) s.heap.objs.size p f (bs.map Value.bool).toArray,?_,Kv (bs:=bs),λi g y=>?_⟩)
 .refine⟨⟨_,G5 _ rfl,rfl,rfl⟩,?_⟩;obtain⟨o,c,t⟩:=d.isList;exact⟨o,v4 _ c,t⟩
 .intro hn;have m:Inv X a j H { s with heap:=i,toks:=g }:=I.kept (t':=g) λb o e=>y b o (by simp;exact F1 (E6 e)) (v4 _ e);refine⟨.bl _,H,m,rfl,?_⟩;have:(List.map Value.bool bs).toArray.size=bs.length:=by simp
  rw[this,range_any];exact q
def pf:List PV->Out PV
 |[.l a]=>wJ ((fT a).map λb=>.b (b.any id))
 |_=>.wall
def x9:LfC W (Dw W.K) pf:=λM C B H g f Q n h q=>by
 unfold pf at q;split at q
 .obtain⟨z,e,q⟩:=yN q;obtain⟨c,hn,rfl⟩:=v2.mp e;obtain⟨v,r,rfl,⟨p,f,rfl,_,a,b⟩,d⟩:=h;cases(show _=_ from d);rw[aO b hn]at a;exact⟨p,c,rfl,SqL.of a,q _ H (zA.refl _) rfl⟩
 .exact q.elim
def mJ:List V->Hp->VK->Prop:=λb H Q=>∃(p:Addr)(a:Et),b=[.ref p]/\Rd H p (.dK a)/\∀l,H l=none->Q (.ref l) (upd H l (.dK a))
def We:vz X (.type "dict") mJ:=by intro a s f H m g Q I r h;obtain⟨p,i,rfl,d,q⟩:=h;obtain⟨u,rfl,b⟩:=vals1 r;cases b;exact lV I d λl j e c=>⟨.ref l,_,c,rfl,q l e⟩
def aS(kvs:EA)(k:Fg):List (Key×PV):=kvs.filter λa=>decide (a.1≠k)
def yG.drop{W:RC}{M:Es}{H:Hp}{k:Fg}:∀{a:EA}{c:Et},yG W M H a c->yG W M H (aS a k) (X5 c k)
 |[],_,h=>by cases(show _=_ from h);rfl
 |d::a,_,h=>by
  obtain⟨v,q,rfl,f,b⟩:=h;unfold aS X5;rw[a1f,a1f];by_cases e:d.1≠k
  .rw[if_pos (L9 e),if_pos (L9 e)];exact⟨v,_,rfl,f,yG.drop b⟩
  .rw[if_neg (by simpa using e),if_neg (by simpa using e)];exact yG.drop b
def d4(i:Nat)(mk:ME):MS:=λb=>match b[i]? with
 |some (some (.d a))=>(mk b).bind λz=>match pk z with
  |some k=>if(zK a k).isSome=true then .ok (.nx (b.set i (some (.d (aS a k)))))else .wall
  |none=>.wall
 |_=>.wall
def ph(b:X.calm=true)(d:Gl X "any")(f:X.mg "any"=none)(c:AM X C S ws [e] ms)(he:starEach [e] X.env=[(false,eval e X.env)]:=by rfl):EM X C S false (.Call (.Name "any" p) [e] [] pos) (zg pf ms):=
 J8 (λa=>a▸mI b) x9 d f PyProof.Rows.boot_any c (he:=he)
def sJ(A:PE X o (ZN i))(j:EM X C S w a m)(F:M1 X o "pop" qo a qr)(l:S[i]?=some 2:=by rfl)(s:swapsWith (.Call (.Attribute o "pop" qo) [a] [] qr) none pos.line X.env=pure false:=by rfl):
  SM X C S S Sb Sc (.Expr (.Call (.Attribute o "pop" qo) [a] [] qr) pos) (d4 i m):=λG=>by
 obtain⟨L,K,y⟩:=j G;refine⟨_,QV (lU A K F) s,λB P H p h R D q=>?_⟩;unfold d4 at q;split at q
 .rename_i d I;obtain⟨b,⟨g,hp,r⟩,J⟩:=R.at2 l I;refine⟨_,b,_,rfl,.inl ⟨g,.inl hp⟩,y B P H p h R _ ?_⟩;revert q;cases m h with
  |exc c fs=>exact id
  |wall=>exact id
  |ok z=>
   intro q u M n t;have R2:=R.keep n;have q:kH C B S Sb Sc D (match pk z with
    |some k=>if(zK d k).isSome=true then .ok (.nx (h.set i (some (.d (aS d k)))))else .wall
    |none=>.wall):=q
   split at q
   .rename_i k j;split at q
    .rename_i hz;obtain⟨x,e⟩:=L4.mp hz;obtain⟨v,E,_⟩:=r.get e;refine⟨g,k,v,n _ _ hp,YQ t.weak j,E,q P _ p (R2.wr l J b (by exact id) ?_)⟩;have f:=Mof.wr (o:=.dK (X5 g k)) R2 l;exact⟨_,zd,((r.same n).drop).gen f λ_ m _=>m⟩
    .exact q.elim
   .exact q.elim
 .exact q.elim
def KO(prog:Ez)(w:EF)(A:EK)(s:Eu)(y x:Value)(b:Bool):Prop:=∀(E:En)(Q:FA),Q b s->wpAny (model prog w) A (eqBool y x) Q E s
def pq(prog:Ez)(w:EF)(A:EK)(s:Eu)(y x:Value)(b:Bool):Prop:=∀(E:En)(Q:En),Q (.bool b) s->wpAny (model prog w) A (richCompare .Eq y x) Q E s
def sO(prog:Ez)(w:EF)(A:EK)(s:Eu)(y x:Value)(b:Bool):Prop:=∀(E:En)(Q:En),Q (.bool b) s->wpAny (model prog w) A (richCompare .NotEq y x) Q E s
theorem cx(prog:Ez)(w:EF)(l b:Addr)(xs ys:ET)(n m:Nat)(d1 d2:EY)(sl1 sl2:ER)(hsz:xs.size=ys.size)(e:FE):∀(k i:Nat),xs.size-i=k->
  MeetsIn prog w (Builtin.«list.__eq__.loop» ⟨[.ref l,.ref b,rawInt i,rawInt 2],[]⟩) (λA R s=>s.heap.get? l=some { cls:=.type "list",dict:=d1,data:=.seq xs n,slots:=sl1 }/\s.heap.get? b=some { cls:=.type "list",dict:=d2,data:=.seq ys m,slots:=sl2 }/\
   (∀j (h1:j<xs.size) (h2:j<ys.size),KO prog w A.in1 s xs[j] ys[j] (e j))/\R (.ok (.ret (.bool (((List.range xs.size).drop i).all e)))) s)
 |0,i,hk=>λA R s h=>by
  obtain⟨hp,g,d,tk,os⟩:=s;obtain⟨h1,h2,he,h⟩:=h
  wp_walk using F2 h1,F2 h2
  have o1:xs[((i:Nat):Int).toNat]?=none:=by simp;omega
  have o2:ys[((i:Nat):Int).toNat]?=none:=by simp;omega
  have od:(List.range xs.size).drop i=[]:=by simp;omega
  rw[od]at h;rw[o1,o2]
  wp_walk using F2 h1,F2 h2
  show R (.ok (.ret (.bool (xs.size==ys.size)))) _;rw[hsz];simpa using h
 |k+1,i,hk=>λA R s h=>by
  obtain⟨hp,g,d,tk,os⟩:=s;obtain⟨h1,h2,he,h⟩:=h
  wp_walk using F2 h1,F2 h2
  have l1:i<xs.size:=by omega
  have l2:i<ys.size:=by omega
  have o1:xs[((i:Nat):Int).toNat]?=some xs[i]:=by simp[l1]
  have o2:ys[((i:Nat):Int).toNat]?=some ys[i]:=by simp[l2]
  have od:(List.range xs.size).drop i=i::(List.range xs.size).drop (i+1):=by simp[List.drop_eq_getElem_cons,l1]
  have oc:((i:Int)+1)=((i+1:Nat):Int):=by push_cast;rfl
  rw[od,a0r]at h;rw[o1,o2];refine f8 (he i l1 l2 _ _ ?_);cases hb:e i with
  |true=>
   rw[hb]at h
   wp_walk
   rw[oc];exact⟨a0t P5 _,S5 a0I (by
    rw[R9 P5 _];exact cx prog w l b xs ys n m d1 d2 sl1 sl2 hsz e k (i+1) (by omega) A R _ ⟨h1,h2,he,by simpa using h⟩)⟩
  |false=>
   rw[hb]at h
   wp_walk using F2 h1,F2 h2
   rw[o1,o2]
   wp_walk
   simpa using h
def mK(prog:Ez)(w:EF)(l b:Addr)(xs ys:ET)(n m:Nat)(d1 d2:EY)(sl1 sl2:ER)(hsz:xs.size=ys.size)(e:FE):
  MeetsIn prog w (Builtin.«list.__eq__» ⟨[.ref l,.ref b],[]⟩) (λA R s=>s.heap.get? l=some { cls:=.type "list",dict:=d1,data:=.seq xs n,slots:=sl1 }/\s.heap.get? b=some { cls:=.type "list",dict:=d2,data:=.seq ys m,slots:=sl2 }/\
   (∀j (h1:j<xs.size) (h2:j<ys.size),KO prog w A.in1 s xs[j] ys[j] (e j))/\R (.ok (.ret (.bool ((List.range xs.size).all e)))) s):=λA R s h=>by
 obtain⟨hp,g,d,tk,os⟩:=s;obtain⟨h1,h2,he,h⟩:=h;have f3:=a2u;have hne:¬(xs.size != ys.size)=true:=by simp[hsz]
 wp_walk using F2 h1,F2 h2
 exact⟨a0t P5 _,S5 a0I (by
  rw[R9 P5 _];exact cx prog w l b xs ys n m d1 d2 sl1 sl2 hsz e _ 0 rfl A R _ ⟨h1,h2,he,by simpa using h⟩)⟩
def gA(u:s.heap.IsList l xs)(t:s.heap.IsList b ys)(hsz:xs.size=ys.size)(v:A.units<cLine)
  (he:∀j (B:j<xs.size) (C:j<ys.size),KO prog w A.in1 s xs[j] ys[j] (e j)):pq prog w A s (.ref l) (.ref b) ((List.range xs.size).all e):=λE Q h=>by
 obtain⟨⟨D,r,y,c⟩,d,i,n,g⟩:=id u;obtain⟨⟨F,q,z,a⟩,o,p,m,f⟩:=id t;simp only at i g p f;subst i g p f;exact P2 (op:=.Eq) ⟨_,d,rfl⟩ ⟨_,o,rfl⟩ a2U (a0c a2U ⟨_,d,rfl⟩ PySem.F.entry_list_eq (PySem.F.args_list_eq_2 _ _) (mK prog w l b xs ys n m r q c a hsz e)
  ⟨d,o,he,show Value.bool _≠Value.notImplemented/\Q (.bool _) s from⟨(λx=>nomatch x),h⟩⟩) v
theorem cy(prog:Ez)(w:EF)(l b:Addr)(xs ys:ET)(n m:Nat)(d1 d2:EY)(sl1 sl2:ER)(hsz:xs.size=ys.size)(e:FE):∀(k i:Nat),xs.size-i=k->
  MeetsIn prog w (Builtin.«list.__eq__.loop» ⟨[.ref l,.ref b,rawInt i,rawInt 3],[]⟩) (λA R s=>s.heap.get? l=some { cls:=.type "list",dict:=d1,data:=.seq xs n,slots:=sl1 }/\s.heap.get? b=some { cls:=.type "list",dict:=d2,data:=.seq ys m,slots:=sl2 }/\
   (∀j (h1:j<xs.size) (h2:j<ys.size),KO prog w A.in1 s xs[j] ys[j] (e j))/\R (.ok (.ret (.bool (!((List.range xs.size).drop i).all e)))) s)
 |0,i,hk=>λA R s h=>by
  obtain⟨hp,g,d,tk,os⟩:=s;obtain⟨h1,h2,he,h⟩:=h
  wp_walk using F2 h1,F2 h2
  have o1:xs[((i:Nat):Int).toNat]?=none:=by simp;omega
  have o2:ys[((i:Nat):Int).toNat]?=none:=by simp;omega
  have od:(List.range xs.size).drop i=[]:=by simp;omega
  rw[od]at h;rw[o1,o2]
  wp_walk using F2 h1,F2 h2
  show R (.ok (.ret (.bool (xs.size != ys.size)))) _;rw[hsz];simpa using h
 |k+1,i,hk=>λA R s h=>by
  obtain⟨hp,g,d,tk,os⟩:=s;obtain⟨h1,h2,he,h⟩:=h
  wp_walk using F2 h1,F2 h2
  have l1:i<xs.size:=by omega
  have l2:i<ys.size:=by omega
  have o1:xs[((i:Nat):Int).toNat]?=some xs[i]:=by simp[l1]
  have o2:ys[((i:Nat):Int).toNat]?=some ys[i]:=by simp[l2]
  have od:(List.range xs.size).drop i=i::(List.range xs.size).drop (i+1):=by simp[List.drop_eq_getElem_cons,l1]
  have oc:((i:Int)+1)=((i+1:Nat):Int):=by push_cast;rfl
  rw[od,a0r]at h;rw[o1,o2];refine f8 (he i l1 l2 _ _ ?_);cases hb:e i with
  |true=>
   rw[hb]at h
   wp_walk
   rw[oc];exact⟨a0t P5 _,S5 a0I (by
    rw[R9 P5 _];exact cy prog w l b xs ys n m d1 d2 sl1 sl2 hsz e k (i+1) (by omega) A R _ ⟨h1,h2,he,by simpa using h⟩)⟩
  |false=>
   rw[hb]at h
   wp_walk using F2 h1,F2 h2
   rw[o1,o2]
   wp_walk
   simpa using h
def mL(prog:Ez)(w:EF)(l b:Addr)(xs ys:ET)(n m:Nat)(d1 d2:EY)(sl1 sl2:ER)(hsz:xs.size=ys.size)(e:FE):
  MeetsIn prog w (Builtin.«list.__ne__» ⟨[.ref l,.ref b],[]⟩) (λA R s=>s.heap.get? l=some { cls:=.type "list",dict:=d1,data:=.seq xs n,slots:=sl1 }/\s.heap.get? b=some { cls:=.type "list",dict:=d2,data:=.seq ys m,slots:=sl2 }/\
   (∀j (h1:j<xs.size) (h2:j<ys.size),KO prog w A.in1 s xs[j] ys[j] (e j))/\R (.ok (.ret (.bool (!(List.range xs.size).all e)))) s):=λA R s h=>by
 obtain⟨hp,g,d,tk,os⟩:=s;obtain⟨h1,h2,he,h⟩:=h;have f3:=a2u;have hne:¬(xs.size != ys.size)=true:=by simp[hsz]
 wp_walk using F2 h1,F2 h2
 exact⟨a0t P5 _,S5 a0I (by
  rw[R9 P5 _];exact cy prog w l b xs ys n m d1 d2 sl1 sl2 hsz e _ 0 rfl A R _ ⟨h1,h2,he,by simpa using h⟩)⟩
def gB(u:s.heap.IsList l xs)(t:s.heap.IsList b ys)(hsz:xs.size=ys.size)(v:A.units<cLine)
  (he:∀j (B:j<xs.size) (C:j<ys.size),KO prog w A.in1 s xs[j] ys[j] (e j)):sO prog w A s (.ref l) (.ref b) (!(List.range xs.size).all e):=λE Q h=>by
 obtain⟨⟨D,r,y,c⟩,d,i,n,g⟩:=id u;obtain⟨⟨F,q,z,a⟩,o,p,m,f⟩:=id t;simp only at i g p f;subst i g p f;exact P2 (op:=.NotEq) ⟨_,d,rfl⟩ ⟨_,o,rfl⟩ a2V (a0c a2V ⟨_,d,rfl⟩ PySem.F.entry_list_ne (PySem.F.args_list_ne_2 _ _) (mL prog w l b xs ys n m r q c a hsz e)
  ⟨d,o,he,show Value.bool _≠Value.notImplemented/\Q (.bool _) s from⟨(λx=>nomatch x),h⟩⟩) v
def KO.of_refs(a:l≠b)(h:pq prog w A s (.ref l) (.ref b) k):KO prog w A s (.ref l) (.ref b) k:=λE Q c=>by unfold eqBool;refine N8 ?_;refine wpAny_ite_split (λz=>absurd (by have:=eq_of_beq z;injection this) a) (λ_=>?_);exact f8 (h E _ (a0u c))
def KO.same(v:Value):KO prog w A s v v true:=λE Q h=>a2d v prog w E Q h
abbrev BA:Addr->Prop:=λ_=>True
def LEv(C:LC)(S:Eo)(c:TE)(m:ME):Prop:=∀B P H a b,Rel C.W B S P H a b->∀Q,zX C B H (Rep C.W BA) Q (m b)->c a H Q
def EVm(X:Cx)(C:LC)(S:Eo)(e:Ey)(m:ME):Prop:=X.K=C.W.K->∃a,PE X e a/\LEv C S a m
def LAv(C:LC)(S:Eo)(c:TA)(m:MA):Prop:=∀B P H a b,Rel C.W B S P H a b->∀Q,Uh C B H (yy C.W BA) Q (m b)->c a H Q
def AVm(X:Cx)(C:LC)(S:Eo)(es:Ex)(m:MA):Prop:=X.K=C.W.K->∃a,PA X es a/\LAv C S a m
def aU(h:EM X C S w e m):EVm X C S e m:=λa=>by obtain⟨b,g,c⟩:=h a;exact⟨b,g,λB P H d f R Q q=>c B P H d f R Q (Ky q λx v i s r=>yp.iff.mp (r.weak.sub (λ_ _ _=>trivial) λ_ _ _=>trivial))⟩
def x_:AVm X C S [] zr:=λ_=>⟨_,YL,λB P H a b R Q q=>q [] H (zA.refl _) rfl⟩
def W0(h:EVm X C S e m)(t:AVm X C S es ms)(l:starEach (e::es) X.env=(false,eval e X.env)::starEach es X.env:=by rfl):AVm X C S (e::es) (zb m ms):=λf=>by
 obtain⟨z,w,n⟩:=h f;obtain⟨y,u,s⟩:=t f;refine⟨_,ve w u l,λB P H b a R Q q=>n B P H b a R _ ?_⟩;unfold zb at q;revert q;cases m a with
 |exc c fs=>exact id
 |wall=>exact id
 |ok x=>
  intro q v r d o;refine s B P r b a (R.keep d) _ ?_;have q:Uh C B H (yy C.W BA) Q ((ms a).bind λi=>.ok (x::i)):=q;revert q;cases ms a with
  |exc c fs=>exact id
  |wall=>exact id
  |ok i=>exact λq g p s2 j=>q (v::g) p (d.trans s2) ⟨v,g,rfl,o.same s2,j⟩
def Aa(h:AVm X C S es ms):EVm X C S (.List es pos) (VO ms):=λe=>by
 obtain⟨l,j,d⟩:=h e;refine⟨_,oz j,λB P H c f R Q q=>d B P H c f R _ (qA q λo g n m b a=>?_)⟩;split at a
 .rename_i i;exact⟨by rw[b.len];exact i,λp hp=>a _ _ (zA.upd hp) ⟨p,g,rfl,trivial,zd,b.same (zA.upd hp)⟩⟩
 .exact a.elim
end L2
namespace L2
open PySem
def CG{c:Type}{P:List c->Prop}{us:List c}(d:us.length=1)(h:∀a,P [a]):P us:=by rcases us with _|⟨a,_|⟨b,us⟩⟩<;>first|exact h _|cases d
def CH{d:Type}{P:List d->Prop}{us:List d}(e:us.length=2)(h:∀a b,P [a,b]):P us:=by rcases us with _|⟨a,_|⟨b,_|⟨c,us⟩⟩⟩<;>first|exact h _ _|cases e
def CJ{e:Type}{P:List e->Prop}{us:List e}(f:us.length=3)(h:∀a b c,P [a,b,c]):P us:=by rcases us with _|⟨a,_|⟨b,_|⟨c,_|⟨d,us⟩⟩⟩⟩<;>first|exact h _ _ _|cases f
def CK{f:Type}{P:List f->Prop}{us:List f}(g:us.length=4)(h:∀a b c d,P [a,b,c,d]):P us:=by rcases us with _|⟨a,_|⟨b,_|⟨c,_|⟨d,_|⟨e,us⟩⟩⟩⟩⟩<;>first|exact h _ _ _ _|cases g
def CL{g:Type}{P:List g->Prop}{us:List g}(i:us.length=5)(h:∀a b c d e,P [a,b,c,d,e]):P us:=by rcases us with _|⟨a,_|⟨b,_|⟨c,_|⟨d,_|⟨e,_|⟨f,us⟩⟩⟩⟩⟩⟩<;>first|exact h _ _ _ _ _|cases i
def gC(z:CXe P w outer H s (λ_ _ _=>False) v s'):False:=by obtain⟨_,_,_,_,_,_,_,_,_,_,_,_,_,_,_,_,_,_,q⟩:=z;exact q
def okb{b c:Type}{a:b}{f:b->Out c}:(Out.ok a).bind f=f a:=Eq.trans (Eq.refl _) (Eq.refl _)
section
variable {α σ:Type}{g:MG}{b:MS}{c:MT}{e:ME}{ρ ρ':Sto}{s t:MS}{m:ME}{x:PV}{mi:MI}{o:Out Fw}{i:Nat}
def ze(h:∃ρ',s ρ=.ok (.nx ρ')/\t ρ'=o):yj s t ρ=o:=let⟨_,a,b⟩:=h;(sH a).trans b
def KP{fr:EI}{xs:EO}(h:mi ρ=.ok xs)(a:lcP g c e xs (Q1 ρ fr) []=.ok x):mLC mi fr g c e ρ=.ok x:=by unfold mLC;rw[h,jL,a]
def zG(h:m ρ=.ok x):yW i m ρ=.ok (.nx (ρ.set i (some x))):=by unfold yW;rw[h,jL]
def qG(h:mi ρ=.ok xs)(a:JU g b xs ρ=o):wR mi g b ρ=o:=by unfold wR;rw[h,jL,a]
def mM{n:Nat}(h:n<=1000000):f7 [.i (n:Int)]=.ok (eN 0 n):=by unfold f7;exact(if_pos ⟨by omega,by omega⟩).trans (by rw[Int.toNat_natCast])
def Us(h:ms ρ=.ok [.i (n:Int)])(hn:n<=1000000):WS ms ρ=.ok (eN 0 n):=by unfold WS;rw[h,jL,mM hn]
def cz(h:m ρ=.ok (.l xs)):wd m ρ=.ok xs:=by unfold wd;rw[h,jL];rfl
def cA:eN 0 n=(List.range n).map λk=>PV.i ((k:Nat):Int):=by unfold eN;exact S4 λk _=>by congr 1;omega
theorem wW(p:α->PV)(J:σ->Sto->Prop)(f:σ->α->σ):∀(j:List α)(u:σ)(ρ:Sto),J u ρ->(∀x∈j,∀u ρ,J u ρ->∃d,g (p x) ρ=some d/\∃a,J (f u x) a/\(b d=.ok (.nx a)\/b d=.ok (.ct a)))->∃ρ',J (j.foldl f u) ρ'/\JU g b (j.map p) ρ=.ok (.nx ρ')
 |[],u,ρ,h,_=>⟨ρ,h,rfl⟩
 |x::j,u,ρ,h,q=>by obtain⟨d,w,a,r,l⟩:=q x E9 u ρ h;obtain⟨n,A,z⟩:=wW p J f j (f u x) a r λy v=>q y (E3 _ v);refine⟨n,A,?_⟩;rw[F3,Up,w,vB,jL];rcases l with l|l<;>(rw[l,jL];exact z)
theorem cB(n:α->PV)(J:Nat->Sto->Prop):∀(f:List α)(j:Nat)(ρ:Sto),J j ρ->(∀(k:Nat)(h:k<f.length)(ρ:Sto),J (j+k) ρ->∃a,g (n f[k]) ρ=some a/\∃d,J (j+k+1) d/\(b a=.ok (.nx d)\/b a=.ok (.ct d)))->∃ρ',J (j+f.length) ρ'/\JU g b (f.map n) ρ=.ok (.nx ρ')
 |[],j,ρ,h,_=>⟨ρ,h,rfl⟩
 |x::f,j,ρ,h,r=>by
  obtain⟨a,y,d,w,l⟩:=r 0 (a1X _) ρ h;obtain⟨p,z,v⟩:=cB n J f (j+1) d w λk u ρ q=>by have:=r (k+1) (a1g u) ρ (by rw[show j+(k+1)=j+1+k by omega];exact q);rw[show j+(k+1)+1=j+1+k+1 by omega]at this;exact this
  refine⟨p,by rw[E4,show j+(f.length+1)=j+1+f.length by omega];exact z,?_⟩;rw[F3,Up,show g (n x) ρ=some a from y,vB,jL];rcases l with l|l<;>(rw[l,jL];exact v)
def Q3(f:α->PV)(J:Nat->Sto->Prop)(xs:List α)(ρ:Sto)(h:J 0 ρ)(n:∀(k:Nat)(h:k<xs.length)(ρ:Sto),J k ρ->∃d,g (f xs[k]) ρ=some d/\∃a,J (k+1) a/\(b d=.ok (.nx a)\/b d=.ok (.ct a))):∃ρ',J xs.length ρ'/\JU g b (xs.map f) ρ=.ok (.nx ρ'):=by
 have:=cB (g:=g) (b:=b) f J xs 0 ρ h λk l ρ j=>by have:=n k l ρ (by rwa [a0R]at j);rwa [a0R]
 rwa [a0R]at this
def mN(J:Nat->Sto->Prop)(n:Nat)(ρ:Sto)(h:J 0 ρ)(l:∀(k:Nat),k<n->∀(ρ:Sto),J k ρ->∃d,g (.i (k:Int)) ρ=some d/\∃a,J (k+1) a/\(b d=.ok (.nx a)\/b d=.ok (.ct a))):∃ρ',J n ρ'/\JU g b (eN 0 n) ρ=.ok (.nx ρ'):=by
 have:=Q3 (g:=g) (b:=b) (λk:Nat=>PV.i (k:Int)) J (List.range n) ρ h λk j ρ f=>by rw[a04];exact l k (by rwa [O0]at j) ρ f
 rwa [O0,<- cA]at this
end
end L2
namespace L2
open PySem PySem.Spec PyProof.Rows PySem.W
section
variable {prog:Ez}{w:EF}{A:EK}{E:En}{h:Heap}{g:Array GenState}{d:Drawn}{t:Nat}{os:OsState}{a:Addr}{its:ET}{n:Nat}{sl:ER}
def Ut:typeLookup (.type "list") "keys"=pure none:=by rw[a2j,a1j];kernel_rfl
def KQ:typeLookup (.type "list") "__getattr__"=pure none:=by rw[a2j,a1j];kernel_rfl
def gD:isSubtype (.type "AttributeError") (.type "AttributeError")=pure true:=by rw[isSubtype_type];kernel_rfl
def sP(he:h.get? e=some ⟨.type "AttributeError",none,.fields #[T,.none,.none,.none,.bool false,X,rawInt 0,rawInt 0],#[]⟩)
  (l:∀c,(∀b o,b≠e->h.get? b=some o->c.get? b=some o)->(∃f,c.get? e=some f/\f.cls=.type "AttributeError")->Q () ⟨c,g,d,t,os⟩):
  wpAny (model prog w) A (noteAttr (.ref e) o name) Q E ⟨h,g,d,t,os⟩:=by
 have i:(⟨h,g,d,t,os⟩:Shared).TypeIs (.ref e) "AttributeError":=⟨_,he,rfl⟩;unfold noteAttr lacksNameAndObj;refine f8 ?_;refine f8 (T8 (b:=true) i gD ?_);rw[if_neg (by decide)];refine f8 (a2P he ?_);dsimp only;rw[if_neg (λz=>by cases(show false=true from z))];rw[if_neg (λz=>by cases(show false=true from z))];refine E2 ?_;rw[if_pos rfl];refine f8 (wpAny_rule ?_);refine f8 (a05 (T:="AttributeError") i ?_);dsimp only;unfold layMembers;refine f8 (a2P he ?_);dsimp only;refine wpAny_update he ?_;refine l _ (λb o j m=>(P0 _ _ (Ne.symm j)).trans m) ⟨_,T9 _ he rfl,rfl⟩
def d5(hh:A.handled=none)(hx:h.get? a=some ⟨.type "list",none,.seq its n,sl⟩)
  (hE:∀h' tk e,(∀b o,h.get? b=some o->h'.get? b=some o)->(∃oe,h'.get? e=some oe/\oe.cls=.type "AttributeError")->E (.ref e) ⟨h',g,d,tk,os⟩):
  wpAny (model prog w) A (Builtin.«object.__getattribute__» ⟨[.ref a,.str "keys" tk],[]⟩) Q E ⟨h,g,d,t,os⟩:=by
 have hT:(⟨h,g,d,t,os⟩:Shared).TypeIs (.ref a) "list":=⟨_,hx,rfl⟩;have f4:=Ut
 repeat(any_goals(first|assumption|wp_step))
 unfold raiseAttrError;refine f8 (wpAny_mkStr (f8 ?_) (by decide +kernel));unfold newExc newTuple;refine f8 (a1a ?_);refine f8 (m:=firstArgMember _ _) (a2v (a:=Value.none) (by simp only[firstArgMember];kernel_rfl) ?_);refine a1a ?_;refine f8 (a29 (f8 ?_));refine sP (G5 _ rfl) λh' hk he=>?_;unfold raiseNew;refine f8 (wpAny_handled ?_);rw[hh]
 first
  |refine a3h ?_
  |refine f8 (E2 (a3h ?_))
 exact hE _ _ _ (λb o e=>hk b o (F1 (F5 (E6 e) (by simp))) (v4 _ (v4 _ e))) he
def gE(m:A.handled=none)(j:h.get? a=some ⟨.type "list",none,.seq its n,sl⟩)
  (l:∀c i e,(∀b o,h.get? b=some o->c.get? b=some o)->(∃f,c.get? e=some f/\f.cls=.type "AttributeError")->R (.error (.ref e)) ⟨c,g,d,i,os⟩):
  codeAny (model prog w) A (.call (.builtin "list.__getattribute__") ⟨[.ref a,.str "keys" i],[]⟩) R ⟨h,g,d,t,os⟩:=
 a0A F.slot_list_getattribute.plain F.entry_list_ga (F.slot_list_getattribute.check _ _ _ _ _ _ _ _ (show(⟨h,g,d,t,os⟩:Shared).TypeIs (.ref a) "list" from⟨_,j,rfl⟩) (F.args_list_getattribute_2 _ _) (d5 m j l))
def sQ(v:A.handled=none)(l:h.get? a=some ⟨.type "list",none,.seq its n,sl⟩)(s:∀c i,(∀b o,h.get? b=some o->c.get? b=some o)->Q none ⟨c,g,d,i,os⟩):
  wpAny (model prog w) A (getAttr? (.ref a) "keys") Q E ⟨h,g,d,t,os⟩:=by
 have u:∀t,(⟨h,g,d,t,os⟩:Shared).TypeIs (.ref a) "list":=λt=>⟨_,l,rfl⟩;have q:=F.slot_list_getattribute.lookup;have p:=F.slot_list_getattribute.bind (.ref a);unfold getAttr? getAttrBy?;refine f8 (a29 ?_);refine f8 (a1B ?_);unfold getAttrBy;refine N8 ?_;refine f8 (a05 (T:="list") (u _) ?_);refine f8 (a2v q ?_);dsimp only;rw[if_neg (λz=>by cases(show false=true from z))];unfold getAttrByItsOwn hookBefore;rw[if_neg (λz=>by cases(show false=true from z))];refine f8 (E2 ?_);refine f8 (a1B ?_);refine N8 ?_;unfold callGetattribute;rw[if_neg (λz=>by cases(show false=true from z))];unfold boundAndCalled;refine f8 (a2v p ?_);dsimp only;refine a0L (gE v l λc i e m j=>?_);obtain⟨x,j,r⟩:=j;have f:(⟨c,g,d,i,os⟩:Shared).TypeIs (.ref e) "AttributeError":=⟨_,j,r⟩;dsimp only;unfold getattributeRaised;refine f8 (T8 (b:=true) f gD ?_);rw[if_pos rfl];unfold hookBehind;rw[if_neg (λz=>by cases(show false=true from z))];refine f8 (a2v KQ ?_);unfold hookOrError attributeErrorLeaves;dsimp only;rw[if_pos (show(!false)=true from rfl)];refine f8 (a3h ?_);refine f8 (T8 (b:=true) f gD ?_);rw[if_pos rfl];exact E2 (s c i m)
end
def ZQ:entryFor table "dict.update.loop"=some Builtin.«dict.update.loop»:=entryFor_of_tree (by kernel_rfl)
def jt:plainId "dict.update.loop"=true:=by decide +kernel
section
variable {prog:Ez}{w:EF}{A:EK}{R:Result->Shared->Prop}{I:Addr}{fp wr:Ff}{G:Array GenState->Array GenState->Prop}{n:Nat}{P:Fu}{St:Ft}{K:Type}[DecidableEq K] {knd:KeyKind prog w K}
def TupAt(h:Heap)(a:Addr)(k v:Value):Prop:=∃o m,h.get? a=some o/\o.cls=.type "tuple"/\o.data=.seq #[k,v] m
def i_(key:Nat->K)(val:FD):Nat->List (K×Value)
 |0=>[]
 |i+1=>stored (i_ key val i) (key i) (val i)
theorem W2(key:Nat->K)(val:FD):∀i,(i_ key val i).length<=i
 |0=>E5 _
 |i+1=>by
  have:=W2 key val i;unfold i_ stored;split
  .rw[u8];omega
  .rw[F7];show _+1<=_;omega
def mO(W:WalksS prog w A.in1 I fp wr G n P St)(D:Addr)(B:D∉fp)(key:Nat->K)(kv val:FD)(ad:ED)(hP:∀i v,P i v->v=.ref (ad i))(hk:∀i,i<n->knd.is (key i) (kv i)=true)(hw:∀i,i<n->ad i∉D::wr)(hn:n<=sizeLine):
  ∀(k i:Nat)(F:Tok)(s:Eu),n-i=k->i<=n->St i s->(∀j,j<n->TupAt s.heap (ad j) (kv j) (val j))->s.heap.DictOf knd D (i_ key val i)->
   (∀a,Moved (D::wr) G s a->a.heap.DictOf knd D (i_ key val n)->R (.ok (.ret .none)) a)->
   codeAny (model prog w) A (.builtin "dict.update.loop" ⟨[.ref D,.ref I,.int (i:Int) F,.none],[]⟩) R s:=by
 have p:D∉wr:=λh=>B (W.sub _ h);have d:∀b∈wr,b∈D::wr:=λb x=>E3 _ x;have z:∀{s a:Eu},Moved (D::wr) G s a->(∀j,j<n->TupAt s.heap (ad j) (kv j) (val j))->∀j,j<n->TupAt a.heap (ad j) (kv j) (val j):=λf h j hj=>by obtain⟨o,m,C,O,Q⟩:=h j hj;exact⟨o,m,f.heap _ _ (hw j hj) C,O,Q⟩
 intro k
 induction k with
 |zero=>
  intro i F s hk' hi g S Y E;have hin:i=n:=by omega
  subst hin;refine S5 ZQ ?_;rw[R9 jt _];show wpAny _ A.in1 (pyNext (.ref I) >>= _) _ _ s;refine f8 (W.done s _ _ g λa f=>?_);dsimp only;refine f8 (m:=Builtin.Dict.addKeywords D []) ?_;refine E2 ?_;exact E2 (E a (f.mono d) (by
   obtain⟨o,M,X,H,rest⟩:=Y;exact⟨o,M,X,f.heap D _ p H,rest⟩))
 |succ k ih=>
  intro i F s hk' hi g S Y E;have c:i<n:=by omega
  refine S5 ZQ ?_;rw[R9 jt _];show wpAny _ A.in1 (pyNext (.ref I) >>= _) _ _ s;refine f8 (W.item i s _ _ c g λv a J t f=>?_);cases hP i v J;have l:=f.mono d;have L:=z l S;obtain⟨o,m,C,O,Q⟩:=L i c;have N:a.heap.DictOf knd D (i_ key val i):=by obtain⟨o,M,X,H,rest⟩:=Y;exact⟨o,M,X,f.heap D _ p H,rest⟩
  have hT:a.TypeIs (.ref (ad i)) "tuple":=⟨o,C,O⟩;dsimp only;refine f8 (N8 (f8 (wpAny_tryCatch ?_)));unfold Builtin.Dict.pairItems;refine f8 (a05 (T:="tuple") hT ?_);rw[if_pos (by decide)];unfold seqItems?;refine f8 (f8 (a2P C ?_));rw[Q];dsimp only;refine E2 (E2 ?_);show wpAny _ _ (holding [kv i,val i] (dictSet D (kv i) (val i))) _ _ _;refine N8 (wpAny_dictSet_pairs (hsz:=F9 (W2 key val i) (F9 hi hn)) (hk i c) N λh' Z r=>?_);have e1:((i:Int)+1)=((i+1:Nat):Int):=by omega
  have u:Moved (D::wr) G s { a with heap:=h',toks:=a.toks+1 }:=l.then_heap (G4 _) λb o x e=>by rw[r.2 b (λh:b=D=>x (by rw[h];exact E9))];exact e
  refine E2 ⟨a0t jt _,?_⟩;rw[show rawInt ((i:Int)+1)=Value.int ((i+1:Nat):Int) 0 by rw[e1];rfl];refine ih (i+1) 0 _ (by omega) c (W.frame _ a _ _ t (G4 _) λb x o e=>?_) (z u S) Z λU q y=>E U (Moved.trans W.gtrans u q) y;rw[r.2 b (λh:b=D=>B (by rw[<- h];exact x))];exact e
end
section
variable {prog:Ez}{w:EF}{A:EK}{E:En}{s:Eu}{K:Type}[DecidableEq K] {knd:KeyKind prog w K}
def W3{l:Addr}{items:ET}{m:Nat}{sl:ER}{Q:En}{key:Nat->K}{kv val:FD}{ad:ED}(hh:A.handled=none)(hl:s.heap.get? l=some ⟨.type "list",none,.seq items m,sl⟩)
  (hP:∀i,i<items.size->items[i]?=some (.ref (ad i))) (ht:∀i,i<items.size->TupAt s.heap (ad i) (kv i) (val i)) (hk:∀i,i<items.size->knd.is (key i) (kv i)=true) (hn:items.size<=sizeLine)
  (h:∀h' tk,(∀b o,s.heap.get? b=some o->h'.get? b=some o)->h'.DictOf knd s.heap.objs.size (i_ key val items.size)->Q (.ref s.heap.objs.size) { s with heap:=h',toks:=tk }):
  wpAny (model prog w) A (call (.type "dict") [.ref l]) Q E s:=by
 refine callType_codes (Q₁:=λobj s₁=>obj=.ref s.heap.objs.size/\s₁={ s with heap:=s.heap.push { cls:=.type "dict",data:=.dict #[] } }) F.kt_called_dict (F.kt_typeCall_dict_1 _) F.entry_dict_init (kt_code_dict_new _ ⟨rfl,rfl⟩) ?_
 rintro obj s₁ ⟨rfl,rfl⟩
 have hnew:(s.heap.push { cls:=.type "dict",data:=.dict #[] }).DictOf knd s.heap.objs.size []:=Heap.DictOf.new s.heap;have hl':(s.heap.push { cls:=.type "dict",data:=.dict #[] }).get? l=some ⟨.type "list",none,.seq items m,sl⟩:=v4 _ hl;refine⟨hnew.typeIs,F.args_dict_init_2 _ _,?_⟩;unfold Builtin.«dict.__init__»;refine f8 ?_;unfold Builtin.Dict.selfAndRest;refine f8 (a1k hnew.typeIs ?_);show wpAny _ _ (pure (s.heap.objs.size,[Value.ref l])) _ _ _;refine E2 ?_;show wpAny _ _ (Builtin.Dict.updateFrom "dict.__init__" s.heap.objs.size (.ref l) [] .none) _ _ _;unfold Builtin.Dict.updateFrom;refine f8 (a05 (T:="list") ⟨_,hl',rfl⟩ ?_);rw[if_pos (by decide)];refine f8 ?_;refine sQ hh hl' λh1 t1 k1=>?_;rw[if_pos (show(none:Option Value).isNone=true from rfl)];refine f8 (wpAny_rule ?_);have hl1:h1.get? l=some ⟨.type "list",none,.seq items m,sl⟩:=k1 _ _ hl';have hil:h1.IsList l items:=⟨_,hl1,rfl,m,rfl⟩;refine f8 (a0w hil ?_);have D1:h1.DictOf knd s.heap.objs.size []:=by obtain⟨o,es,ep,ho,rest⟩:=hnew;exact⟨o,es,ep,k1 _ _ ho,rest⟩
 have ls:l<s.heap.objs.size:=E6 hl;have l1:l<h1.objs.size:=E6 hl1;have ds:s.heap.objs.size<h1.objs.size:=by obtain⟨o,_,_,ho,_⟩:=D1;exact E6 ho
 have hne:l≠h1.objs.size:=F1 l1;have kp:∀b o,h1.get? b=some o->(h1.push { cls:=.type "list_iterator",data:=.fields #[.ref l,.int 0 0] }).get? b=some o:=λb o e=>v4 _ e;have tl:∀j,j<items.size->ad j<s.heap.objs.size:=λj hj=>by obtain⟨o,_,h1,_⟩:=ht j hj;exact E6 h1
 refine E2 ⟨a0t jt _,mO (knd:=knd) (a2T (A:=A.in1.in1) hh h1.objs.size l hne items).toS s.heap.objs.size (by simp;exact⟨F1 ds,a0C ls⟩) key kv val ad (λi v hv=>?_) hk (λi hi=>?_) hn items.size 0 0 _ (by omega) (P4 _) ⟨⟨_,G5 _ rfl,rfl,rfl⟩,?_⟩ (λj hj=>?_) ?_ λs' hm hD=>?_⟩
 .have hi:i<items.size:=by
   by_cases c:i<items.size
   .exact c
   .rw[Array.getElem?_eq_none (by omega)]at hv;cases hv
  rw[hP i hi]at hv;cases hv;rfl
 .have:=tl i hi;intro hm;rcases F0.mp hm with e|hm
  .exact F1 this e
  .exact F1 (a1o this ds) (E8.mp hm)
 .exact⟨_,kp _ _ hl1,rfl,m,rfl⟩
 .obtain⟨o,q,e1,e2,e3⟩:=ht j hj;exact⟨o,q,kp _ _ (k1 _ _ (v4 _ e1)),e2,e3⟩
 .obtain⟨o,es,ep,ho,rest⟩:=D1;exact⟨o,es,ep,kp _ _ ho,rest⟩
 .rw[a2Y hm];refine⟨rfl,h s'.heap s'.toks (λb o e=>hm.heap b o (λhmem=>?_) (kp _ _ (k1 _ _ (v4 _ e)))) hD⟩;have:=E6 e;rcases F0.mp hmem with e'|hm
  .exact F1 this e'
  .exact F1 (a1o this ds) (E8.mp hm)
end
section
variable {X:Cx}
def W4(K:Fc)(H:Hp):List V->List (Key×V)->Prop
 |[],b=>b=[]
 |x::c,b=>∃a k v r,x=.ref a/\b=(k,v)::r/\SqT K H a [kV k,v]/\W4 K H c r
def gF(es:Et):List (Key×V):=es.foldl (λa b=>putK a b.1 b.2) []
def pw(K:Fc):List V->Hp->VK->Prop:=λc H Q=>∃(p:Addr)(b:EH)(a:Et),c=[.ref p]/\SqL K H p b/\W4 K H b a/\∀l,H l=none->Q (.ref l) (upd H l (.dK (gF a)))
theorem cC{d:Ep}{l:St}{H:Hp}{s:Eu}(I:Inv X d l H s):∀{j:EH}{g:Et}{b:EE},W4 X.K H j g->Vals j b->∃c:List (Addr×Value×Value),b=c.map (λp=>Value.ref p.1)/\c.length=g.length/\(∀p∈c,TupAt s.heap p.1 p.2.1 p.2.2)/\∀(i:Nat) p e,c[i]?=some p->g[i]?=some e->RelV (kV e.1) p.2.1/\RelV e.2 p.2.2
 |[],_,b,h,r=>by cases(show _=_ from h);cases r;exact⟨[],rfl,rfl,(λ_ h=>by cases h),λ_ _ _ h=>by cases h⟩
 |x::j,_,b,h,r=>by
  obtain⟨a,k,v,g,rfl,rfl,F,B⟩:=h;cases r with
  |cons q r=>
   cases q;obtain⟨c,G,w,A,J⟩:=cC I B r;obtain⟨K,t,⟨o,y,C,m,D⟩,_⟩:=I.tuple F;obtain⟨u,E,rfl,z,n⟩:=vals2 t;refine⟨(a,u,E)::c,by rw[G];rfl,by rw[E4,E4,w],λp hp=>?_,λi p e hp f=>?_⟩
   .rcases F0.mp hp with rfl|hp
    .exact⟨o,m,y,C,D⟩
    .exact A p hp
   .cases i with
    |zero=>rw[a09]at hp f;cases hp;cases f;exact⟨z,n⟩
    |succ i=>rw[L7]at hp f;exact J i p e hp f
theorem gG{es:Et}{key:Fq}{val:FD}:∀n,n<=es.length->(∀i e,i<n->es[i]?=some e->key i=e.1/\RelV e.2 (val i))->KV ((es.take n).foldl (λb c=>putK b c.1 c.2) []) (i_ key val n)
 |0,_,_=>.nil
 |n+1,hn,h=>by have a:n<es.length:=hn;have d:=E1 a;rw[List.take_succ,d,List.foldl_append];obtain⟨f,l⟩:=h n _ (N9 n) d;show KV (putK _ _ _) (stored (i_ key val n) (key n) (val n));rw[f];exact(gG n (a1L a) λi e j g=>h i e (a0g j) g).put _ l
def d6(W:X.calm=true):vz X (.type "dict") (pw X.K):=by
 intro O s σ H Z us Q I r h;obtain⟨p,Z,b,rfl,S,hp,q⟩:=h;obtain⟨u,rfl,R⟩:=vals1 r;cases R;obtain⟨x,B,⟨o,m,T,J,K,G⟩,hz⟩:=I.list S;obtain⟨g,M,E,U,N⟩:=cC I hp B;have f:x.length=b.length:=by rw[M,u8,E]
 have z:∀i,i<b.length->∃a,g[i]?=some a/\b[i]?=some (b.getD i (.inl 0,.non))/\g.getD i (0,.none,.none)=a:=λi c=>by
  have t:i<g.length:=by rw[E];exact c
  refine⟨g[i],E1 t,by rw[a0W,E1 c];rfl,by rw[a0W,E1 t];rfl⟩
 have d:x.toArray.size=b.length:=by simpa using f
 obtain⟨cls,D,F,A⟩:=o;dsimp only at J K G;subst J K G;refine O1 (n:=X.m) (by ac_rfl)<|W3 (knd:=zV X.prog X.w) (key:=λi=>(b.getD i (.inl 0,.non)).1) (kv:=λi=>(g.getD i (0,.none,.none)).2.1) (val:=λi=>(g.getD i (0,.none,.none)).2.2) (ad:=λi=>(g.getD i (0,.none,.none)).1) (I.ok.hd W) T (λi c=>?_) (λi c=>?_) (λi c=>?_) ?_ λh' P Y L hn=>?_
 .rw[d]at c;obtain⟨a,l,_,j⟩:=z i c;rw[j];simp[M,l]
 .rw[d]at c;obtain⟨a,l,_,j⟩:=z i c;rw[j];exact U a (O2 l)
 .rw[d]at c;obtain⟨a,l,v,j⟩:=z i c;rw[j];exact WE (N i a _ l v).1
 .rw[d,<- f,<- B.length];exact hz
 .rw[d]at L;have y:KV (gF b) (i_ (λi=>(b.getD i (.inl 0,.non)).1) (λi=>(g.getD i (0,.none,.none)).2.2) b.length):=by
   have:=gG (es:=b) (key:=λi=>(b.getD i (.inl 0,.non)).1) (val:=λi=>(g.getD i (0,.none,.none)).2.2) b.length (E5 _) λi e c v=>?_
   .rwa [List.take_length]at this
   .obtain⟨a,l,w,j⟩:=z i c;rw[v]at w;cases w;rw[j];exact⟨by rw[a0W,v],(N i a _ l v).2⟩
  have C:=I.hok.fresh (E5 s.heap.objs.size);refine⟨.ref s.heap.objs.size,_,I.laid (a:=s.heap.objs.size) (o:=.dK (gF b)) (t':=P) Y (E5 _) (V_ ?_ (T5.mpr (Ne.symm (F1 I.big))) y L),rfl,q _ C⟩;rw[y.length];refine F9 (W2 _ _ _) ?_;rw[<- f,<- B.length];exact hz
end
def lh:List PV->Option (List (Key×PV))
 |[]=>some []
 |.t [k,v]::a=>(pk k).bind λq=>(lh a).map ((q,v)::·)
 |_=>none
def KR(es:EA):List (Key×PV):=es.foldl (λa b=>dput a b.1 b.2) []
def y6:List PV->Out PV
 |[.d a]=>.ok (.d a)
 |[.l a]=>wJ ((lh a).map λb=>.d (KR b))
 |_=>.wall
section
variable {W:RC}{M:Es}{H:Hp}
theorem gH:∀{d:EO}{f:EH}{a:EA},yy W M H d f->lh d=some a->∃ev,W4 W.K H f ev/\yG W M H a ev
 |[],_,_,h,e=>by cases e;cases(show _=_ from h);exact⟨[],rfl,rfl⟩
 |x::d,_,a,h,e=>by
  obtain⟨v,r,rfl,i,l⟩:=h;unfold lh at e;split at e
  .cases ‹_::_=[]›
  .rename_i k y B b;cases b;obtain⟨q,m,e⟩:=L6.mp e;obtain⟨A,hz,rfl⟩:=v2.mp e;obtain⟨ev,n,s⟩:=gH l hz;obtain⟨p,u,rfl,hp,w,z,rfl,o,c,t,rfl,g,j⟩:=i;cases(show _=_ from j);cases YQ (yp.iff.mpr o) m;exact⟨(q,c)::ev,⟨p,q,c,ev,rfl,rfl,hp,n⟩,⟨c,ev,rfl,g,s⟩⟩
  .cases e
theorem Q4:∀{es:EA}{ev:Et}{a:EA}{av:Et},yG W M H a av->yG W M H es ev->yG W M H (es.foldl (λacc kv=>dput acc kv.1 kv.2) a) (ev.foldl (λacc kv=>putK acc kv.1 kv.2) av)
 |[],_,_,_,h,e=>by cases(show _=_ from e);exact h
 |kx::es,_,a,av,h,⟨v,q,e,h1,h2⟩=>by subst e;rw[R7,R7];exact Q4 (a:=dput a kx.1 kx.2) (av:=putK av kx.1 v) (h.put h1) h2
def mP:LfF W (λd H Q=>mJ d H Q\/pw W.K d H Q) y6:=λM C B H m d Q n h q=>by
 unfold y6 at q;split at q
 .obtain⟨v,r,rfl,⟨p,f,rfl,_,a,b⟩,c⟩:=h;cases(show _=_ from c);exact .inl ⟨p,f,rfl,a,λl a=>q _ _ (zA.upd a) (sr b a)⟩
 .obtain⟨z,e,q⟩:=yN q;obtain⟨f,g,rfl⟩:=v2.mp e;obtain⟨v,r,rfl,⟨p,ws,rfl,_,a,b⟩,c⟩:=h;cases(show _=_ from c);obtain⟨ev,i,j⟩:=gH b g;exact .inr ⟨p,ws,ev,rfl,SqL.of a,i,λl a=>q _ _ (zA.upd a) (sr (Q4 (show yG W M H [] []from rfl) j) a)⟩
 .exact q.elim
end
def qe(b:X.calm=true)(d:Gl X "dict")(f:X.mg "dict"=none)(c:AM X C S ws [e] ms)(he:starEach [e] X.env=[(false,eval e X.env)]:=by rfl):FM X C S (.Call (.Name "dict" p) [e] [] pos) (zg y6 ms):=
 b_ (λa=>a▸We.or (d6 b)) mP d f a2w c (he:=he)
section
variable {prog:Ez}{w:EF}{A:EK}{E:En}{s:Eu}
def len_dict:typeLookup (.type "dict") "__len__"=pure (some (.builtin "dict.__len__")):=by rw[a2j,a1j];kernel_rfl
def sU(a:s.TypeIs (.ref d) "dict")(h:Q false s):wpAny (model prog w) A (Builtin.List.listLengthHint (.ref d)) Q E s:=by
 unfold Builtin.List.listLengthHint;refine f8 (a2h a len_dict ?_);generalize hid:("dict.__len__":String)=id0
 (fail_if_success (clear hid id0));wp_delta
 rw[show splitId id0=some ("dict","__len__")from by subst hid;decide +kernel];dsimp only;refine f8 (T8 (b:=true) a (by rw[isSubtype_type];kernel_rfl) ?_);subst hid;rw[if_neg (by decide)];rw[if_pos (by decide +kernel)];refine f8 (a05 (T:="dict") a ?_);exact E2 h
variable {K:Type}[DecidableEq K] {knd:KeyKind prog w K}
def sV{Q:En}{d:Addr}{kvs:List (K×Value)}{ep:Nat}(Y:A.handled=none)(hd:(d==sysModules)=false)(hm:s.heap.DictAt knd d kvs ep)(hn:kvs.length<=sizeLine)
  (hQ:∀H W c M,(∀b o,s.heap.get? b=some o->H.get? b=some o)->H.get? s.heap.objs.size=some { cls:=.type "list",dict:=none,data:=.seq c M,slots:=#[] }->ItemsOf (λi v=>∃k x,kvs[i]?=some (k,x)/\knd.is k v=true) c kvs.length->Q (.ref s.heap.objs.size) { s with heap:=H,toks:=W }):
  wpAny (model prog w) A (call (.type "list") [.ref d]) Q E s:=by
 have P:d<s.heap.objs.size:=by obtain⟨o,_,X,_⟩:=hm;exact E6 X
 refine callType_codes (Q₁:=λC g=>C=.ref s.heap.objs.size/\g={ s with heap:=s.heap.push { cls:=.type "list",data:=.seq #[] } }) PySem.F.called_list (PySem.F.typeCall_list_1 _) PySem.F.entry_list_init
  (code_list_new _ ⟨rfl,rfl⟩) λC g n=>?_
 obtain⟨rfl,rfl⟩:=n;have I:(s.heap.push { cls:=.type "list",data:=.seq #[] }).get? s.heap.objs.size=some { cls:=.type "list",data:=.seq #[] }:=G5 _ rfl;refine⟨⟨_,I,rfl⟩,PySem.F.args_list_init_2 _ _,?_⟩;show wpAny _ _ (do let old<-Builtin.List.listItems (.ref s.heap.objs.size);Builtin.List.listUpdate (.ref s.heap.objs.size) (λ_=>#[]);letGo old.toList.reverse;Builtin.List.listExtendWith (.ref s.heap.objs.size) (.ref d) .none) _ _ _;refine f8 ?_;unfold Builtin.List.listItems;refine f8 (wpAny_seqItems I rfl (E2 ?_));show wpAny _ _ (updateSeq s.heap.objs.size (λ_=>#[]) >>= λ_=>letGo (#[]:Array Value).toList.reverse >>= λ_=>Builtin.List.listExtendWith (.ref s.heap.objs.size) (.ref d) .none) _ _ _;refine f8 (a2k I rfl ?_);have a:=T9 (Obj.mapSeq (λ_=>(#[]:Array Value))) I rfl;refine f8 (wpAny_letGo ?_);have L:∀b o,s.heap.get? b=some o->((s.heap.push { cls:=.type "list",data:=.seq #[] }).update s.heap.objs.size (Obj.mapSeq (λ_=>(#[]:Array Value)))).get? b=some o:=λb o e=>
  (P0 _ _ (a0C (E6 e))).trans (v4 _ e)
 generalize((s.heap.push { cls:=.type "list",data:=.seq #[] }).update s.heap.objs.size (Obj.mapSeq (λ_=>(#[]:Array Value))))=h2 at a L;have h:h2.DictAt knd d kvs ep:=hm.at' λo e=>L _ _ e;have D:∀{B:Eu},B.heap.DictAt knd d kvs ep->B.TypeIs (.ref d) "dict":=λz=>z.dictOf.typeIs;unfold Builtin.List.listExtendWith;refine f8 (a05 (T:="dict") (D h) ?_);have f:s.heap.objs.size≠d:=a0C P;have Z:Builtin.List.listSameRef (.ref s.heap.objs.size) (.ref d)=false:=by simp[Builtin.List.listSameRef,f]
 rw[if_neg (by rw[Z];decide)];refine f8 (wpAny_pyIter_dict hd h ?_);have j:∀b o,h2.get? b=some o->(h2.push { cls:=.type "dict_keyiterator",data:=.fields #[.ref d,.int 0 0,.int kvs.length 0,.int ep 0] }).get? b=some o:=λb o e=>v4 _ e;have l:(h2.push { cls:=.type "dict_keyiterator",data:=.fields #[.ref d,.int 0 0,.int kvs.length 0,.int ep 0] }).DictAt knd d kvs ep:=h.at' λo e=>j _ _ e;refine f8 (N8 (sU (D l) ?_));rw[if_pos (by decide)];refine f8 (wpAny_rule ?_);unfold Builtin.List.listTouch Builtin.List.listUpdate;have s2:s.heap.objs.size<h2.objs.size:=E6 a;have U:d≠h2.objs.size:=F1 (a1o P s2);have m:=j _ _ a;have r:(h2.push { cls:=.type "dict_keyiterator",data:=.fields #[.ref d,.int 0 0,.int kvs.length 0,.int ep 0] }).get? h2.objs.size=some { cls:=.type "dict_keyiterator",data:=.fields #[.ref d,.int 0 0,.int kvs.length 0,.int ep 0] }:=G5 _ rfl;have O:∀b o,s.heap.get? b=some o->(h2.push { cls:=.type "dict_keyiterator",data:=.fields #[.ref d,.int 0 0,.int kvs.length 0,.int ep 0] }).get? b=some o:=λb o e=>j _ _ (L b o e);generalize(h2.push { cls:=.type "dict_keyiterator",data:=.fields #[.ref d,.int 0 0,.int kvs.length 0,.int ep 0] })=h3 at m r O l;refine f8 (f8 (a2k m rfl ?_));have q:=T9 (Obj.mapSeq (λx:Array Value=>x.push Value.none)) m rfl;refine a2k q rfl ?_;have u:=T9 (Obj.mapSeq (λx:Array Value=>x.pop)) q rfl;have N:∀b o,b≠s.heap.objs.size->h3.get? b=some o->((h3.update s.heap.objs.size (Obj.mapSeq λx=>x.push Value.none)).update s.heap.objs.size (Obj.mapSeq λx=>x.pop)).get? b=some o:=λb o S e=>
  (P0 _ _ (Ne.symm S)).trans ((P0 _ _ (Ne.symm S)).trans e)
 have t:=l.at' (h':=((h3.update s.heap.objs.size (Obj.mapSeq λx=>x.push Value.none)).update s.heap.objs.size (Obj.mapSeq λx=>x.pop))) λo e=>N _ _ (Ne.symm f) e;have F:=N _ _ (a0C s2) r;have R:∀b o,s.heap.get? b=some o->((h3.update s.heap.objs.size (Obj.mapSeq λx=>x.push Value.none)).update s.heap.objs.size (Obj.mapSeq λx=>x.pop)).get? b=some o:=λb o e=>N b o (F1 (E6 e)) (O b o e);generalize((h3.update s.heap.objs.size (Obj.mapSeq λx=>x.push Value.none)).update s.heap.objs.size (Obj.mapSeq λx=>x.pop))=h5 at u t F R;refine E2 ⟨a0t PySem.F.plain_extend_loop _,codeAny_extend_loopS (Walks.dictKeys (knd:=knd) (A:=A.in1.in1) Y h2.objs.size d U kvs ep).toS hn s.heap.objs.size (by simp;exact⟨F1 s2,f⟩) _ kvs.length 0 _ _ _ rfl (P4 _) (show _/\_ from⟨⟨_,F,rfl,rfl⟩,t⟩) u (ItemsOf.nil _) λB c M G J y=>?_⟩;rw[a2Y G];refine⟨rfl,hQ B.heap B.toks c M (λb o e=>G.heap b o (λp=>?_) (R b o e)) J y⟩;have:=E6 e;rcases F0.mp p with e'|hm
 .exact F1 this e'
 .exact F1 (a1o this s2) (E8.mp hm)
end
section
variable {X:Cx}
def px:List V->Hp->VK->Prop:=λb H Q=>∃p a,b=[.ref p]/\Rd H p (.dK a)/\∀l,H l=none->Q (.ref l) (upd H l (.lst (a.map λc=>kV c.1)))
def d7(L:X.calm=true):vz X (.type "list") px:=by
 intro t s W H xs Y Q I r h;obtain⟨p,G,rfl,F,q⟩:=h;obtain⟨u,rfl,w⟩:=vals1 r;cases w;obtain⟨z,J,f,a,o,A,g,R,C,K,S,O,E⟩:=vf I.hok F;have i:f.length=G.length:=a.length.symm;refine O1 (n:=X.m) (by ac_rfl)<|sV (knd:=zV X.prog X.w) (kvs:=f) (ep:=g) (I.ok.hd L) J ⟨o,A,R,C,K,S,O,E⟩ (by rw[i];exact z) λU b m Z N B l hn=>?_
 refine cq (s:=s) (tk:=b) I (E5 _) N B ?_ ?_ ?_ q
 .rw[u8];exact z
 .rw[u8,l.1,i]
 .intro j x v e P;obtain⟨k,y,d,D⟩:=l.2 j v P;rw[G9]at e;obtain⟨c,M,rfl⟩:=v2.mp e;obtain⟨w',T⟩:=gk a (k:=c.1) (v:=c.2) M;rw[T]at d;cases d;exact Ur D
end
def yX:List PV->Out PV
 |[.l a]=>.ok (.l a)
 |[.t a]=>.ok (.l a)
 |[.sc a]=>.ok (.l (a.map PV.i))
 |[.d b]=>.ok (.l (b.map λc=>kP c.1))
 |_=>.wall
theorem cD{W:RC}{M:Es}{H:Hp}:∀{a:EA}{c:Et},yG W M H a c->yy W M H (a.map λb=>kP b.1) (c.map λf=>kV f.1)
 |[],_,h=>by cases(show _=_ from h);rfl
 |b::r,_,⟨v,q,e,g,d⟩=>by subst e;exact⟨_,_,rfl,gx _,cD d⟩
def mQ(L:LfF W r so):LfF W (λa H Q=>r a H Q\/px a H Q) yX:=λM C B H f a Q n h q=>by
 unfold yX at q;split at q
 .exact .inl (L M C B H _ a Q n h q)
 .exact .inl (L M C B H _ a Q n h q)
 .exact .inl (L M C B H _ a Q n h q)
 .obtain⟨v,r,rfl,⟨p,e,rfl,_,b,d⟩,c⟩:=h;cases(show _=_ from c);exact .inr ⟨p,e,rfl,b,λl b=>q _ _ (zA.upd b) (Uj (cD d) b)⟩
 .exact q.elim
def ju(b:X.calm=true)(d:Gl X "list")(f:X.mg "list"=none)(c:AM X C S ws [e] ms)(he:starEach [e] X.env=[(false,eval e X.env)]:=by rfl):FM X C S (.Call (.Name "list" p) [e] [] pos) (zg yX ms):=
 b_ (λa=>a▸X4.or (d7 b)) (mQ su) d f a2x c (he:=he)
end L2
namespace L2
section
variable {κ α:Type}[DecidableEq κ]
def mR{k:κ}:zK ([]:List (κ×α)) k=none:=rfl
def yq{k j:κ}{v:α}{r:List (κ×α)}:zK ((j,v)::r) k=if j=k then some v else zK r k:=by
 unfold zK;rw[a1p];by_cases h:j=k
 .simp[h]
 .simp[h]
theorem jU:∀{a:List (κ×α)}{k:κ},a.any (λb=>decide (b.1=k))=(zK a k).isSome
 |[],_=>rfl
 | (j,v)::r,k=>by
  rw[R4,yq,jU];by_cases h:j=k
  .simp[h]
  .simp[h]
theorem cE:∀{a:List (κ×α)}{k j:κ}{v:α},zK (a++[(k,v)]) j=(zK a j).or (if k=j then some v else none)
 |[],k,j,v=>by rw[a0Z,yq,mR];rfl
 | (i,u)::a,k,j,v=>by
  rw[List.cons_append,yq,yq,cE];by_cases h:i=j
  .rw[if_pos h,if_pos h];rfl
  .rw[if_neg h,if_neg h]
theorem W5:∀{a:List (κ×α)}{k j:κ}{v:α},zK (a.map λc=>if c.1=k then(c.1,v)else c) j=if k=j then(zK a j).map (λ_=>v)else zK a j
 |[],k,j,v=>by split<;>rfl
 | (i,u)::a,k,j,v=>by
  rw[F3];by_cases h:i=k
  .subst h;rw[if_pos rfl,yq,yq,W5];by_cases h:i=j
   .rw[if_pos h,if_pos h,if_pos h];rfl
   .rw[if_neg h,if_neg h,if_neg h,if_neg h]
  .rw[if_neg (show ¬((i,u):κ×α).1=k from h),yq,yq,W5];by_cases b:i=j
   .rw[if_pos b,if_pos b,if_neg (λz=>h (b.trans z.symm))]
   .rw[if_neg b,if_neg b]
def jv{a:List (κ×α)}{k j:κ}{v:α}:zK (dput a k v) j=if k=j then some v else zK a j:=by
 unfold dput;rw[jU];split
 .rename_i h;rw[W5];split
  .rename_i e;subst e;obtain⟨x,b⟩:=L4.mp h;rw[b];rfl
  .rfl
 .rename_i h;rw[cE];by_cases e:k=j
  .subst e;have:zK a k=none:=by cases q:zK a k with|none=>rfl|some x=>rw[q]at h;exact absurd rfl h
   rw[this,if_pos rfl];rfl
  .rw[if_neg e,if_neg e];cases zK a j<;>rfl
def vC{a:List (κ×α)}{k:κ}{v:α}:(dput a k v).map (·.1)=if(zK a k).isSome=true then a.map (·.1)else a.map (·.1)++[k]:=by
 unfold dput;rw[jU];split
 .rw[F4];refine S4 λb _=>?_;show(if b.1=k then(b.1,v)else b).1=b.1;split<;>rfl
 .rw[F8];rfl
theorem jV:∀{a:List (κ×α)}{k:κ}{v:α},zK a k=some v->(k,v)∈a
 |[],_,_,e=>by cases e
 | (j,u)::a,k,v,e=>by
  rw[yq]at e;split at e
  .rename_i h;subst h;cases e;exact E9
  .exact E3 _ (jV e)
def zZ{a:List (κ×α)}{k:κ}:(zK a k).isSome=true↔k∈a.map (·.1):=by
 rw[<- jU,List.any_eq_true];constructor
 .rintro ⟨b,h,e⟩;exact M6.mpr ⟨b,h,of_decide_eq_true e⟩
 .intro h;obtain⟨b,h,e⟩:=M6.mp h;exact⟨b,h,L9 e⟩
def zU{a:List (κ×α)}{k:κ}{v:α}(h:(a.map (·.1)).Nodup):((dput a k v).map (·.1)).Nodup:=by
 rw[vC];split
 .exact h
 .rename_i n;refine a0h.mpr ⟨h,by simp,λx c y b z=>?_⟩;obtain rfl:y=k:=by simpa using b
  subst z;exact n (zZ.mpr c)
theorem jC:∀{a b:List κ},a.Nodup->(∀x∈a,x∈b)->a.length<=b.length
 |[],b,_,_=>P4 _
 |x::a,b,nd,h=>by obtain⟨f,e⟩:=I0.mp nd;have d:=h x E9;have:=jC (b:=b.erase x) e λy c=>(List.mem_erase_of_ne (show y≠x from λz=>f (z▸c))).mpr (h y (E3 _ c));rw[List.length_erase_of_mem d]at this;have:=List.length_pos_of_mem d;rw[E4];omega
theorem qC:∀{a:List (κ×α)}{k:κ}{v:α},(a.map (·.1)).Nodup->(k,v)∈a->zK a k=some v
 | (j,u)::a,k,v,nd,h=>by
  obtain⟨c,b⟩:=I0.mp nd;rw[yq];rcases F0.mp h with e|h
  .cases e;rw[if_pos rfl]
  .rw[if_neg (λz=>c (M6.mpr ⟨_,h,z.symm⟩))];exact qC b h
end
end L2
namespace L2
open PySem PySem.Spec PyProof.Rows PySem.W
inductive HV where
 |v (x:PV)|g (k:Nat)|t (xs:List HV)
inductive Cell where
 |l (xs:List HV)|d (kvs:List (Key×HV))|z (kvs:List (Key×HV))|o (c:Nat) (fs:List (Str×HV))|y (b:Bool)|m (l c:Nat) (q:Str)|u (kvs:List (List Key×HV))|w (ks:EG)
abbrev AH:=List Cell
abbrev kJ:=List (Option HV)
structure HC where
 W:RC
 H0:Hp
 M0:Addr->Prop
def HM(Z:HC)(A:ED)(n:Nat):Addr->Prop:=λa=>(Z.M0 a\/Z.H0 a=none)/\∀k,k<n->A k≠a
mutual
def qR(W:RC)(M:Es)(A:ED)(n:Nat)(H:Hp):HV->V->Prop
 |.v x,v=>Rep W M H x v
 |.g k,v=>k<n/\v=.ref (A k)
 |.t b,v=>∃p a,v=.ref p/\SqT W.K H p a/\yD W M A n H b a
def yD(W:RC)(M:Es)(A:ED)(n:Nat)(H:Hp):List HV->List V->Prop
 |[],a=>a=[]
 |x::b,a=>∃v r,a=v::r/\qR W M A n H x v/\yD W M A n H b r
end
def yJ{κ:Type}(R:HV->V->Prop):List (κ×HV)->List (κ×V)->Prop
 |[],a=>a=[]
 |b::r,a=>∃v q,a=(b.1,v)::q/\R b.2 v/\yJ R r q
section
variable {W:RC}{M M':Es}{A A':ED}{n n':Nat}{H H':Hp}
mutual
theorem qR.gen(f:Fr M H H')(s:∀a,M a->H a≠none->M' a)(hn:n<=n')(b:∀k,k<n->A' k=A k):∀{x:HV}{v:V},qR W M A n H x v->qR W M' A' n' H' x v
 |.v x,v,h=>Rep.gen f s h
 |.g k,v,h=>⟨F5 h.1 hn,by rw[b k h.1];exact h.2⟩
 |.t d,v,h=>by unfold qR at h ⊢;obtain⟨p,c,e,r,q⟩:=h;exact⟨p,c,e,f.sqT r,yD.gen f s hn b q⟩
theorem yD.gen(f:Fr M H H')(s:∀a,M a->H a≠none->M' a)(hn:n<=n')(b:∀k,k<n->A' k=A k):∀{x:List HV}{v:EH},yD W M A n H x v->yD W M' A' n' H' x v
 |[],v,h=>h
 |x::g,i,h=>by unfold yD at h ⊢;obtain⟨v,r,e,d,c⟩:=h;exact⟨v,r,e,qR.gen f s hn b d,yD.gen f s hn b c⟩
end
def yJ.imp{κ:Type}{R d:HV->V->Prop}(h:∀x v,R x v->d x v):∀{c:List (κ×HV)}{f:List (κ×V)},yJ R c f->yJ d c f
 |[],_,q=>q
 |_::_,_,⟨v,q,e,a,b⟩=>⟨v,q,e,h _ _ a,yJ.imp h b⟩
def Mde(l c:Nat)(q:Str)(H:Hp)(d:ET):Prop:=∃a b ws t,d = #[rawInt l,rawInt c,.ref a]/\H a=some (.frz b (.own a))/\b.data=.fields ws/\ws[1]?=some (.str q t)
def Mde.gen(f:Fr M H H'):Mde l c q H ps->Mde l c q H' ps:=λ⟨b,a,ws,t,e,h,r⟩=>⟨b,a,ws,t,e,f _ _ h (.inr trivial),r⟩
def W6(W:RC)(M:Es)(A:ED)(n:Nat)(H:Hp)(p:Addr):Cell->Prop
 |.l h=>∃f,H p=some (.lst f)/\yD W M A n H h f
 |.d a=>∃d,H p=some (.dK d)/\yJ (qR W M A n H) a d
 |.z a=>∃o d,H p=some (.frz o (.dK d))/\yJ (qR W M A n H) a d
 |.o c fs=>∃g d,H p=some (.ins (W.cls c) g d)/\yJ (qR W M A n H) fs d
 |.y b=>p=W.cls 1000/\∃e,H p=some (.tbl e)/\(b=true->e = #[])
 |.m l c q=>p=W.cls 1000/\∃e,H p=some (.tbl e)/\Mde l c q H e
 |.u a=>∃d,H p=some (.dT d)/\yJ (qR W M A n H) a d
 |.w ks=>H p=some (.tup (ks.map kV))
def W6.gen{p:Addr}(hp:H' p=H p)(f:Fr M H H')(s:∀a,M a->H a≠none->M' a)(hn:n<=n')(d:∀k,k<n->A' k=A k):∀{c:Cell},W6 W M A n H p c->W6 W M' A' n' H' p c
 |.l _,⟨j,e,q⟩=>⟨j,hp.trans e,q.gen f s hn d⟩
 |.d _,⟨b,e,q⟩=>⟨b,hp.trans e,q.imp λ_ _=>qR.gen f s hn d⟩
 |.z _,⟨o,b,e,q⟩=>⟨o,b,hp.trans e,q.imp λ_ _=>qR.gen f s hn d⟩
 |.o _ _,⟨i,b,e,q⟩=>⟨i,b,hp.trans e,q.imp λ_ _=>qR.gen f s hn d⟩
 |.y _,⟨h,g,e,q⟩=>⟨h,g,hp.trans e,q⟩
 |.m _ _ _,⟨h,g,e,q⟩=>⟨h,g,hp.trans e,q.gen f⟩
 |.u _,⟨b,e,q⟩=>⟨b,hp.trans e,q.imp λ_ _=>qR.gen f s hn d⟩
 |.w _,e=>hp.trans e
def W6.ob{p:Addr}:∀{c:Cell},W6 W M A n H p c->∃o,H p=some o
 |.l _,⟨_,e,_⟩=>⟨_,e⟩
 |.d _,⟨_,e,_⟩=>⟨_,e⟩
 |.z _,⟨_,_,e,_⟩=>⟨_,e⟩
 |.o _ _,⟨_,_,e,_⟩=>⟨_,e⟩
 |.y _,⟨_,_,e,_⟩=>⟨_,e⟩
 |.m _ _ _,⟨_,_,e,_⟩=>⟨_,e⟩
 |.u _,⟨_,e,_⟩=>⟨_,e⟩
 |.w _,e=>⟨_,e⟩
end
structure Gro(Z:HC)(A:ED)(n:Nat)(H:Hp)(A':ED)(n':Nat)(H':Hp):Prop where
 le:n<=n'
 agr:∀k,k<n->A' k=A k
 fresh:∀k,n<=k->k<n'->H (A' k)=none
 fr:Fr (HM Z A n) H H'
 dom:∀a,H' a=none->H a=none
structure HH(Z:HC)(A:ED)(H:Hp)(G:AH):Prop where
 same:zA Z.H0 H
 cell:∀(k:Nat) c,G[k]?=some c->W6 Z.W (HM Z A G.length) A G.length H (A k) c
 inj:∀j k,j<G.length->k<G.length->A j=A k->j=k
 own:∀k,k<G.length->Z.H0 (A k)=none
structure HR(Z:HC)(A:ED)(H:Hp)(σ:St)(ρ:kJ)(G:AH):Prop extends HH Z A H G where
 len:σ.length=ρ.length
 var:∀(i:Nat) x,ρ[i]?=some (some x)->∃v,σ[i]?=some (some v)/\qR Z.W (HM Z A G.length) A G.length H x v
section
variable {Z:HC}{A A' A'':ED}{n n' n'':Nat}{H H' H'':Hp}{G G':AH}{σ:St}{ρ:kJ}
def Gro.sM(g:Gro Z A n H A' n' H'):∀a,HM Z A n a->H a≠none->HM Z A' n' a:=λa m h=>⟨m.1,λk b e=>by
 by_cases c:k<n
 .exact m.2 k c (by rw[<- g.agr k c];exact e)
 .exact h (e▸g.fresh k (by omega) b)⟩
def Gro.same(s:zA H H'):Gro Z A n H A n H':=⟨E5 _,λ_ _=>rfl,λk a b=>absurd b (by omega),s.fr,λa h=>zA.none s h⟩
def Gro.refl:Gro Z A n H A n H:=Gro.same (zA.refl _)
def Gro.trans(g:Gro Z A n H A' n' H')(k:Gro Z A' n' H' A'' n'' H''):Gro Z A n H A'' n'' H'':=by
 refine⟨F9 g.le k.le,λj b=>(k.agr j (F5 b g.le)).trans (g.agr j b),λj e d=>?_,λa o h m=>?_,λa h=>g.dom a (k.dom a h)⟩
 .by_cases c:j<n'
  .rw[k.agr j c];exact g.fresh j e c
  .exact g.dom _ (k.fresh j (by omega) d)
 .refine k.fr a o (g.fr a o h m) (m.imp (λm=>g.sM a m (by rw[h];exact λz=>by cases z)) id)
def qR.gro(g:Gro Z A n H A' n' H')(h:qR W (HM Z A n) A n H x v):qR W (HM Z A' n') A' n' H' x v:=h.gen g.fr g.sM g.le g.agr
def yD.gro(g:Gro Z A n H A' n' H')(h:yD W (HM Z A n) A n H x v):yD W (HM Z A' n') A' n' H' x v:=h.gen g.fr g.sM g.le g.agr
def HR.gro(R:HR Z A H σ ρ G)(h:HH Z A' H' G')(g:Gro Z A G.length H A' G'.length H'):HR Z A' H' σ ρ G':=
 ⟨h,R.len,λi x e=>let⟨v,h1,h2⟩:=R.var i x e;⟨v,h1,h2.gro g⟩⟩
def HH.ob(h:HH Z A H G)(a:k<G.length):∃o,H (A k)=some o:=(h.cell k _ (E1 a)).ob
def HH.keep(h:HH Z A H G)(s:zA H H'):HH Z A H' G:=⟨h.same.trans s,λk c e=>by
 have q:=h.cell k c e;obtain⟨o,a⟩:=q.ob;exact q.gen ((s _ _ a).trans a.symm) s.fr (λ_ m _=>m) (E5 _) λ_ _=>rfl,h.inj,h.own⟩
def HH.new(h:HH Z A H G):New (HM Z A G.length) H:=λp hp=>⟨.inr (zA.none h.same hp),λk b e=>by
 obtain⟨o,a⟩:=h.ob b;rw[e,hp]at a;cases a⟩
def HR.keep(R:HR Z A H σ ρ G)(s:zA H H'):HR Z A H' σ ρ G:=R.gro (R.toHH.keep s) (Gro.same s)
def exA(A:ED)(n:Nat)(p:Addr):Nat->Addr:=λk=>if k=n then p else A k
def Jr:exA A n p n=p:=if_pos rfl
def YX(h:k<n):exA A n p k=A k:=if_neg (by omega)
def Gro.ext(s:zA H H')(hp:H p=none):Gro Z A n H (exA A n p) (n+1) H':=
 ⟨G4 _,λk b=>YX b,λk d c=>by rw[show k=n by omega,Jr];exact hp,s.fr,λa h=>zA.none s h⟩
def HH.alloc(h:HH Z A H G)(s:zA H H')(hp:H p=none)(t:W6 Z.W (HM Z (exA A G.length p) (G.length+1)) (exA A G.length p) (G.length+1) H' p c):HH Z (exA A G.length p) H' (G++[c]):=by
 have g:Gro Z A G.length H (exA A G.length p) (G.length+1) H':=Gro.ext s hp;have i:(G++[c]).length=G.length+1:=by simp
 have m:∀k,k<G.length->A k≠p:=λk a e=>by obtain⟨o,b⟩:=h.ob a;rw[e,hp]at b;cases b
 refine⟨h.same.trans s,λk d e=>?_,λj k r a e=>?_,λk a=>?_⟩
 .rw[i];by_cases a:k<G.length
  .rw[M8 a]at e;have q:=h.cell k d e;obtain⟨o,b⟩:=q.ob;rw[YX a];exact q.gen ((s _ _ b).trans b.symm) g.fr g.sM g.le g.agr
  .have v:=(E7.mp e).1;have u:k=G.length:=by omega
   subst u;rw[N7 (E5 _),a0d]at e;cases e;rw[Jr];exact t
 .rw[i]at r a;by_cases f:j=G.length
  .by_cases l:k=G.length
   .rw[f,l]
   .rw[f,Jr,YX (by omega)]at e;exact absurd e.symm (m k (by omega))
  .by_cases l:k=G.length
   .rw[l,Jr,YX (by omega)]at e;exact absurd e (m j (by omega))
   .rw[YX (by omega),YX (by omega)]at e;exact h.inj j k (by omega) (by omega) e
 .rw[i]at a;by_cases f:k=G.length
  .rw[f,Jr];exact zA.none h.same hp
  .rw[YX (by omega)];exact h.own k (by omega)
def HH.frw(h:HH Z A H G)(c:k<G.length)(f:H (A k)=Option.some o0)(d:¬Imm o0):Gro Z A G.length H A G.length (upd H (A k) o):=by
 refine⟨E5 _,λ_ _=>rfl,λk a b=>absurd b (by omega),λa q e m=>?_,λa e=>?_⟩
 .have:a≠A k:=λz=>by
   rcases m with m|m
   .exact m.2 k c z.symm
   .rw[z,f]at e;cases e;exact d m
  rw[zh this];exact e
 .by_cases z:a=A k
  .rw[z,zd]at e;cases e
  .rw[zh z]at e;exact e
def HH.write(h:HH Z A H G)(f:k<G.length)(t:H (A k)=Option.some o0)(s:¬Imm o0)(p:W6 Z.W (HM Z A G.length) A G.length (upd H (A k) o) (A k) c):HH Z A (upd H (A k) o) (G.set k c):=by
 have g:=h.frw (o:=o) f t s;have l:(G.set k c).length=G.length:=M5 ..;refine⟨λa q e=>?_,λj d e=>?_,λi j r b=>h.inj i j (l▸r) (l▸b),λj b=>h.own j (l▸b)⟩
 .have:a≠A k:=λz=>by rw[z,h.own k f]at e;cases e
  rw[zh this];exact h.same a q e
 .rw[l];by_cases b:k=j
  .subst b;rw[M7 f]at e;cases e;exact p
  .rw[M3 b]at e;have m:=(E7.mp e).1;exact(h.cell j d e).gen (zh λz=>b (h.inj j k m f z).symm) g.fr g.sM g.le g.agr
def HR.set(R:HR Z A H σ ρ G)(c:qR Z.W (HM Z A G.length) A G.length H x v):HR Z A H (σ.set i (Option.some v)) (ρ.set i (Option.some x)) G:=by
 refine⟨R.toHH,by rw[M5,M5];exact R.len,λj y e=>?_⟩;by_cases a:i=j
 .subst a;have b:i<ρ.length:=by
   have:=(E7.mp e).1
   rwa [M5]at this
  rw[M7 b]at e;cases e;exact⟨v,by rw[M7 (by rw[R.len];exact b)],c⟩
 .rw[M3 a]at e ⊢;exact R.var j y e
end
inductive HX(α:Type)where
 |ok (a:α) (G:AH)|exc (c:Nat) (fs:EV) (G:AH)|wall
def HX.bind{d b:Type}:HX d->(d->AH->HX b)->HX b
 |.ok a G,f=>f a G
 |.exc c fs G,_=>.exc c fs G
 |.wall,_=>.wall
def mS(Z:HC)(E:XK)(A:ED)(n:Nat)(H:Hp)(c:Nat)(fs:EV)(G':AH):Prop:=∀d a e b f,HH Z d a G'->Gro Z A n H d G'.length a->a e=some (XC e (Z.W.cls c) b)->a b=some (XD b f)->vA Z.W (HM Z d G'.length) a fs f->E (.ref e) (some b) a
def HPx{e:Type}(Z:HC)(E:XK)(A:ED)(n:Nat)(H:Hp)(K:e->(Nat->Addr)->Hp->AH->Prop):HX e->Prop
 |.ok x a=>∀d b,HH Z d b a->Gro Z A n H d a.length b->K x d b a
 |.exc c fs a=>mS Z E A n H c fs a
 |.wall=>False
section
variable {α β:Type}{K:β->(Nat->Addr)->Hp->AH->Prop}{K':α->(Nat->Addr)->Hp->AH->Prop}
def mS.gro(h:mS Z E A n H c fs G)(g:Gro Z A n H A' n' H'):mS Z E A' n' H' c fs G:=λa j e f i d b=>h a j e f i d (g.trans b)
def HPx.gro{o:HX β}(h:HPx Z E A n H K o)(g:Gro Z A n H A' n' H'):HPx Z E A' n' H' K o:=by
 cases o with
 |ok x f=>exact λa e d b=>h a e d (g.trans b)
 |exc c fs f=>exact mS.gro h g
 |wall=>exact h
def HPx.bind{o:HX α}{f:α->AH->HX β}(h:HPx Z E A n H K (o.bind f))(k:∀x d b a,HH Z d b a->Gro Z A n H d a.length b->HPx Z E d a.length b K (f x a)->K' x d b a):HPx Z E A n H K' o:=by
 cases o with
 |ok x a=>exact λg j i e=>k x g j a i e (HPx.gro (o:=f x a) h e)
 |exc c fs a=>exact h
 |wall=>exact h
end
abbrev HME:=kJ->AH->HX HV
abbrev HMT:=kJ->AH->HX Bool
abbrev HMA:=kJ->AH->HX (List HV)
def KV'(Z:HC)(Q:VK):HV->(Nat->Addr)->Hp->AH->Prop:=λx c b a=>∀v,qR Z.W (HM Z c a.length) c a.length b x v->Q v b
def KT'(Q:Bool->Hp->Prop):Bool->(Nat->Addr)->Hp->AH->Prop:=λb _ a _=>Q b a
def KA'(Z:HC)(Q:List V->Hp->Prop):List HV->(Nat->Addr)->Hp->AH->Prop:=λe b a d=>∀c,yD Z.W (HM Z b d.length) b d.length a e c->Q c a
def HE(X:Cx)(W:RC)(E:XK)(e:Ey)(m:HME):Prop:=X.K=W.K->∃a,PE X e a/\∀(Z:HC),Z.W=W->∀A H b c G,HR Z A H b c G->∀Q,HPx Z E A G.length H (KV' Z Q) (m c G)->a b H Q
def HT(X:Cx)(W:RC)(E:XK)(e:Ey)(m:HMT):Prop:=X.K=W.K->∃a,PT X e a/\∀(Z:HC),Z.W=W->∀A H b c G,HR Z A H b c G->∀Q,HPx Z E A G.length H (KT' Q) (m c G)->a b H Q
def HA(X:Cx)(W:RC)(E:XK)(es:Ex)(m:HMA):Prop:=X.K=W.K->∃a,PA X es a/\∀(Z:HC),Z.W=W->∀A H b c G,HR Z A H b c G->∀Q,HPx Z E A G.length H (KA' Z Q) (m c G)->a b H Q
mutual
def imm:PV->Bool
 |.i _=>true | .s _=>true | .b _=>true | .n=>true
 |.t a=>pA a
 |.l _=>false | .d _=>false | .o _ _=>false | .x _ _=>false | .sc _=>false | .dt _=>false
def pA:List PV->Bool
 |[]=>true
 |x::a=>imm x&&pA a
end
def pB:List (Str×PV)->Bool
 |[]=>true
 |x::a=>imm x.2&&pB a
section
variable {W:RC}{M M':Es}{H:Hp}
mutual
theorem KS:∀{x:PV}{v:V},imm x=true->Rep W M H x v->Rep W M' H x v
 |.i _,_,_,h=>h
 |.s _,_,_,h=>h
 |.b _,_,_,h=>h
 |.n,_,_,h=>h
 |.t c,_,e,h=>by unfold Rep at h ⊢;unfold imm at e;obtain⟨p,b,a,r,q⟩:=h;exact⟨p,b,a,r,W7 e q⟩
 |.l _,_,e,_=>by unfold imm at e;cases e
 |.d _,_,e,_=>by unfold imm at e;cases e
 |.o _ _,_,e,_=>by unfold imm at e;cases e
 |.x _ _,_,e,_=>by unfold imm at e;cases e
 |.sc _,_,e,_=>by unfold imm at e;cases e
 |.dt _,_,e,_=>by unfold imm at e;cases e
theorem W7:∀{x:EO}{v:EH},pA x=true->yy W M H x v->yy W M' H x v
 |[],_,_,h=>h
 |x::d,_,e,h=>by unfold pA at e;simp only[Bool.and_eq_true]at e;obtain⟨v,r,a,c,b⟩:=h;exact⟨v,r,a,KS e.1 c,W7 e.2 b⟩
end
theorem ZA:∀{x:EV}{v:E_},pB x=true->vA W M H x v->vA W M' H x v
 |[],_,_,h=>h
 |x::d,_,e,h=>by unfold pB at e;simp only[Bool.and_eq_true]at e;obtain⟨v,r,a,c,b⟩:=h;exact⟨v,r,a,KS e.1 c,ZA e.2 b⟩
def Q5:List Bool->kJ->Option Sto
 |_,[]=>some []
 |[],_::a=>(Q5 [] a).map (none::·)
 |false::bs,_::a=>(Q5 bs a).map (none::·)
 |true::bs,some (.v x)::a=>(Q5 bs a).map (some x::·)
 |true::_,_=>none
def cF(f:HV->Option PV):List HV->Option (List PV)
 |[]=>some []
 |x::a=>(f x).bind λy=>(cF f a).map (y::·)
def Q6{κ:Type}(f:HV->Option PV):List (κ×HV)->Option (List (κ×PV))
 |[]=>some []
 |x::a=>(f x.2).bind λy=>(Q6 f a).map ((x.1,y)::·)
def kG(G:AH):Nat->HV->Option PV
 |0,_=>none
 |_+1,.v x=>some x
 |n+1,.t b=>(cF (kG G n) b).map .t
 |n+1,.g k=>match G[k]? with
  |some (.l b)=>(cF (kG G n) b).map .l
  |some (.d a)=>(Q6 (kG G n) a).map .d
  |some (.z a)=>(Q6 (kG G n) a).map .d
  |some (.o c fs)=>(Q6 (kG G n) fs).map (.o c)
  |some (.w ks)=>some (.t (ks.map kP))
  |_=>none
def QS(G:AH):List Bool->kJ->Option Sto
 |_,[]=>some []
 |[],_::a=>(QS G [] a).map (none::·)
 |false::bs,_::a=>(QS G bs a).map (none::·)
 |true::bs,some x::a=>(kG G 8 x).bind λy=>(QS G bs a).map (some y::·)
 |true::_,none::_=>none
theorem YY{f:HV->Option PV}{N:Es}(hf:∀x v y,qR W M A n H x v->f x=some y->Rep W N H y v):∀{b:List HV}{c:EH}{a:EO},yD W M A n H b c->cF f b=some a->yy W N H a c
 |[],_,_,h,e=>by cases e;exact h
 |x::b,_,a,h,e=>by obtain⟨v,r,rfl,i,g⟩:=h;unfold cF at e;obtain⟨y,d,e⟩:=L6.mp e;obtain⟨l,j,rfl⟩:=v2.mp e;exact⟨v,r,rfl,hf _ _ _ i d,YY hf g j⟩
theorem J9{f:HV->Option PV}{N:Es}(hf:∀x v y,qR W M A n H x v->f x=some y->Rep W N H y v):∀{b:List (Key×HV)}{c:Et}{a:EA},yJ (qR W M A n H) b c->Q6 f b=some a->yG W N H a c
 |[],_,_,h,e=>by cases e;exact h
 |x::b,_,a,h,e=>by obtain⟨v,r,rfl,i,g⟩:=h;unfold Q6 at e;obtain⟨y,d,e⟩:=L6.mp e;obtain⟨l,j,rfl⟩:=v2.mp e;exact⟨v,r,rfl,hf _ _ _ i d,J9 hf g j⟩
theorem cH{f:HV->Option PV}{N:Es}(hf:∀x v y,qR W M A n H x v->f x=some y->Rep W N H y v):∀{b:List (Str×HV)}{c:E_}{a:EV},yJ (qR W M A n H) b c->Q6 f b=some a->vA W N H a c
 |[],_,_,h,e=>by cases e;exact h
 |x::b,_,a,h,e=>by obtain⟨v,r,rfl,i,g⟩:=h;unfold Q6 at e;obtain⟨y,d,e⟩:=L6.mp e;obtain⟨l,j,rfl⟩:=v2.mp e;exact⟨v,r,rfl,hf _ _ _ i d,cH hf g j⟩
end
section
variable {Z:HC}{A:ED}{H:Hp}{G:AH}{σ:St}{ρ:kJ}
theorem aV{W:RC}{M:Es}{H:Hp}:∀ks:List Key,yy W M H (ks.map kP) (ks.map kV)
 |[]=>rfl
 |k::ks=>⟨_,_,rfl,gx k,aV ks⟩
theorem Q7(h:HH Z A H G):∀(n:Nat)(x:HV)(v:V)(y:PV),qR Z.W (HM Z A G.length) A G.length H x v->kG G n x=some y->Rep Z.W (λ_=>True) H y v
 |0,_,_,_,_,e=>by cases e
 |n+1,.v x,v,y,r,e=>by cases e;exact Rep.sub r λ_ _ _=>trivial
 |n+1,.t i,v,y,r,e=>by unfold kG at e;obtain⟨g,b,rfl⟩:=v2.mp e;unfold qR at r;obtain⟨p,d,rfl,s,q⟩:=r;exact⟨p,d,rfl,s,YY (Q7 h n) q b⟩
 |n+1,.g k,v,y,r,e=>by
  obtain⟨l,rfl⟩:=r;unfold kG at e;split at e
  .rename_i i a;obtain⟨g,b,rfl⟩:=v2.mp e;obtain⟨d,f,q⟩:=h.cell k _ a;exact⟨A k,d,rfl,trivial,f,YY (Q7 h n) q b⟩
  .rename_i i a;obtain⟨g,b,rfl⟩:=v2.mp e;obtain⟨d,f,q⟩:=h.cell k _ a;exact⟨A k,d,rfl,trivial,.inl f,J9 (Q7 h n) q b⟩
  .rename_i i a;obtain⟨g,b,rfl⟩:=v2.mp e;obtain⟨o,d,f,q⟩:=h.cell k _ a;exact⟨A k,d,rfl,trivial,.inr ⟨o,f⟩,J9 (Q7 h n) q b⟩
  .rename_i c i a;obtain⟨g,b,rfl⟩:=v2.mp e;obtain⟨j,d,f,q⟩:=h.cell k _ a;exact⟨A k,j,d,rfl,trivial,f,cH (Q7 h n) q b⟩
  .rename_i ks a;cases e;exact⟨A k,_,rfl,.inl (.inl (h.cell k _ a)),aV ks⟩
  .cases e
theorem YZ:∀{bs:Ew}{ρ:kJ}{r:Sto}{i:Nat}{x:PV},Q5 bs ρ=some r->r[i]?=some (some x)->ρ[i]?=some (some (.v x))
 |_,[],r,i,x,e,h=>by unfold Q5 at e;cases e;simp at h
 |[],_::ρ,r,i,x,e,h=>by
  unfold Q5 at e;obtain⟨b,a,rfl⟩:=v2.mp e;cases i with
  |zero=>cases h
  |succ i=>rw[L7]at h ⊢;exact YZ a h
 |false::bs,_::ρ,r,i,x,e,h=>by
  unfold Q5 at e;obtain⟨b,a,rfl⟩:=v2.mp e;cases i with
  |zero=>cases h
  |succ i=>rw[L7]at h ⊢;exact YZ a h
 |true::bs,some (.v y)::ρ,r,i,x,e,h=>by
  unfold Q5 at e;obtain⟨b,a,rfl⟩:=v2.mp e;cases i with
  |zero=>cases h;rfl
  |succ i=>rw[L7]at h ⊢;exact YZ a h
 |true::bs,none::ρ,r,i,x,e,h=>by cases e
 |true::bs,some (.g _)::ρ,r,i,x,e,h=>by cases e
 |true::bs,some (.t _)::ρ,r,i,x,e,h=>by cases e
theorem Y0:∀{bs:Ew}{ρ:kJ}{r:Sto},Q5 bs ρ=some r->r.length=ρ.length
 |_,[],r,e=>by unfold Q5 at e;cases e;rfl
 |[],_::ρ,r,e=>by unfold Q5 at e;obtain⟨b,a,rfl⟩:=v2.mp e;rw[E4,E4,Y0 a]
 |false::bs,_::ρ,r,e=>by unfold Q5 at e;obtain⟨b,a,rfl⟩:=v2.mp e;rw[E4,E4,Y0 a]
 |true::bs,some (.v y)::ρ,r,e=>by unfold Q5 at e;obtain⟨b,a,rfl⟩:=v2.mp e;rw[E4,E4,Y0 a]
 |true::bs,none::ρ,r,e=>by cases e
 |true::bs,some (.g _)::ρ,r,e=>by cases e
 |true::bs,some (.t _)::ρ,r,e=>by cases e
theorem J_:∀{bs:Ew}{ρ:kJ}{r:Sto}{i:Nat}{x:PV},QS G bs ρ=some r->r[i]?=some (some x)->∃y,ρ[i]?=some (some y)/\kG G 8 y=some x
 |_,[],r,i,x,e,h=>by unfold QS at e;cases e;simp at h
 |[],_::ρ,r,i,x,e,h=>by
  unfold QS at e;obtain⟨b,a,rfl⟩:=v2.mp e;cases i with
  |zero=>cases h
  |succ i=>rw[L7]at h ⊢;exact J_ a h
 |false::bs,_::ρ,r,i,x,e,h=>by
  unfold QS at e;obtain⟨b,a,rfl⟩:=v2.mp e;cases i with
  |zero=>cases h
  |succ i=>rw[L7]at h ⊢;exact J_ a h
 |true::bs,some y::ρ,r,i,x,e,h=>by
  unfold QS at e;obtain⟨z,c,e⟩:=L6.mp e;obtain⟨b,a,rfl⟩:=v2.mp e;cases i with
  |zero=>cases h;exact⟨y,rfl,c⟩
  |succ i=>rw[L7]at h ⊢;exact J_ a h
 |true::bs,none::ρ,r,i,x,e,h=>by cases e
theorem Ka:∀{bs:Ew}{ρ:kJ}{r:Sto},QS G bs ρ=some r->r.length=ρ.length
 |_,[],r,e=>by unfold QS at e;cases e;rfl
 |[],_::ρ,r,e=>by unfold QS at e;obtain⟨b,a,rfl⟩:=v2.mp e;rw[E4,E4,Ka a]
 |false::bs,_::ρ,r,e=>by unfold QS at e;obtain⟨b,a,rfl⟩:=v2.mp e;rw[E4,E4,Ka a]
 |true::bs,some y::ρ,r,e=>by unfold QS at e;obtain⟨z,c,e⟩:=L6.mp e;obtain⟨b,a,rfl⟩:=v2.mp e;rw[E4,E4,Ka a]
 |true::bs,none::ρ,r,e=>by cases e
def Ab{S:Eo}(a:S.all (·==0)=true){i c:Nat}(h:S[i]?=some c):c=0:=by have:=O5.mp a c (O2 h);simpa using this
def Ad(f:σ.length=r.length)(d:S.all (·==0)=true)(n:∀(i:Nat) x,r[i]?=some (some x)->∃v,σ[i]?=some (some v)/\Rep Z.W M H x v):Rel Z.W (gh H M) S (λ_=>0) H σ r:=by
 have c:∀{k:Nat},S[k]?=some 2->False:=λ{k} h=>by have:=Ab d h;omega
 have l:∀{k:Nat},S[k]?=some 1->False:=λ{k} h=>by have:=Ab d h;omega
 refine⟨zA.refl _,f,λi x e=>?_,λi b=>(c b).elim,λi j b=>(c b).elim,λb=>(c b).elim,λa h=>h.elim,λi b=>(c b).elim⟩;obtain⟨v,o,g⟩:=n i x e;exact⟨v,o,λz=>(c z).elim,λz=>(l z).elim,λ_ _=>g.sub λa m _=>⟨⟨.inl m,id⟩,λi b=>(c b).elim⟩⟩
def sW(R:HR Z A H σ ρ G)(e:Q5 bs ρ=some r)(a:S.all (·==0)=true):Rel Z.W (gh H (HM Z A G.length)) S (λ_=>0) H σ r:=
 Ad (R.len.trans (Y0 e).symm) a λi x h=>R.var i _ (YZ e h)
def sX(R:HR Z A H σ ρ G)(e:QS G bs ρ=some r)(c:S.all (·==0)=true):Rel Z.W (gh H λ_=>True) S (λ_=>0) H σ r:=
 Ad (R.len.trans (Ka e).symm) c λi x h=>by obtain⟨y,d,a⟩:=J_ e h;obtain⟨v,b,f⟩:=R.var i y d;exact⟨v,b,Q7 R.toHH _ _ _ _ f a⟩
def mT(h:HH Z A H G):∀a,Mof (gh H (HM Z A G.length)) S P a->HM Z A G.length a:=λa m=>m.1.1.elim id λn=>h.new a n
end
def hP(bs:Ew)(m:ME):HME:=λa G=>match Q5 bs a with
 |some r=>match m r with
  |.ok x=>.ok (.v x) G
  |.exc c fs=>.exc c fs G
  |.wall=>.wall
 |none=>match QS G bs a with
  |some r=>match m r with
   |.ok x=>if imm x=true then .ok (.v x) G else .wall
   |.exc c fs=>if pB fs=true then .exc c fs G else .wall
   |.wall=>.wall
  |none=>.wall
def hPT(bs:Ew)(m:MT):HMT:=λa G=>match Q5 bs a with
 |some r=>match m r with
  |.ok x=>.ok x G
  |.exc c fs=>.exc c fs G
  |.wall=>.wall
 |none=>match QS G bs a with
  |some r=>match m r with
   |.ok x=>.ok x G
   |.exc c fs=>if pB fs=true then .exc c fs G else .wall
   |.wall=>.wall
  |none=>.wall
def vK{κ:Type}(xs:List (κ×PV)):List (κ×HV):=xs.map λp=>(p.1,.v p.2)
def mU:PV->Option Cell
 |.l b=>some (.l (b.map .v))
 |.d a=>some (.d (vK a))
 |.o c fs=>some (.o c (vK fs))
 |_=>none
def Dx:PV->Bool
 |.l b=>pA b
 |.d a=>pA (a.map (·.2))
 |.o _ fs=>pB fs
 |_=>false
def hF(bs:Ew)(m:ME):HME:=λa G=>match Q5 bs a with
 |some r=>match m r with
  |.ok x=>match mU x with
   |some c=>.ok (.g G.length) (G++[c])
   |none=>.wall
  |.exc c fs=>.exc c fs G
  |.wall=>.wall
 |none=>match QS G bs a with
  |some r=>match m r with
   |.ok x=>if Dx x=true then match mU x with
    |some c=>.ok (.g G.length) (G++[c])
    |none=>.wall else .wall
   |.exc c fs=>if pB fs=true then .exc c fs G else .wall
   |.wall=>.wall
  |none=>.wall
section
variable {W:RC}{M M':Es}{A:ED}{n:Nat}{H:Hp}
theorem sY:∀{a:EO}{b:EH},yy W M H a b->yD W M A n H (a.map .v) b
 |[],_,h=>h
 |_::_,_,⟨v,r,e,d,c⟩=>⟨v,r,e,d,sY c⟩
theorem Ae:∀{a:EA}{b:Et},yG W M H a b->yJ (qR W M A n H) (vK a) b
 |[],_,h=>h
 |_::_,_,⟨v,r,e,d,c⟩=>⟨v,r,e,d,Ae c⟩
theorem Af:∀{a:EV}{b:E_},vA W M H a b->yJ (qR W M A n H) (vK a) b
 |[],_,h=>h
 |_::_,_,⟨v,r,e,d,c⟩=>⟨v,r,e,d,Af c⟩
theorem cI:∀{x:EA}{v:Et},pA (x.map (·.2))=true->yG W M H x v->yG W M' H x v
 |[],_,_,h=>h
 |x::d,_,e,h=>by rw[F3]at e;unfold pA at e;simp only[Bool.and_eq_true]at e;obtain⟨v,r,a,c,b⟩:=h;exact⟨v,r,a,KS e.1 c,cI e.2 b⟩
def Ag(b:Kw W M H p x)(e:mU x=some c):W6 W M A n H p c:=by
 cases x with
 |l f=>cases e;obtain⟨a,h,r⟩:=b;exact⟨a,h,sY r⟩
 |d f=>cases e;obtain⟨a,h,r⟩:=b;exact⟨a,h,Ae r⟩
 |o k f=>cases e;obtain⟨g,a,h,r⟩:=b;exact⟨g,a,h,Af r⟩
 |_=>cases e
def mV(e:Dx x=true)(b:Kw W M H p x):Kw W M' H p x:=by
 cases x with
 |l c=>obtain⟨a,h,r⟩:=b;exact⟨a,h,W7 e r⟩
 |d c=>obtain⟨a,h,r⟩:=b;exact⟨a,h,cI e r⟩
 |o k c=>obtain⟨f,a,h,r⟩:=b;exact⟨f,a,h,ZA e r⟩
 |_=>cases e
end
section
variable {X:Cx}{W:RC}{E:XK}{fr:Bool}{S:Eo}{e a:Ey}{es:Ex}{m:ME}{t:MT}{bs:Ew}{pos p:Pos}{i:Nat}{m1:HME}{ms:HMA}
def Uu(h:HH Z A H G)(q:mS Z E A G.length H c fs G)(l:∀d es,vA Z.W (λa=>M a\/H a=none) d fs es->vA Z.W (HM Z A G.length) d fs es):XPo ⟨Z.W,E,fr⟩ (gh H M) c fs:=
 λe j es d s n f g=>q A d e j es (h.keep s) (Gro.same s) n f (l d es g)
def D_(bs:Ew)(h:EM X ⟨W,E,fr⟩ S false e m)(u:S.all (·==0)=true:=by rfl):HE X W E e (hP bs m):=λw=>by
 obtain⟨y,B,o⟩:=h w;refine⟨y,B,λZ z A H l C G R Q q=>?_⟩;subst z;unfold hP at q;split at q
 .rename_i r g;refine o _ _ H l r (sW R g u) Q ?_;revert q;cases m r with
  |ok x=>exact λq v d s f=>q A d (R.toHH.keep s) (Gro.same s) v (f.rep.sub λa m _=>mT R.toHH a m)
  |exc c fs=>exact λq=>Uu R.toHH q λd es h=>h.sub λa m _=>m.elim id λn=>R.toHH.new a n
  |wall=>exact id
 .split at q
  .rename_i r g;refine o _ _ H l r (sX R g u) Q ?_;revert q;cases m r with
   |ok x=>
    intro q v d s f;dsimp only at q;split at q
    .rename_i j;exact q A d (R.toHH.keep s) (Gro.same s) v (KS j f.rep)
    .exact q.elim
   |exc c fs=>
    intro q;dsimp only at q;split at q
    .rename_i j;exact Uu R.toHH q λd es h=>ZA j h
    .exact q.elim
   |wall=>exact id
  .exact q.elim
def eO(bs:Ew)(h:TM X ⟨W,E,fr⟩ S e t)(l:S.all (·==0)=true:=by rfl):HT X W E e (hPT bs t):=λo=>by
 obtain⟨u,y,j⟩:=h o;refine⟨u,y,λZ v A H g z G R Q q=>?_⟩;subst v;unfold hPT at q;split at q
 .rename_i r f;refine j _ _ H g r (sW R f l) Q ?_;revert q;cases t r with
  |ok x=>exact λq d s=>q A d (R.toHH.keep s) (Gro.same s)
  |exc c fs=>exact λq=>Uu R.toHH q λd es h=>h.sub λa m _=>m.elim id λn=>R.toHH.new a n
  |wall=>exact id
 .split at q
  .rename_i r f;refine j _ _ H g r (sX R f l) Q ?_;revert q;cases t r with
   |ok x=>exact λq d s=>q A d (R.toHH.keep s) (Gro.same s)
   |exc c fs=>
    intro q;dsimp only at q;split at q
    .rename_i w;exact Uu R.toHH q λd es h=>ZA w h
    .exact q.elim
   |wall=>exact id
  .exact q.elim
def gI{Z:HC}{A:ED}{H H2:Hp}{G:AH}{c:Cell}{p:Addr}{Q:VK}(h:HH Z A H G)(s:zA H H2)(hp:H p=none)(f:W6 Z.W (HM Z (exA A G.length p) (G.length+1)) (exA A G.length p) (G.length+1) H2 p c)(q:HPx Z E A G.length H (KV' Z Q) (.ok (.g G.length) (G++[c]))):Q (.ref p) H2:=by
 have d:(G++[c]).length=G.length+1:=by simp
 refine q _ H2 (h.alloc s hp f) (by rw[d];exact Gro.ext s hp) _ ⟨by rw[d];exact N9 _,?_⟩;rw[Jr]
def Ai{Z:HC}{A:ED}{n:Nat}{p a:Addr}(m:HM Z A n a)(h:a≠p):HM Z (exA A n p) (n+1) a:=⟨m.1,λk d e=>by
 by_cases c:k=n
 .rw[c,Jr]at e;exact h e.symm
 .rw[YX (by omega)]at e;exact m.2 k (by omega) e⟩
def Ea(bs:Ew)(y:LFr ⟨W,E,fr⟩ S te m)(z:S.all (·==0)=true:=by rfl):∀(Z:HC),Z.W=W->∀A H d u G,HR Z A H d u G->∀Q,HPx Z E A G.length H (KV' Z Q) (hF bs m u G)->te d H Q:=λZ B A H d u G R Q q=>by
 subst B;unfold hF at q;split at q
 .rename_i r l;refine y _ _ H d r (sW R l z) Q ?_;revert q;cases m r with
  |ok x=>
   intro q v o s f;dsimp only at q;split at q
   .rename_i c g;obtain⟨p,rfl,hp,j⟩:=f;exact gI R.toHH s hp (Ag (j.gen rfl Fr.refl λa m _=>Ai (mT R.toHH a m.1) m.2) g) q
   .exact q.elim
  |exc c fs=>exact λq=>Uu R.toHH q λo es h=>h.sub λa m _=>m.elim id λn=>R.toHH.new a n
  |wall=>exact id
 .split at q
  .rename_i r l;refine y _ _ H d r (sX R l z) Q ?_;revert q;cases m r with
   |ok x=>
    intro q v o s f;dsimp only at q;split at q
    .rename_i w;split at q
     .rename_i c g;obtain⟨p,rfl,hp,j⟩:=f;exact gI R.toHH s hp (Ag (mV w j) g) q
     .exact q.elim
    .exact q.elim
   |exc c fs=>
    intro q;dsimp only at q;split at q
    .rename_i w;exact Uu R.toHH q λo es h=>ZA w h
    .exact q.elim
   |wall=>exact id
  .exact q.elim
def Eb(bs:Ew)(h:FM X ⟨W,E,fr⟩ S e m)(g:S.all (·==0)=true:=by rfl):HE X W E e (hF bs m):=λc=>by obtain⟨d,j,f⟩:=h c;exact⟨d,j,Ea bs f g⟩
def yn(i:Nat):HME:=λc G=>match c[i]? with
 |some (some x)=>.ok x G
 |_=>.wall
def zu(h:PE X e (ZN i)):HE X W E e (yn i):=λ_=>⟨_,h,λZ j A H g l G R Q q=>by
 unfold yn at q;split at q
 .rename_i x f;obtain⟨v,d,c⟩:=R.var i x f;exact⟨v,d,q A H R.toHH Gro.refl v c⟩
 .exact q.elim⟩
def aW:HMA:=λ_ G=>.ok [] G
def ya(m:HME)(ms:HMA):HMA:=λc G=>(m c G).bind λx g=>(ms c g).bind λf d=>.ok (x::f) d
def ZR:HA X W E [] aW:=λ_=>⟨_,YL,λZ d A H c f G R Q q=>q A H R.toHH Gro.refl [] rfl⟩
def zO(h:HE X W E e m1)(D:HA X W E es ms)(n:starEach (e::es) X.env=(false,eval e X.env)::starEach es X.env:=by rfl):HA X W E (e::es) (ya m1 ms):=λd=>by obtain⟨P,N,w⟩:=h d;obtain⟨O,M,L⟩:=D d;refine⟨_,ve N M n,λZ f A H c g G R Q q=>w Z f A H c g G R _ (HPx.bind q λx z K I B s y v l=>?_)⟩;refine L Z f z K c g I (R.gro B s) _ (HPx.bind y λU C J T F o r j u=>?_);exact r C J F Gro.refl (v::j) ⟨v,j,rfl,l.gro o,u⟩
def yD.len{W:RC}{M:Es}{A:ED}{n:Nat}{H:Hp}:∀{c:List HV}{d:EH},yD W M A n H c d->d.length=c.length
 |[],_,h=>by cases(show _=_ from h);rfl
 |x::c,_,h=>by obtain⟨v,r,rfl,_,f⟩:=h;rw[E4,E4,yD.len f]
def pC:List HV->Option (List PV)
 |[]=>some []
 |.v x::c=>(pC c).map (x::·)
 |_::_=>none
def mkT(xs:List HV):HV:=match pC xs with
 |some c=>.v (.t c)
 |none=>.t xs
theorem Kb{W:RC}{M:Es}{A:ED}{n:Nat}{H:Hp}:∀{d:List HV}{c:EO}{f:EH},pC d=some c->yD W M A n H d f->yy W M H c f
 |[],_,_,e,h=>by cases e;exact h
 |.v x::d,c,_,e,h=>by unfold pC at e;obtain⟨o,g,rfl⟩:=v2.mp e;obtain⟨v,r,rfl,l,j⟩:=h;exact⟨v,r,rfl,l,Kb g j⟩
 |.g _::_,_,_,e,_=>by cases e
 |.t _::_,_,_,e,_=>by cases e
def mW(ms:HMA):HME:=λd G=>(ms d G).bind λc f=>if c.length<=sizeLine then .ok (mkT c) f else .wall
def Uv{x1}(h:HA X W E es ms):HE X W E (.Tuple es x1 pos) (mW ms):=λv=>by
 obtain⟨D,B,r⟩:=h v;refine⟨_,oy B,λZ w A H o x G R Q q=>r Z w A H o x G R _ (HPx.bind q λJ j l C u F d f g=>?_)⟩;split at d
 .rename_i y;refine⟨by rw[g.len];exact y,λp hp=>?_⟩;have s:zA l (upd l p (.tup f)):=zA.upd hp;refine d j _ (u.keep s) (Gro.same s) _ ?_;have c:=g.gro (Gro.same (Z:=Z) (A:=j) (n:=C.length) s);unfold mkT;split
  .rename_i I z;exact⟨p,f,rfl,.inl (.inl zd),Kb z c⟩
  .exact⟨p,f,rfl,.inl (.inl zd),c⟩
 .exact d.elim
end
section
variable {W:RC}{M:Es}{A:ED}{n:Nat}{H:Hp}
def yD.get:∀{a:List HV}{c:EH}{i:Nat}{x:HV},yD W M A n H a c->a[i]?=some x->∃v,c[i]?=some v/\qR W M A n H x v
 |[],_,_,_,_,e=>by simp at e
 |x::a,_,0,y,h,e=>by obtain⟨v,r,rfl,d,b⟩:=h;simp at e;subst e;exact⟨v,rfl,d⟩
 |x::a,_,i+1,y,h,e=>by obtain⟨v,r,rfl,d,b⟩:=h;simp only[List.getElem?_cons_succ]at e ⊢;exact yD.get b e
theorem yD.at(h:yD W M A n H xs vs)(e:atI xs i=some x):∃v,atI vs i=some v/\qR W M A n H x v:=by
 unfold atI at e ⊢;rw[h.len];cases q:ixN xs.length i with
 |none=>rw[q]at e;cases e
 |some j=>rw[q]at e;exact h.get e
def yD.append:∀{a b:List HV}{c d:EH},yD W M A n H a c->yD W M A n H b d->yD W M A n H (a++b) (c++d)
 |[],_,_,_,h,k=>by cases(show _=_ from h);exact k
 |x::a,_,_,_,h,k=>by obtain⟨v,r,rfl,f,e⟩:=h;exact⟨v,_,rfl,f,yD.append e k⟩
variable {κ:Type}[DecidableEq κ] {R:HV->V->Prop}
def yJ.len:∀{a:List (κ×HV)}{b:List (κ×V)},yJ R a b->b.length=a.length
 |[],_,h=>by cases(show _=_ from h);rfl
 |_::_,_,⟨v,q,e,d,c⟩=>by subst e;rw[E4,E4,yJ.len c]
def yJ.keys:∀{a:List (κ×HV)}{b:List (κ×V)},yJ R a b->b.map (·.1)=a.map (·.1)
 |[],_,h=>by cases(show _=_ from h);rfl
 |_::_,_,⟨v,q,e,d,c⟩=>by subst e;rw[F3,F3,yJ.keys c]
def yJ.get:∀{a:List (κ×HV)}{b:List (κ×V)}{k:κ}{x:HV},yJ R a b->zK a k=some x->∃v,J5 b k=some v/\R x v
 |[],_,_,_,_,e=>by cases e
 |f::r,_,k,x,h,e=>by
  obtain⟨v,q,rfl,j,d⟩:=h;unfold zK at e;rw[a1p]at e;by_cases c:f.1=k
  .rw[L9 c]at e;cases e;exact⟨v,J6 c,j⟩
  .rw[G6 c]at e;obtain⟨u,i,g⟩:=yJ.get d e;exact⟨u,by rw[J7 c];exact i,g⟩
def yJ.lookup:∀{a:List (Str×HV)}{b:E_}{f:Str}{x:HV},yJ R a b->a.lookup f=some x->∃v,b.lookup f=some v/\R x v
 |[],_,_,_,_,e=>by cases e
 |g::r,_,f,x,h,e=>by
  obtain⟨v,q,rfl,i,d⟩:=h;rw[O3]at e ⊢;cases c:(f==g.1)with
  |true=>rw[c]at e;cases e;exact⟨v,rfl,i⟩
  |false=>rw[c]at e;exact yJ.lookup d e
def yJ.put{k:κ}{a:List (κ×HV)}{es:List (κ×V)}(h:yJ R a es)(j:R x v):yJ R (dput a k x) (putK es k v):=by
 have f:∀{a:List (κ×HV)}{es:List (κ×V)},yJ R a es->a.any (λb=>decide (b.1=k))=es.any (λb=>decide (b.1=k))/\yJ R (a.map λb=>if b.1=k then(b.1,x)else b) (es.map λb=>if b.1=k then(b.1,v)else b)/\yJ R (a++[(k,x)]) (es++[(k,v)]):=by
  intro a
  induction a with
  |nil=>intro es h;cases(show _=_ from h);exact⟨rfl,rfl,v,[],rfl,j,rfl⟩
  |cons m a o=>
   intro es h;obtain⟨u,q,rfl,i,l⟩:=h;obtain⟨g,c,d⟩:=o l;refine⟨by rw[R4,R4,g],?_,⟨u,_,rfl,i,d⟩⟩;rw[F3,F3];by_cases e:m.1=k
   .rw[if_pos e,if_pos e];exact⟨v,_,rfl,j,c⟩
   .rw[if_neg e,if_neg e];exact⟨u,_,rfl,i,c⟩
 obtain⟨g,c,d⟩:=f h;unfold dput putK;rw[g];split
 .exact c
 .exact d
end
def ixH(G:AH):HV->HV->Option HV
 |.g k,.v y=>match G[k]? with
  |some (.l b)=>match y with
   |.i j=>atI b j
   |_=>none
  |some (.d a)=>(pk y).bind λq=>zK a q
  |some (.z a)=>(pk y).bind λq=>zK a q
  |_=>none
 |.t b,.v (.i j)=>atI b j
 |.v x,.v y=>match pIx x y with
  |.ok z=>some (.v z)
  |_=>none
 |_,_=>none
def hIx(c d:HME):HME:=λb G=>(c b G).bind λx e=>(d b e).bind λy a=>match ixH a x y with
 |some z=>.ok z a
 |none=>.wall
def eP(b:Eo)(f:Str)(m:HME):HME:=λd G=>(m d G).bind λx a=>match x with
 |.g k=>match a[k]? with
  |some (.o c fs)=>if c∈b then match fs.lookup f with
   |some z=>.ok z a
   |none=>.wall else .wall
  |_=>.wall
 |_=>.wall
def W8(f:List HV->AH->HX HV)(ms:HMA):HME:=λc G=>(ms c G).bind λb a=>f b a
def hsp(W:RC)(n:Nat)(f:List HV->AH->HX HV):Sp:=λb H Q E=>∃(Z:HC)(A:ED)(G:AH)(a:List HV),Z.W=W/\a.length=n/\HH Z A H G/\yD Z.W (HM Z A G.length) A G.length H a b/\HPx Z E A G.length H (KV' Z Q) (f a G)
def sZ:∀a H Q E,hsp W n f a H Q E->a.length=n:=λa H Q E ⟨Z,A,G,c,_,b,_,r,_⟩=>r.len.trans b
def CM(h:HH Z A H G)(g:qR Z.W (HM Z A G.length) A G.length H x v)(b:qR Z.W (HM Z A G.length) A G.length H y u)(e:ixH G x y=some z)(q:∀d v,zA H d->qR Z.W (HM Z A G.length) A G.length d z v->Q v d):Dt Z.W.K v u H Q:=by
 unfold ixH at e;split at e
 .rename_i k y;obtain⟨t,rfl⟩:=g;split at e
  .rename_i B c;obtain⟨f,hp,r⟩:=h.cell k _ c;split at e
   .obtain⟨w,a,rw'⟩:=r.at e;exact .inl (.inl ⟨_,f,_,w,rfl,b,SqL.of hp,a,q H w (zA.refl _) rw'⟩)
   .cases e
  .rename_i l c;obtain⟨f,hp,r⟩:=h.cell k _ c;obtain⟨j,i,e⟩:=L6.mp e;obtain⟨w,a,rw'⟩:=r.get e;exact .inr ⟨_,w,rfl,by rw[YQ (yp.iff.mpr (show Rep Z.W _ H y u from b)) i,<- a];exact XM.rk (.inl hp),q H w (zA.refl _) rw'⟩
  .rename_i l c;obtain⟨o,f,hp,r⟩:=h.cell k _ c;obtain⟨j,i,e⟩:=L6.mp e;obtain⟨w,a,rw'⟩:=r.get e;exact .inr ⟨_,w,rfl,by rw[YQ (yp.iff.mpr (show Rep Z.W _ H y u from b)) i,<- a];exact XM.rk (.inr ⟨o,hp⟩),q H w (zA.refl _) rw'⟩
  .cases e
 .obtain⟨p,f,rfl,m,r⟩:=g;obtain⟨w,a,rw'⟩:=r.at e;exact .inl (.inr (.inl ⟨p,f,_,w,rfl,b,m,a,q H w (zA.refl _) rw'⟩))
 .split at e
  .rename_i n hz;cases e;refine xD (W:=Z.W) (HM Z A G.length) ⟨Z.W,E0,false⟩ (gh H λ_=>True) H _ _ v u Q h.new (Rep.weak g) (Rep.weak b) ?_;rw[hz];exact λw d s r=>q d w s r
  .cases e
 .cases e
def Aj(L:X.A.units+1<cLine)(e:HE X W E a m1)(c:HE X W E b m2)(l:wM b:=by intro _ _;rfl):HE X W E (.Subscript a b pos) (hIx m1 m2):=λf=>by
 obtain⟨N,M,o⟩:=e f;obtain⟨P,J,I⟩:=c f;refine⟨_,lK (oA.or (WM L)) M J l,λZ g A H h i G R Q q=>o Z g A H h i G R _ (HPx.bind q λx B F D e n p v j=>?_)⟩;refine I Z g B F h i D (R.gro e n) _ (HPx.bind p λy C O S c m d u t=>?_);split at d
 .rename_i z hz;rw[f,<- g];exact CM c (j.gro m) t hz λK w s r=>d C K (c.keep s) (Gro.same s) w r
 .exact d.elim
def KU(h:HE X W E e m1)(f:∀c∈cs,Cls X.K (W.cls c)/\j7 X.K (W.cls c) fn)(u:attributeBase e fn X.env (eval e X.env)=eval e X.env:=by rfl):HE X W E (.Attribute e fn pos) (eP cs fn m1):=λo=>by
 obtain⟨D,B,m⟩:=h o;refine⟨_,ou B u,λZ g A H i p G R Q q=>m Z g A H i p G R _ (HPx.bind q λx n s F d C a v j=>?_)⟩;subst g;split at a
 .rename_i k;obtain⟨I,rfl⟩:=j;split at a
  .rename_i c fs hG;obtain⟨l,t,hp,r⟩:=d.cell k _ hG;split at a
   .rename_i b;split at a
    .rename_i z hz;obtain⟨w,y,rw'⟩:=r.lookup hz;exact⟨_,_,l,t,w,rfl,hp,(f c b).1,(f c b).2,y,a n s d Gro.refl w rw'⟩
    .exact a.elim
   .exact a.elim
  .exact a.elim
 .exact a.elim
def W9(F:qY X.prog X.w X.K X.mg X.base (CXe X.prog X.w) k f fd ps (hsp W n g))(y:wI k X.A)(r:Gl X x)(K:X.mg x=some (.ref f))(D:keepIn X.K (.ref f)=true)(I:Binds X.K fd ps [])(C:Passes (CXe X.prog X.w) X E)(z:HA X W E (e::es) ms)(hn:∀d G b a,ms d G=.ok b a->b.length=n)
  (h:(x==("__debug__":Str))=false:=by decide) (he:starEach (e::es) X.env=(false,eval e X.env)::starEach es X.env:=by rfl) (i:(backTo pos (starEach es X.env)).any (·.1)=false:=by rfl):HE X W E (.Call (.Name x p) (e::es) [] pos) (W8 g ms):=λw=>by
 obtain⟨L,J,t⟩:=z w;refine⟨_,ao F y r K D I .nil C J h he i,λZ j A H l d G R Q q=>t Z j A H l d G R _ ?_⟩;unfold W8 at q;revert q;cases B:ms d G with
 |wall=>exact id
 |exc c fs a=>exact id
 |ok b a=>intro q u N v m M s;rw[O7];exact⟨Z,u,a,b,j,hn _ _ _ _ B,v,s,HPx.gro (o:=g b a) q m⟩
def Uw:∀b G a c,aW b G=.ok a c->a.length=0:=λb G a c e=>by cases e;rfl
def qS(h:∀b G a d,ms b G=.ok a d->a.length=n):∀b G a d,ya m ms b G=.ok a d->a.length=n+1:=λb G a d e=>by
 unfold ya at e;cases i:m b G with
 |wall=>rw[i]at e;cases e
 |exc c fs g=>rw[i]at e;cases e
 |ok x g=>
  rw[i]at e;have e:(ms b g).bind (λa j=>.ok (x::a) j)=.ok a d:=e;cases f:ms b g with
  |wall=>rw[f]at e;cases e
  |exc c fs g=>rw[f]at e;cases e
  |ok l j=>rw[f]at e;cases e;rw[E4,h _ _ _ _ f]
inductive HFw where
 |nx (ρ:kJ) (G:AH)|rt (x:HV) (G:AH)|bk (ρ:kJ) (G:AH)|ct (ρ:kJ) (G:AH)|exc (c:Nat) (fs:EV) (G:AH)|wall
abbrev HMS:=kJ->AH->HFw
def HPs(Z:HC)(E:XK)(A:ED)(n:Nat)(H:Hp)(D:Ends):HFw->Prop
 |.nx f d=>∀e b a,HR Z e b a f d->Gro Z A n H e d.length b->D.nx a b
 |.rt x d=>∀e b v,HH Z e b d->Gro Z A n H e d.length b->qR Z.W (HM Z e d.length) e d.length b x v->D.rt v b
 |.bk f d=>∀e b a,HR Z e b a f d->Gro Z A n H e d.length b->D.bk a b
 |.ct f d=>∀e b a,HR Z e b a f d->Gro Z A n H e d.length b->D.ct a b
 |.exc c fs d=>mS Z E A n H c fs d
 |.wall=>False
def HX.fw{b:Type}:HX b->(b->AH->HFw)->HFw
 |.ok a G,f=>f a G
 |.exc c fs G,_=>.exc c fs G
 |.wall,_=>.wall
def LHS(W:RC)(E:XK)(ts:TS)(m:HMS):Prop:=∀(Z:HC),Z.W=W->∀A H a b G,HR Z A H a b G->∀D,HPs Z E A G.length H D (m b G)->ts D a H
def HS(X:Cx)(W:RC)(E:XK)(st:Fh)(m:HMS):Prop:=X.K=W.K->∃a,PS X st a/\LHS W E a m
def HSs(X:Cx)(W:RC)(E:XK)(st:Fd)(m:HMS):Prop:=X.K=W.K->∃a,PSs X st a/\LHS W E a m
section
variable {α:Type}{K':α->(Nat->Addr)->Hp->AH->Prop}
def HPs.gro(h:HPs Z E A n H D o)(g:Gro Z A n H A' n' H'):HPs Z E A' n' H' D o:=by
 cases o with
 |nx f G=>exact λb e a r d=>h b e a r (g.trans d)
 |rt x G=>exact λb e v r d=>h b e v r (g.trans d)
 |bk f G=>exact λb e a r d=>h b e a r (g.trans d)
 |ct f G=>exact λb e a r d=>h b e a r (g.trans d)
 |exc c fs G=>exact mS.gro h g
 |wall=>exact h
def HPs.bind{o:HX α}{f:α->AH->HFw}(h:HPs Z E A n H D (o.fw f))(k:∀x d b a,HH Z d b a->Gro Z A n H d a.length b->HPs Z E d a.length b D (f x a)->K' x d b a):HPx Z E A n H K' o:=by
 cases o with
 |ok x a=>exact λg j i e=>k x g j a i e (HPs.gro (o:=f x a) h e)
 |exc c fs a=>exact h
 |wall=>exact h
end
def Y1:HMS:=λa G=>.nx a G
def qt(a b:HMS):HMS:=λf G=>match a f G with
 |.nx d e=>b d e
 |.rt x e=>.rt x e
 |.bk d e=>.bk d e
 |.ct d e=>.ct d e
 |.exc c fs e=>.exc c fs e
 |.wall=>.wall
def wX(i:Nat)(m:HME):HMS:=λa G=>(m a G).fw λx b=>.nx (a.set i (some x)) b
def W_(m:HME):HMS:=λa G=>(m a G).fw λ_ b=>.nx a b
def cJ(m:HME):HMS:=λb G=>(m b G).fw λx a=>.rt x a
def s_:HMS:=λ_ G=>.rt (.v .n) G
def hIf(t:HMT)(a b:HMS):HMS:=λd G=>(t d G).fw λc e=>if c=true then a d e else b d e
section
variable {X:Cx}{W:RC}{E:XK}{e a b o:Ey}{es:Ex}{pos p pos' qo:Pos}{m m1 m2:HME}{t1:HMT}{s1 s2:HMS}{x:Str}{st:Fh}{sts stt:Fd}{i:Nat}
def vi:HSs X W E [] Y1:=λ_=>⟨_,af,λZ d A H c f G R D q=>q A H c R Gro.refl⟩
def Ak(v:LHS W E t s1)(w:LHS W E u s2):LHS W E (BM t u) (qt s1 s2):=λZ j A H r l G R D q=>by
 refine v Z j A H r l G R _ ?_;unfold qt at q;revert q;cases s1 l G with
 |nx d f=>exact λq y s h n g=>w Z j y s h d f n D (HPs.gro (o:=s2 d f) q g)
 |rt x f=>exact id
 |bk d f=>exact id
 |ct d f=>exact id
 |exc c fs f=>exact id
 |wall=>exact id
def zm(h:HS X W E st s1)(g:HSs X W E sts s2):HSs X W E (st::sts) (qt s1 s2):=λc=>by obtain⟨t,j,d⟩:=h c;obtain⟨u,f,l⟩:=g c;exact⟨_,bJ j f,Ak d l⟩
def z7(f:HS X W E st s1):HSs X W E [st] s1:=λc=>by obtain⟨t,g,d⟩:=f c;exact⟨_,WC g,d⟩
def Al(h:∀(Z:HC),Z.W=W->∀A H c d G,HR Z A H c d G->∀Q,HPx Z E A G.length H (KV' Z Q) (m d G)->te c H Q):LHS W E (oj te (VP i)) (wX i m):=λZ r A H c d G R D q=>
 h Z r A H c d G R _ (HPs.bind q λx l s t n g j v f=>j l s _ ((R.gro n g).set f) Gro.refl)
def Am(j:X.N.Nodup)(g:X.N[i]?=some x)(n:Loc X.env.scope x)(h:HE X W E e m)(f:swapsWith e (some (.Name x pos')) pos.line X.env=pure false:=by rfl)(hf:X.fn x=true\/X.env.scope.names.lookup x=some .local:=by first|exact .inl rfl|exact .inr rfl|assumption):
  HS X W E (.Assign [.Name x pos'] e pos) (wX i m):=λc=>by
 obtain⟨q,l,d⟩:=h c;exact⟨_,eU j g n l f hf,Al d⟩
def Xa(h:HE X W E e m)(d:swapsWith e none pos.line X.env=pure false:=by rfl):HS X W E (.Expr e pos) (W_ m):=λr=>by obtain⟨z,w,g⟩:=h r;exact⟨_,QV w d,λZ s A H c u G R D q=>g Z s A H c u G R _ (HPs.bind q λx l t B n f j v y=>j l t c (R.gro n f) Gro.refl)⟩
def ZS(h:HE X W E e m):HS X W E (.Return (some e) pos) (cJ m):=λn=>by obtain⟨y,u,f⟩:=h n;exact⟨_,bK u,λZ r A H c t G R D q=>f Z r A H c t G R _ (HPs.bind q λx j s z l w g v d=>g j s v l Gro.refl d)⟩
def gJ:HS X W E (.Return none pos) s_:=λ_=>⟨_,rj,λZ d A H c f G R D q=>q A H .non R.toHH Gro.refl rfl⟩
def VT(h:HT X W E c t1)(g:HSs X W E sts s1)(z:HSs X W E stt s2):HS X W E (.If c sts stt pos) (hIf t1 s1 s2):=λj=>by
 obtain⟨K,I,y⟩:=h j;obtain⟨t,F,C⟩:=g j;obtain⟨u,B,J⟩:=z j;refine⟨_,uW I F B,λZ l A H d n G R D q=>y Z l A H d n G R _ (HPs.bind q λk v f w g r s=>?_)⟩;cases k with
 |true=>show(if true=true then t D d f else u D d f);rw[if_pos rfl];exact C Z l v f d n w (R.gro g r) D s
 |false=>show(if false=true then t D d f else u D d f);rw[if_neg F6];exact J Z l v f d n w (R.gro g r) D s
def BB(j h:HME):HMS:=λc G=>(j c G).fw λx g=>match x with
 |.g k=>match g[k]? with
  |some (.l _)=>(h c g).fw λy d=>match d[k]? with
   |some (.l f)=>if f.length<sizeLine then .nx c (d.set k (.l (f++[y])))else .wall
   |_=>.wall
  |_=>.wall
 |_=>.wall
def BC{Z:HC}{A:ED}{H:Hp}{G:AH}{d:St}{ρ:kJ}{D:Ends}{k:Nat}{c:Cell}{o h:HO}(R:HR Z A H d ρ G)(f:k<G.length)(l:H (A k)=some h)(j:¬Imm h)(n:W6 Z.W (HM Z A G.length) A G.length (upd H (A k) o) (A k) c)(q:HPs Z E A G.length H D (.nx ρ (G.set k c))):D.nx d (upd H (A k) o):=by
 have g:Gro Z A G.length H A (G.set k c).length (upd H (A k) o):=by rw[M5];exact R.toHH.frw f l j
 exact q A _ d (R.gro (R.toHH.write f l j n) g) g
def gK(Y:HE X W E o m1)(h:HE X W E e m2)(S:attributeBase o "append" X.env (eval o X.env)=eval o X.env:=by rfl)
  (i7:((backTo p (starEach [e] X.env)).all (λx=>!x.1)&&(backToKw p (keywordEach [] X.env)).all (λx=>x.1.isSome)&&decide ([e].length+([]:List Keyword).length+(if([]:List Keyword).isEmpty then 0 else 1)<30))=true:=by rfl)
  (O:(qo.endLine==p.line)=true:=by rfl) (B:starEach [e] X.env=[(false,eval e X.env)]:=by rfl) (s:swapsWith (.Call (.Attribute o "append" qo) [e] [] p) none pos.line X.env=pure false:=by rfl):
  HS X W E (.Expr (.Call (.Attribute o "append" qo) [e] [] p) pos) (BB m1 m2):=λI=>by
 obtain⟨to,o1,o2⟩:=Y I;obtain⟨te,a1,U⟩:=h I;refine⟨_,QV (rL a16 a1U a1V Kq o1 (ve a1 YL B) S i7 O B rfl) s,λZ K A H z L G R D q=>o2 Z K A H z L G R _ (HPs.bind q λx A1 H1 G1 F T g v P=>?_)⟩;split at g
 .rename_i k;obtain⟨N,rfl⟩:=P;split at g
  .rename_i xs0 l;obtain⟨vs0,n,_⟩:=F.cell k _ l;have C:=R.gro F T;refine⟨.inl ⟨rfl,_,SqL.of n⟩,U Z K A1 H1 z L G1 C _ (HPs.bind g λy J H2 w t j d u ry=>?_)⟩;split at d
   .rename_i xs hc;split at d
    .rename_i hl;obtain⟨M,hp,r⟩:=t.cell k _ hc;have f:k<w.length:=F5 N j.le;rw[<- j.agr k N];have Q:=t.frw (o:=.lst (M++[u])) f hp id;have one:yD Z.W (HM Z J w.length) J w.length H2 [y] [u]:=⟨u,[],rfl,ry,rfl⟩;exact⟨_,M,u,rfl,rfl,hp,by rw[r.len];exact hl,BC (c:=.l (xs++[y])) (C.gro t j) f hp id ⟨_,zd,(r.append one).gro Q⟩ d⟩
    .exact d.elim
   .exact d.elim
  .exact g.elim
 .exact g.elim
def Wf(h mk j:HME):HMS:=λd G=>(j d G).fw λy l=>(h d l).fw λx g=>(mk d g).fw λz f=>match x,z with
 |.g k,.v z=>match f[k]?,pk z with
  |some (.d c),some q=>if c.length<sizeLine then .nx d (f.set k (.d (dput c q y)))else .wall
  |_,_=>.wall
 |_,_=>.wall
def vD(hu:X.A.units+1<cLine)(Q:HE X W E o m)(j:HE X W E a m1)(U:HE X W E e m2)(L:swapsWith e (some (.Subscript o a pos')) pos.line X.env=pure false:=by rfl):
  HS X W E (.Assign [.Subscript o a pos'] e pos) (Wf m m1 m2):=λn=>by
 obtain⟨to,o1,o2⟩:=Q n;obtain⟨ta,a1,P⟩:=j n;obtain⟨tv,b1,b2⟩:=U n;refine⟨_,fb hu o1 a1 b1 L,λZ s A H l B G R D q=>b2 Z s A H l B G R _ (HPs.bind q λy A1 H1 G1 h1 O S v T=>?_)⟩;have I:=R.gro h1 O;refine o2 Z s A1 H1 l B G1 I _ (HPs.bind S λx A2 H2 G2 h2 F M w K=>?_);have R2:=I.gro h2 F;refine P Z s A2 H2 l B G2 R2 _ (HPs.bind M λz A3 H3 Y t g d u J=>?_);split at d
 .rename_i k z;obtain⟨j,rfl⟩:=K;split at d
  .rename_i C q hc hq;split at d
   .rename_i hl;obtain⟨es,hp,r⟩:=t.cell k _ hc;have f:k<Y.length:=F5 j g.le;have N:=t.frw (o:=.dK (putK es q v)) f hp id;rw[<- g.agr k j];refine⟨_,_,rfl,by rw[YQ (yp.iff.mpr (show Rep Z.W _ H3 z u from J)) hq];exact oF.k hp (by rw[r.len];exact hl),BC (c:=.d (dput C q y)) (R2.gro t g) f hp id ⟨_,zd,?_⟩ d⟩;exact(r.put ((T.gro F).gro g)).imp λ_ _ h=>h.gro N
   .exact d.elim
  .exact d.elim
 .exact d.elim
def z4(c:HMT)(b:HMS):Nat->kJ->AH->HFw
 |0,_,_=>.wall
 |n+1,g,G=>(c g G).fw λt h=>if t=true then match b g h with
   |.nx d f=>z4 c b n d f
   |.ct d f=>z4 c b n d f
   |.bk d f=>.nx d f
   |.rt v f=>.rt v f
   |.exc c fs f=>.exc c fs f
   |.wall=>.wall
  else .nx g h
open Classical in
def KW(c:HMT)(b:HMS):HMS:=λd G=>if h:∃n,z4 c b n d G≠.wall then z4 c b (choose h) d G else .wall
def cL(hp:PassesOwn (FK X) X.A X.env X.xe)(P:HT X W E c mc)(T:HSs X W E body mb):HS X W E (.While c body [] pos) (KW mc mb):=λI=>by
 obtain⟨tc,U,N⟩:=P I;obtain⟨tb,Q,Y⟩:=T I;refine⟨_,lC hp U Q,λZ J A H σ S G R D q=>?_⟩;unfold KW at q;split at q
 .rename_i h;generalize Classical.choose h=n0 at q;refine⟨λn g v=>∃d t l,HR Z t v g d l/\HPs Z E t l.length v D (z4 mc mb n d l),⟨n0,S,A,G,R,q⟩,?_⟩
  rintro n g v ⟨d,t,l,B,z⟩
  cases n with
  |zero=>exact z.elim
  |succ n=>
   unfold z4 at z;refine N Z J t v g d l B _ (HPs.bind z λk F L K O M s=>?_);have C:=B.gro O M;dsimp only[KT'];cases k with
   |false=>exact lX (s F L g C Gro.refl)
   |true=>
    refine lY ⟨λj u=>∃d t l,HR Z t u j d l/\HPs Z E t l.length u D (z4 mc mb n d l),λj u h=>⟨n,N9 n,h⟩,Y Z J F L g d K C _ ?_⟩;rw[if_pos rfl]at s;revert s;cases mb d K with
    |nx f r=>exact λs y u j R2 w=>⟨f,y,r,R2,HPs.gro (o:=z4 mc mb n f r) s w⟩
    |ct f r=>exact λs y u j R2 w=>⟨f,y,r,R2,HPs.gro (o:=z4 mc mb n f r) s w⟩
    |bk f r=>exact id
    |rt x r=>exact id
    |exc c fs r=>exact id
    |wall=>exact id
 .exact q.elim
end
abbrev HMG:=HV->kJ->Option kJ
def HG(X:Cx)(W:RC)(f:Ey)(e:HMG):Prop:=X.K=W.K->∃g,PG X f g/\∀(Z:HC),Z.W=W->∀A H c d G x v,HR Z A H c d G->qR Z.W (HM Z A G.length) A G.length H x v->∀Q:St->Hp->Prop,(∃b,e x d=some b/\∀a,HR Z A H a b G->Q a H)->g v c H Q
abbrev tw:=List HV->kJ->Option kJ
def HGs(X:Cx)(W:RC)(c:Ex)(i:tw):Prop:=X.K=W.K->∃g,PGs X c g/\∀(Z:HC),Z.W=W->∀A H d f G e h,HR Z A H d f G->yD Z.W (HM Z A G.length) A G.length H e h->∀Q:St->Hp->Prop,(∃b,i e f=some b/\∀a,HR Z A H a b G->Q a H)->g h d H Q
def hgN(i:Nat):HMG:=λx a=>some (a.set i (some x))
def mX:tw:=λa b=>match a with
 |[]=>some b
 |_=>none
def wY(g:HMG)(b:tw):tw:=λc d=>match c with
 |x::r=>(g x d).bind λa=>b r a
 |[]=>none
def hgT(n:Nat)(b:tw):HMG:=λx c=>match x with
 |.t a=>if a.length=n then b a c else none
 |.v (.t a)=>if a.length=n then b (a.map .v) c else none
 |_=>none
section
variable {X:Cx}{W:RC}{E:XK}{i:Nat}{x:Str}{pos:Pos}{e:Ey}{es:Ex}{g:HMG}{gs:tw}
def y_(b:X.N.Nodup)(a:X.N[i]?=some x)(d:Loc X.env.scope x)(hf:X.fn x=true\/X.env.scope.names.lookup x=some .local:=by first|exact .inl rfl|exact .inr rfl|assumption):HG X W (.Name x pos) (hgN i):=
 λ_=>⟨_,ag b a d hf,λZ h A H f j G x v R r Q ⟨c,e,k⟩=>by cases e;exact k _ (R.set r)⟩
def aX:HGs X W [] mX:=λ_=>⟨_,eS,λZ d A H c f G a h R r Q ⟨b,e,k⟩=>by
 cases a with
 |nil=>cases e;cases(show _=_ from r);exact⟨rfl,k _ R⟩
 |cons x a=>cases e⟩
def jw(y:HG X W e g)(z:HGs X W es gs)(q:(assignEach (e::es) X.env).map (·.2)=assign e X.env::(assignEach es X.env).map (·.2):=by rfl):HGs X W (e::es) (wY g gs):=λj=>by
 obtain⟨t,D,s⟩:=y j;obtain⟨u,C,B⟩:=z j;refine⟨_,bL D C q,λZ l A H o h G c F R r Q ⟨a,e,k⟩=>?_⟩;cases c with
 |nil=>cases e
 |cons x c=>
  obtain⟨v,m,rfl,p,w⟩:=r;have e:(g x h).bind (λa=>gs c a)=some a:=e;cases f:g x h with
  |none=>rw[f]at e;cases e
  |some b=>rw[f]at e;exact⟨v,m,rfl,s Z l A H o h G x v R p _ ⟨b,f,λd n=>B Z l A H d b G c m n w Q ⟨a,e,k⟩⟩⟩
def pD(s:X.calm=true)(h:HGs X W es gs)(hn:(assignEach es X.env).length=n:=by rfl)(l:(assignEach es X.env).findIdx? (·.1)=none:=by rfl):HG X W (.Tuple es k pos) (hgT n gs):=λf=>by
 obtain⟨t,u,o⟩:=h f;refine⟨_,oi s u hn l,λZ d A H m q G x v R r Q ⟨a,e,k⟩=>?_⟩;unfold hgT at e;split at e
 .obtain⟨p,c,rfl,hp,b⟩:=r;split at e
  .rename_i j;exact⟨p,c,rfl,by rw[f,<- d];exact hp,by rw[b.len];exact j,o Z d A H m q G _ c R b Q ⟨a,e,k⟩⟩
  .cases e
 .obtain⟨p,c,rfl,hp,b⟩:=r;split at e
  .rename_i j;exact⟨p,c,rfl,by rw[f,<- d];exact hp,by rw[b.len];exact j,o Z d A H m q G _ c R (sY b) Q ⟨a,e,k⟩⟩
  .cases e
 .cases e
def An(g:HMG)(m:HME):HMS:=λb G=>(m b G).fw λx c=>match g x b with
 |some a=>.nx a c
 |none=>.wall
def pE(h:HE X W E e m)(z:HG X W tg g)(u:swapsWithSole [tg] e pos.line X.env=pure false:=by rfl)(J:swappedStores [tg] e X.env=pure none:=by rfl)(d:(assignEach [tg] X.env).map (·.2)=[assign tg X.env]:=by rfl):HS X W E (.Assign [tg] e pos) (An g m):=λn=>by
 obtain⟨L,K,B⟩:=h n;obtain⟨t,I,F⟩:=z n;refine⟨_,eT K I u J d,λZ o A H j p G R D q=>B Z o A H j p G R _ (HPs.bind q λx l r C d y c v w=>?_)⟩;split at c
 .rename_i b f;exact F Z o l r j p C x v (R.gro d y) w _ ⟨b,f,λa s=>c l r a s Gro.refl⟩
 .exact c.elim
end
def Wg(g:HMG)(b:HMS):List HV->kJ->AH->HFw
 |[],f,G=>.nx f G
 |x::h,f,G=>match g x f with
  |none=>.wall
  |some e=>match b e G with
   |.nx a d=>Wg g b h a d
   |.ct a d=>Wg g b h a d
   |.bk a d=>.nx a d
   |.rt v d=>.rt v d
   |.exc c fs d=>.exc c fs d
   |.wall=>.wall
def isZ:Cell->Bool
 |.z _=>true
 |.w _=>true
 |_=>false
def gL(A:ED)(G:AH)(a:Addr):Prop:=∃k c,G[k]?=some c/\isZ c=false/\A k=a
section
variable {W:RC}{E:XK}{Z:HC}{A A':ED}{H H':Hp}{G G':AH}{σ:St}{ρ:kJ}{D:Ends}
def W6.live{M:Es}{n:Nat}{p:Addr}:∀{c:Cell},W6 W M A n H p c->isZ c=false->∃o,H p=Option.some o/\¬Imm o
 |.l _,⟨_,e,_⟩,_=>⟨_,e,id⟩
 |.d _,⟨_,e,_⟩,_=>⟨_,e,id⟩
 |.z _,_,h=>by cases h
 |.o _ _,⟨_,_,e,_⟩,_=>⟨_,e,id⟩
 |.y _,⟨_,_,e,_⟩,_=>⟨_,e,id⟩
 |.m _ _ _,⟨_,_,e,_⟩,_=>⟨_,e,id⟩
 |.u _,⟨_,e,_⟩,_=>⟨_,e,id⟩
 |.w _,_,h=>by cases h
def W6.zed{M:Es}{n:Nat}{p:Addr}:∀{c:Cell},W6 W M A n H p c->isZ c=true->∃o,H p=Option.some o/\Imm o
 |.l _,_,h=>by cases h
 |.d _,_,h=>by cases h
 |.z _,⟨_,_,e,_⟩,_=>⟨_,e,trivial⟩
 |.o _ _,_,h=>by cases h
 |.y _,_,h=>by cases h
 |.m _ _ _,_,h=>by cases h
 |.u _,_,h=>by cases h
 |.w _,e,_=>⟨_,e,trivial⟩
def Gro.rest(h:HH Z A H G)(h':HH Z A' H' G')(g:Gro Z A G.length H A' G'.length H'):Fr (λa=>¬gL A G a) H H':=λa o e m=>by
 rcases m with m|m
 .by_cases c:∃k,k<G.length/\A k=a
  .obtain⟨k,b,rfl⟩:=c;have f:=E1 b;have hz:isZ G[k]=true:=by
    cases z:isZ G[k]with
    |true=>rfl
    |false=>exact absurd ⟨k,_,f,z,rfl⟩ m
   obtain⟨j,d,i⟩:=(h.cell k _ f).zed hz;rw[d]at e;cases e;exact g.fr _ _ d (.inr i)
  .cases q:Z.H0 a with
   |none=>exact g.fr a o e (.inl ⟨.inr q,λk b z=>c ⟨k,b,z⟩⟩)
   |some u=>have:=h.same a u q;rw[e]at this;cases this;exact h'.same a _ q
 .exact g.fr a o e (.inr m)
open Classical in
def bsH(Z:HC)(A:ED)(H:Hp)(G:AH):Bs:=⟨λa=>if gL A G a then none else H a,HM Z A G.length,λ_=>False,λ_ h=>h.elim,none,gL A G⟩
def CN(R:HR Z A H σ ρ G)(e:Q5 bs ρ=some r)(g:S.all (·==0)=true):Rel Z.W (bsH Z A H G) S (λ_=>0) H σ r:=by
 have d:∀{k:Nat},S[k]?=some 2->False:=λ{k} h=>by have:=Ab g h;omega
 have u:∀{k:Nat},S[k]?=some 1->False:=λ{k} h=>by have:=Ab g h;omega
 refine⟨λa o h=>?_,R.len.trans (Y0 e).symm,λi x t=>?_,λi b=>(d b).elim,λi j b=>(d b).elim,λb=>(d b).elim,λa h=>?_,λi b=>(d b).elim⟩
 .unfold bsH at h;dsimp only at h;split at h
  .cases h
  .exact h
 .obtain⟨v,q,s⟩:=R.var i _ (YZ e t);refine⟨v,q,λz=>(d z).elim,λz=>(u z).elim,λ_ _=>(show Rep Z.W _ H x v from s).sub λa m _=>⟨⟨.inl m,λ⟨k,c,f,_,l⟩=>m.2 k (E7.mp f).1 l⟩,λi b=>(d b).elim⟩⟩
 .obtain⟨k,c,f,hz,rfl⟩:=h;obtain⟨o,p,n⟩:=(R.toHH.cell k c f).live hz;exact⟨o,p,n,by unfold bsH;dsimp only;rw[if_pos ⟨k,c,f,hz,rfl⟩]⟩
def Kc(P:Z.W=W)
  (hi:∀R:It->Hp->Prop,(∀J t,zA H t->uI Z.W (HM Z A G.length) (λa=>¬gL A G a) t J xs->R J t)->wi σ H R)
  (U:∀(Z:HC),Z.W=W->∀A H σ ρ G x v,HR Z A H σ ρ G->qR Z.W (HM Z A G.length) A G.length H x v->∀Q:St->Hp->Prop,(∃b,mg x ρ=some b/\∀d,HR Z A H d b G->Q d H)->g v σ H Q) (hb:LHS W E tb mb) (R:HR Z A H σ ρ G) (q:HPs Z E A G.length H D (Wg mg mb (xs.map .v) ρ G)):om wi g tb D σ H:=by
 refine hi _ λJ t s2 io=>?_;have R2:=R.keep s2;have T:=HPs.gro q (Gro.same s2);refine⟨λi n d H'=>n=xs.length-i/\i<=xs.length/\∃b A' G',HR Z A' H' d b G'/\Gro Z A G.length t A' G'.length H'/\HPs Z E A' G'.length H' D (Wg mg mb ((xs.drop i).map .v) b G'),⟨_,rfl,P4 _,ρ,A,G,R2,Gro.refl,T⟩,?_⟩
 rintro i n d H' ⟨rfl,hle,b,A',G',B,O,l⟩
 have z:=io H' (Gro.rest R2.toHH B.toHH O);by_cases p:i<xs.length
 .have hx:xs[i]?=some xs[i]:=E1 p;obtain⟨go,yl⟩:=z.1 i _ hx;refine .inr ⟨go,λy r=>i+1<=xs.length/\∃b A' G',HR Z A' r y b G'/\Gro Z A G.length t A' G'.length r/\HPs Z E A' G'.length r D (Wg mg mb ((xs.drop (i+1)).map .v) b G'),λy r h=>⟨xs.length-(i+1),by omega,rfl,h.1,h.2⟩,λv f hy=>?_⟩;obtain⟨F,ry⟩:=yl v f hy;have Y:=B.keep F;have N:Gro Z A G.length t A' G'.length f:=O.trans (Gro.same F);have S:Rep Z.W (HM Z A' G'.length) f xs[i] v:=ry _ λa m hn=>N.sM a m hn;rw[W1 p,F3]at l;unfold Wg at l;split at l
  .exact l.elim
  .rename_i u L;refine U Z P A' f d b G' _ v Y (show qR Z.W _ _ _ f (.v xs[i]) v from S) _ ⟨u,L,λC R1=>hb Z P A' f C u G' R1 _ ?_⟩;have l:=HPs.gro l (Gro.same F);revert l;cases mb u G' with
   |wall=>exact id
   |exc c fs s=>exact id
   |nx j s=>exact λl K H3 I M w=>⟨p,j,K,s,M,N.trans w,HPs.gro (o:=Wg mg mb ((xs.drop (i+1)).map .v) j s) l w⟩
   |ct j s=>exact λl K H3 I M w=>⟨p,j,K,s,M,N.trans w,HPs.gro (o:=Wg mg mb ((xs.drop (i+1)).map .v) j s) l w⟩
   |bk j s=>exact id
   |rt x s=>exact id
 .have e:i=xs.length:=by omega
  subst e;rw[a1W]at l;exact .inl ⟨z.2,l A' H' d B Gro.refl⟩
end
def Ux(bs:Ew)(mi:MI)(g:HMG)(b:HMS):HMS:=λa G=>match Q5 bs a with
 |some r=>match mi r with
  |.ok c=>Wg g b (c.map .v) a G
  |_=>.wall
 |none=>.wall
section
variable {X:Cx}{W:RC}{E:XK}{fr:Bool}{S:Eo}{tg iter:Ey}{body:Fd}{mi:MI}{mg:HMG}{mb:HMS}{pos:Pos}
def Xb(bs:Ew)(hp:PassesOwn (FK X) X.A X.env X.xe)(C:X.calm=true)(U:IM X ⟨W,E,fr⟩ S false tg iter mi)(u:HG X W tg mg)(O:HSs X W E body mb)(j:S.all (·==0)=true:=by rfl)(t:∀x,foldedSetIterable iter X.env x=pure x:=by intro _;rfl):
  HS X W E (.For tg iter body [] pos) (Ux bs mi mg mb):=λd=>by
 obtain⟨wi,Y,w⟩:=U d;obtain⟨g,T,N⟩:=u d;obtain⟨tb,K,c2⟩:=O d;refine⟨_,Kn hp C Y T K t,λZ F A H p ρ G R D q=>?_⟩;unfold Ux at q;split at q
 .rename_i r I;split at q
  .rename_i xs c;subst F;refine Kc rfl (λn k=>?_) N c2 R q;refine w _ _ H p r (CN R I j) n ?_;rw[c];intro J L s M;refine k J L s λy f=>?_;have n2:∀{k:Nat},S[k]?=some 2->False:=λ{k} h=>by have:=Ab j h;omega
   obtain⟨e,P⟩:=M y λa o h m=>f a o h (m.imp (λm z=>m.1 z) id);refine⟨λi x c=>⟨(e i x c).1,λv b l=>⟨((e i x c).2 v b l).1,λB sM=>((e i x c).2 v b l).2 B λa m hn=>sM a ?_ hn⟩⟩,P⟩;have m1:HM Z A G.length a\/(bsH Z A H G).H0 a=none:=m.1.1;rcases m1 with m1|m1
   .exact m1
   .unfold bsH at m1;dsimp only at m1;split at m1
    .rename_i Q;exact absurd Q m.1.2
    .exact R.toHH.new a m1
  .exact q.elim
 .exact q.elim
end
def hB(p:EJ)(ms:HMA):HME:=λd G=>(ms d G).bind λc a=>match cF (kG a 8) c with
 |some b=>match p b with
  |.ok z=>if imm z=true then .ok (.v z) a else .wall
  |_=>.wall
 |none=>.wall
def lp(n:Nat)(ms:HMS)(xs:List HV)(G:AH):HX HV:=match ms (xs.map some++List.replicate (n-xs.length) none) G with
 |.nx _ a=>.ok (.v .n) a
 |.rt x a=>.ok x a
 |.exc c fs a=>.exc c fs a
 |_=>.wall
def d8{xs:List HV}{n k:Nat}{x:HV}(h:(xs.map some++List.replicate (n-xs.length) none)[k]?=some (some x)):xs[k]?=some x:=by
 rw[a1q]at h;split at h
 .rw[G9]at h;obtain⟨y,a,e⟩:=v2.mp h;cases e;exact a
 .rw[a0H]at h;split at h<;>cases h
def mY(h:HH Z A H G)(r:yD Z.W (HM Z A G.length) A G.length H xs vs):HR Z A H (start N vs) (xs.map some++List.replicate (N.length-xs.length) none) G:=by
 refine⟨h,?_,λi x e=>?_⟩
 .unfold start;rw[F7,F7,u8,u8,a0q,a0q,r.len]
 .obtain⟨v,a,c⟩:=r.get (d8 e);have b:i<vs.length:=(E7.mp a).1;refine⟨v,?_,c⟩;unfold start;rw[M8 (by rw[u8];exact b),G9,a];rfl
section
variable {P:Ez}{w:EF}{K:Fc}{mg:Er}{base:Heap}
def Js{x b:Str}{st:Fh}{f:Addr}{t:EL}{N o:EB}{k n l:Nat}{W:RC}{ms:HMS}(F:Fun K x b st f t)(S:zH N o (zt st))(hW:K=W.K)(p:o.length=l)(D:N.length=n)
  (h:∀(d:Value)(A:EK)(a:List Env)(s:Eu)(H:Hp)(E:XK),wI k (A.deeper (envOfC b (zt st) s.heap.objs.size f d))->HSs (thr (eL (CXe P w) P w K mg base N b (zt st) f d A a s H E) E) W E (wO st) ms):
  qY P w K mg base (CXe P w) (k+1) f t o (hsp W l (lp n ms)):=by
 subst D p;refine F.okX S sZ λd A a s H U Q E M ⟨Z,R,G,u,L,p,I,r,q⟩=>?_;obtain⟨B,z,J⟩:=h d A a s H E M hW;refine⟨B,z,J Z L R H _ _ G (mY I r) _ ?_⟩;unfold lp at q;revert q;cases ms (u.map some++List.replicate (N.length-u.length) none) G with
 |exc c fs g=>exact id
 |wall=>exact id
 |nx e g=>exact λq j m C R2 i=>q j m R2.toHH i .non rfl
 |rt y g=>exact λq j m v O i T=>q j m O i v T
 |bk e g=>exact λq=>q.elim
 |ct e g=>exact λq=>q.elim
end
def tx(i:SqL W.K H p (ns.map V.int))(h:∃G,g [.v (.sc ns)] []=.ok (.v (.b true)) G)(k:∀d,Q (.bl true) d):hsp W 1 g [.ref p] H Q E:=by
 obtain⟨G,h⟩:=h;refine⟨⟨W,H,λ_=>True⟩,λ_=>0,[],[.v (.sc ns)],rfl,rfl,⟨zA.refl _,(λk c e=>by cases e),λj k b=>absurd b (T4 _),λk a=>absurd a (T4 _)⟩,⟨.ref p,[],rfl,⟨p,rfl,?_⟩,rfl⟩,?_⟩
 .exact i.elim (λz=>.inl ⟨⟨.inl trivial,λk a=>absurd a (T4 _)⟩,z⟩) .inr
 .rw[h];intro m l o n v f;cases(show v=_ from f);exact k l
def Zf(Z:HC)(a:Addr)(u:HO):HC:=⟨Z.W,λb=>if b=a then(match Z.H0 a with|none=>none|some _=>some u)else Z.H0 b,Z.M0⟩
section
variable {Z:HC}{A:ED}{n:Nat}{H H':Hp}{a:Addr}{es:Et}{u u':HO}{W:RC}{M:Es}
def gM:(Zf Z a u).H0 b=none↔Z.H0 b=none:=by
 show(if b=a then _ else _)=none↔_;by_cases e:b=a
 .subst e;rw[if_pos rfl];cases Z.H0 b with
  |none=>exact a1t
  |some x=>exact⟨(λz=>by cases z),(λz=>by cases z)⟩
 .rw[if_neg e]
def Xc:HM (Zf Z a u) A n=HM Z A n:=funext λb=>propext (and_congr (or_congr a1t gM) a1t)
def Ao(h:Z.H0 a=none\/Z.H0 a=some u'):Zf (Zf Z a u) a u'=Z:=by
 unfold Zf;cases Z with
 |mk W c d=>
  dsimp only at h ⊢;congr 1
  funext b
  by_cases e:b=a
  .subst e;rw[if_pos rfl,if_pos rfl];rcases h with h|h<;>rw[h]
  .rw[if_neg e,if_neg e]
mutual
theorem qR.sw(d:Rd H a (.dK es))(f:Rd H' a (.dK es))(c:∀b,b≠a->H' b=H b):∀{x:HV}{v:V},qR W M A n H x v->qR W M A n H' x v
 |.v x,v,h=>Rep.sw d f c h
 |.g k,v,h=>h
 |.t i,v,h=>by unfold qR at h ⊢;obtain⟨p,g,e,r,q⟩:=h;exact⟨p,g,e,r.elim (λz=>.inl (Zz d c z (λ_=>by nofun) λ_ _=>by nofun)) .inr,yD.sw d f c q⟩
theorem yD.sw(f:Rd H a (.dK es))(d:Rd H' a (.dK es))(c:∀b,b≠a->H' b=H b):∀{x:List HV}{v:EH},yD W M A n H x v->yD W M A n H' x v
 |[],v,h=>h
 |x::j,l,h=>by unfold yD at h ⊢;obtain⟨v,r,e,g,i⟩:=h;exact⟨v,r,e,qR.sw f d c g,yD.sw f d c i⟩
end
def W6.sw{p:Addr}(hp:p≠a)(f:Rd H a (.dK es))(h:Rd H' a (.dK es))(d:∀b,b≠a->H' b=H b):∀{c:Cell},W6 W M A n H p c->W6 W M A n H' p c
 |.l _,⟨g,e,q⟩=>⟨g,(d p hp).trans e,q.sw f h d⟩
 |.d _,⟨g,e,q⟩=>⟨g,(d p hp).trans e,q.imp λ_ _=>qR.sw f h d⟩
 |.z _,⟨o,g,e,q⟩=>⟨o,g,(d p hp).trans e,q.imp λ_ _=>qR.sw f h d⟩
 |.o _ _,⟨r,g,e,q⟩=>⟨r,g,(d p hp).trans e,q.imp λ_ _=>qR.sw f h d⟩
 |.y _,⟨l,j,e,q⟩=>⟨l,j,(d p hp).trans e,q⟩
 |.m _ _ _,⟨l,j,e,m,v,ws,t,u,i,s⟩=>⟨l,j,(d p hp).trans e,m,v,ws,t,u,(d m λz=>by
  rcases f with f|⟨o,f⟩
  .rw[<- z,i]at f;cases f
  .rw[<- z,i]at f;cases f).trans i,s⟩
 |.u _,⟨g,e,q⟩=>⟨g,(d p hp).trans e,q.imp λ_ _=>qR.sw f h d⟩
 |.w _,e=>(d p hp).trans e
def HH.sw(h:HH Z A H G)(m:HM Z A G.length a)(l:H a=some u)(j:DU es u)(d:DU es u'):HH (Zf Z a u') A (upd H a u') G:=by
 have n:Rd H a (.dK es):=j.rd l;have i:Rd (upd H a u') a (.dK es):=d.rd zd;have f:∀b,b≠a->upd H a u' b=H b:=λb z=>zh z;refine⟨λb o e=>?_,λk c e=>?_,h.inj,λk g=>gM.mpr (h.own k g)⟩
 .have e:(if b=a then(match Z.H0 a with|none=>none|some _=>some u')else Z.H0 b)=some o:=e;by_cases z:b=a
  .subst z;rw[if_pos rfl]at e;rw[zd];cases q:Z.H0 b with
   |none=>rw[q]at e;cases e
   |some x=>rw[q]at e;exact e
  .rw[if_neg z]at e;rw[zh z];exact h.same b o e
 .rw[Xc];exact(h.cell k c e).sw (λz=>m.2 k (E7.mp e).1 z) n i f
def HR.sw(R:HR Z A H σ ρ G)(m:HM Z A G.length a)(f:H a=some u)(d:DU es u)(c:DU es u'):HR (Zf Z a u') A (upd H a u') σ ρ G:=
 ⟨R.toHH.sw m f d c,R.len,λi x e=>by
  obtain⟨v,g,h⟩:=R.var i x e;rw[Xc];exact⟨v,g,h.sw (d.rd f) (c.rd zd) λb z=>zh z⟩⟩
def Gro.back(d:H a=some (.dK es))(g:Gro (Zf Z a (.frz o (.dK es))) A n (upd H a (.frz o (.dK es))) A' n' H'):Gro Z A n H A' n' (upd H' a (.dK es)):=by
 have i:HM (Zf Z a (.frz o (.dK es))) A n=HM Z A n:=Xc;refine⟨g.le,g.agr,λk f c=>?_,λb q e m=>?_,λb e=>?_⟩
 .have:=g.fresh k f c;have h:A' k≠a:=λz=>by rw[z,zd]at this;cases this
  rwa [zh h]at this
 .by_cases z:b=a
  .subst z;rw[d]at e;rw[zd];exact e
  .rw[zh z];exact g.fr b q (by rw[zh z];exact e) (by rw[i];exact m)
 .have z:b≠a:=λz=>by rw[z,zd]at e;cases e
  rw[zh z]at e;have:=g.dom b e
  rwa [zh z]at this
def Ap(h:HH Z A H G)(m:HM Z A G.length a)(s:H a=some (.dK es))(q:HPs Z E A G.length H D out):HPs (Zf Z a (.frz o (.dK es))) (Ef a es E) A G.length (upd H a (.frz o (.dK es))) (Df a es D) out:=by
 have t:DU es (.dK es):=.inl rfl;have r:DU es (.frz o (.dK es)):=.inr ⟨o,rfl⟩;have hz:Z.H0 a=none\/Z.H0 a=some (.dK es):=by
  cases q:Z.H0 a with
  |none=>exact .inl rfl
  |some x=>have:=h.same a x q;rw[s]at this;cases this;exact .inr rfl
 have fz:∀{f I j},Gro (Zf Z a (.frz o (.dK es))) A G.length (upd H a (.frz o (.dK es))) f I j->j a=some (.frz o (.dK es))/\HM Z f I a:=λg=>⟨g.fr a _ zd (.inr trivial),by
  have:=g.sM a (by rw[Xc];exact m) (by rw[zd];exact λz=>by cases z)
  rwa [Xc]at this⟩
 have bk:∀{f j i n l},HR (Zf Z a (.frz o (.dK es))) f j i n l->Gro (Zf Z a (.frz o (.dK es))) A G.length (upd H a (.frz o (.dK es))) f l.length j->HR Z f (upd j a (.dK es)) i n l:=λp d=>by
  have:=p.sw (u':=.dK es) (by rw[Xc];exact(fz d).2) (fz d).1 r t
  rwa [Ao hz]at this
 have K:∀{f j l},HH (Zf Z a (.frz o (.dK es))) f j l->Gro (Zf Z a (.frz o (.dK es))) A G.length (upd H a (.frz o (.dK es))) f l.length j->HH Z f (upd j a (.dK es)) l:=λp d=>by
  have:=p.sw (u':=.dK es) (by rw[Xc];exact(fz d).2) (fz d).1 r t
  rwa [Ao hz]at this
 cases out with
 |wall=>exact q
 |nx n l=>exact λf j i p d=>⟨⟨o,(fz d).1⟩,q f _ i (bk p d) (Gro.back s d)⟩
 |bk n l=>exact λf j i p d=>⟨⟨o,(fz d).1⟩,q f _ i (bk p d) (Gro.back s d)⟩
 |ct n l=>exact λf j i p d=>⟨⟨o,(fz d).1⟩,q f _ i (bk p d) (Gro.back s d)⟩
 |rt x l=>intro f j v u d L;refine⟨⟨o,(fz d).1⟩,q f _ v (K u d) (Gro.back s d) ?_⟩;rw[Xc]at L;exact L.sw (r.rd (fz d).1) (t.rd zd) λb z=>zh z
 |exc c fs l=>
  intro f j e C N u d M F J;have y:Rd j a (.dK es):=r.rd (fz d).1;have w:e≠a:=YV y M (λ_=>by nofun) λ_ _=>by nofun
  have B:C≠a:=YV y F (λ_=>by nofun) λ_ _=>by nofun
  rw[Xc]at J;exact⟨⟨o,(fz d).1⟩,q f _ e C N (K u d) (Gro.back s d) ((zh w).trans M) ((zh B).trans F) (J.sw y (t.rd zd) λb z=>zh z)⟩
end
def mZ(i:Nat)(g:HMG)(b:HMS):HMS:=λc G=>match c[i]? with
 |some (some (.v (.d a)))=>Wg g b ((a.map λd=>kP d.1).map .v) c G
 |_=>.wall
def tD(N:X.calm=true)(z:Own X)(L:∀b,PE (thr X b) iter (ZN i))(C:∀b,HG (thr X b) W tg mg)(F:∀b,HSs (thr X b) W b body mb)(K:∀x,foldedSetIterable iter X.env x=pure x:=by intro _;rfl):
  HS (thr X E) W E (.For tg iter body [] pos) (mZ i mg mb):=λr=>by
 refine⟨tFz (λb D p H=>∃g d,PG (thr X b) tg g/\PSs (thr X b) body d/\om (KN (ZN i)) g d D p H) E,mH λb n s p H D I ⟨g,d,l,h,q⟩=>Kn (X:=thr X b) (yi z) N (vQ (L b)) l h K n s p H D I q,λZ M A H p S G R D q=>?_⟩;unfold mZ at q;split at q
 .rename_i e O;obtain⟨v,j,a,c,rfl,m,B,rk⟩:=R.var i _ O;have J:c.map (·.1)=e.map (·.1):=(yG.iff.mp rk).1;subst M;rcases B with f|⟨o,f⟩
  .refine .inl ⟨a,c,f,λo=>?_⟩;obtain⟨g,l,y⟩:=C (Ef a c E) r;obtain⟨d,h,u⟩:=F (Ef a c E) r;have P:=R.sw (u':=.frz o (.dK c)) m f (.inl rfl) (.inr ⟨o,rfl⟩);refine⟨g,d,l,h,Kc (W:=Z.W) (Z:=Zf Z a (.frz o (.dK c))) (xs:=e.map λt=>kP t.1) rfl (λQ w=>?_) y u P (Ap R.toHH m f q)⟩;exact⟨.ref a,j,a,o,c,rfl,zd,w _ _ (zA.refl _) (kg zd J)⟩
  .obtain⟨g,l,y⟩:=C E r;obtain⟨d,h,u⟩:=F E r;refine .inr ⟨g,d,l,h,Kc (W:=Z.W) (xs:=e.map λt=>kP t.1) rfl (λQ w=>?_) y u R q⟩;exact⟨.ref a,j,a,o,c,rfl,f,w _ _ (zA.refl _) (kg f J)⟩
 .exact q.elim
def CO{st:Fh}{l:TE}(h:PS X st (oj l (VP j))):PS X st (oj (tGz l) (VP j)):=by
 intro c s g H D I q;rcases q with⟨a,i,n,q⟩|q
 .obtain⟨o,p⟩:=I.CD n;have hz:∀o v,X.H₀ a≠some (.frz o v):=I.cu n;refine thn (h c s g _ { nx:=λb m=>(∃o,m a=some (.frz o (.dK i)))/\D.nx b (upd m a (.dK i)),rt:=λ_ _=>False } p (q o)) λf t z=>?_;cases f with
  |next=>obtain⟨b,e,J,⟨r,hf⟩,d⟩:=z;exact⟨b,_,J.mF hf hz,d⟩
  |brk=>obtain⟨b,e,J,d⟩:=z;exact d.elim
  |cont=>obtain⟨b,e,J,d⟩:=z;exact d.elim
  |ret u=>obtain⟨v,b,e,J,w,d⟩:=z;exact d.elim
 .exact h c s g H D I q
def gN{κ:Type}:List (κ×HV)->Option (List (κ×PV))
 |[]=>some []
 | (k,.v x)::a=>(gN a).map ((k,x)::·)
 |_::_=>none
def Aq:Cell->Option PV
 |.l b=>(pC b).map .l
 |.d a=>(gN a).map .d
 |.z a=>(gN a).map .d
 |.o c fs=>(gN fs).map (.o c)
 |.y _=>none
 |.m _ _ _=>none
 |.u _=>none
 |.w ks=>some (.t (ks.map kP))
def sres(G:AH):HV->Option PV
 |.v x=>some x
 |.t a=>(pC a).map .t
 |.g k=>(G[k]?).bind Aq
def XQ(G:AH):List Bool->kJ->Option Sto
 |_,[]=>some []
 |[],_::a=>(XQ G [] a).map (none::·)
 |false::bs,_::a=>(XQ G bs a).map (none::·)
 |true::bs,some x::a=>(sres G x).bind λy=>(XQ G bs a).map (some y::·)
 |true::_,none::_=>none
def hW(bs:Ew)(m:ME):HME:=λa G=>match XQ G bs a with
 |some r=>match m r with
  |.ok x=>.ok (.v x) G
  |.exc c fs=>.exc c fs G
  |.wall=>.wall
 |none=>.wall
section
variable {Z:HC}{A:ED}{H:Hp}{G:AH}{σ:St}{ρ:kJ}
theorem Xd{W:RC}{M:Es}{n:Nat}:∀{b:List (Key×HV)}{a:EA}{c:Et},gN b=some a->yJ (qR W M A n H) b c->yG W M H a c
 |[],_,_,e,h=>by cases e;exact h
 | (k,.v x)::b,a,_,e,h=>by unfold gN at e;obtain⟨i,d,rfl⟩:=v2.mp e;obtain⟨v,r,rfl,g,f⟩:=h;exact⟨v,r,rfl,g,Xd d f⟩
 | (_,.g _)::_,_,_,e,_=>by cases e
 | (_,.t _)::_,_,_,e,_=>by cases e
theorem cM{W:RC}{M:Es}{n:Nat}:∀{b:List (Str×HV)}{a:EV}{c:E_},gN b=some a->yJ (qR W M A n H) b c->vA W M H a c
 |[],_,_,e,h=>by cases e;exact h
 | (k,.v x)::b,a,_,e,h=>by unfold gN at e;obtain⟨i,d,rfl⟩:=v2.mp e;obtain⟨v,r,rfl,g,f⟩:=h;exact⟨v,r,rfl,g,cM d f⟩
 | (_,.g _)::_,_,_,e,_=>by cases e
 | (_,.t _)::_,_,_,e,_=>by cases e
def cO(h:HH Z A H G)(r:qR Z.W (HM Z A G.length) A G.length H x v)(e:sres G x=some y):yp Z.W (λa=>H a≠none) (HM Z A G.length) H y v:=by
 cases x with
 |v z=>have e:some z=some y:=e;cases e;exact yp.sub (yp.iff.mpr (show Rep Z.W _ H y v from r)) (λ_ _ n=>n) λ_ m _=>m
 |t j=>obtain⟨D,i,rfl⟩:=v2.mp (show(pC j).map PV.t=some y from e);obtain⟨p,B,rfl,s,q⟩:=r;exact⟨p,B,rfl,s,Kb i q⟩
 |g k=>
  obtain⟨F,rfl⟩:=r;obtain⟨c,C,e⟩:=L6.mp (show(G[k]?).bind Aq=some y from e);cases c with
  |y b=>cases e
  |m _ _ _=>cases e
  |u _=>cases e
  |w ks=>cases e;exact⟨A k,_,rfl,.inl (.inl (h.cell k _ C)),aV ks⟩
  |l j=>obtain⟨D,i,rfl⟩:=v2.mp (show(pC j).map PV.l=some y from e);obtain⟨B,f,q⟩:=h.cell k _ C;exact⟨A k,B,rfl,(show H (A k)≠none from λz=>by(rw[f]at z;cases z)),f,Kb i q⟩
  |d j=>obtain⟨D,i,rfl⟩:=v2.mp (show(gN j).map PV.d=some y from e);obtain⟨B,f,q⟩:=h.cell k _ C;exact⟨A k,B,rfl,(show H (A k)≠none from λz=>by(rw[f]at z;cases z)),.inl f,Xd i q⟩
  |z j=>obtain⟨D,i,rfl⟩:=v2.mp (show(gN j).map PV.d=some y from e);obtain⟨o,B,f,q⟩:=h.cell k _ C;exact⟨A k,B,rfl,(show H (A k)≠none from λz=>by(rw[f]at z;cases z)),.inr ⟨o,f⟩,Xd i q⟩
  |o c j=>obtain⟨D,i,rfl⟩:=v2.mp (show(gN j).map (PV.o c)=some y from e);obtain⟨E,B,f,q⟩:=h.cell k _ C;exact⟨A k,E,B,rfl,(show H (A k)≠none from λz=>by(rw[f]at z;cases z)),f,cM i q⟩
theorem vR:∀{bs:Ew}{ρ:kJ}{r:Sto}{i:Nat}{x:PV},XQ G bs ρ=some r->r[i]?=some (some x)->i<bs.length/\∃y,ρ[i]?=some (some y)/\sres G y=some x
 |_,[],r,i,x,e,h=>by unfold XQ at e;cases e;simp at h
 |[],_::ρ,r,i,x,e,h=>by
  unfold XQ at e;obtain⟨b,a,rfl⟩:=v2.mp e;cases i with
  |zero=>cases h
  |succ i=>rw[L7]at h;exact absurd (vR a h).1 (T4 _)
 |false::bs,_::ρ,r,i,x,e,h=>by
  unfold XQ at e;obtain⟨b,a,rfl⟩:=v2.mp e;cases i with
  |zero=>cases h
  |succ i=>rw[L7]at h ⊢;exact⟨a1g (vR a h).1,(vR a h).2⟩
 |true::bs,some y::ρ,r,i,x,e,h=>by
  unfold XQ at e;obtain⟨z,c,e⟩:=L6.mp e;obtain⟨b,a,rfl⟩:=v2.mp e;cases i with
  |zero=>cases h;exact⟨a1X _,y,rfl,c⟩
  |succ i=>rw[L7]at h ⊢;exact⟨a1g (vR a h).1,(vR a h).2⟩
 |true::bs,none::ρ,r,i,x,e,h=>by cases e
theorem Y2:∀{bs:Ew}{ρ:kJ}{r:Sto},XQ G bs ρ=some r->r.length=ρ.length
 |_,[],r,e=>by unfold XQ at e;cases e;rfl
 |[],_::ρ,r,e=>by unfold XQ at e;obtain⟨b,a,rfl⟩:=v2.mp e;rw[E4,E4,Y2 a]
 |false::bs,_::ρ,r,e=>by unfold XQ at e;obtain⟨b,a,rfl⟩:=v2.mp e;rw[E4,E4,Y2 a]
 |true::bs,some y::ρ,r,e=>by unfold XQ at e;obtain⟨z,c,e⟩:=L6.mp e;obtain⟨b,a,rfl⟩:=v2.mp e;rw[E4,E4,Y2 a]
 |true::bs,none::ρ,r,e=>by cases e
def CP(R:HR Z A H σ ρ G)(e:XQ G bs ρ=some r)(g:S.all (·==1)=true)(s:bs.length<=S.length):Rel Z.W (gh H (HM Z A G.length)) S (λ_=>0) H σ r:=by
 have one:∀{k c:Nat},S[k]?=some c->c=1:=λ{k c} h=>by have:=O5.mp g c (O2 h);simpa using this
 have d:∀{k:Nat},S[k]?=some 2->False:=λ{k} h=>by have:=one h;omega
 refine⟨zA.refl _,R.len.trans (Y2 e).symm,λi x h=>?_,λi b=>(d b).elim,λi j b=>(d b).elim,λb=>(d b).elim,λa h=>h.elim,λi b=>(d b).elim⟩;obtain⟨b,y,l,p⟩:=vR e h;obtain⟨v,q,o⟩:=R.var i y l;have f:S[i]?=some 1:=by have t:i<S.length:=F5 b s;have:=E1 t;rw[this,one this]
 exact⟨v,q,λz=>(d z).elim,λ_=>yp.sub (cO R.toHH o p) (λ_ n _=>n) λa m _=>⟨⟨.inl m,id⟩,λi b=>(d b).elim⟩,λ_ z=>absurd f z⟩
end
section
variable {X:Cx}{W:RC}{E:XK}{fr:Bool}{S:Eo}{e:Ey}{m:ME}
def Ec(bs:Ew)(h:EM X ⟨W,E,fr⟩ S false e m)(i:S.all (·==1)=true:=by rfl)(t:bs.length<=S.length:=by decide):HE X W E e (hW bs m):=λj=>by
 obtain⟨l,u,g⟩:=h j;refine⟨l,u,λZ o A H d y G R Q q=>?_⟩;subst o;unfold hW at q;split at q
 .rename_i r p;refine g _ _ H d r (CP R p i t) Q ?_;revert q;cases m r with
  |ok x=>exact λq v b s f=>q A b (R.toHH.keep s) (Gro.same s) v (f.rep.sub λa m _=>mT R.toHH a m)
  |exc c fs=>exact λq=>Uu R.toHH q λb w h=>h.sub λa m _=>m.elim id λn=>R.toHH.new a n
  |wall=>exact id
 .exact q.elim
end
def Q8(G:AH):Nat->HV->Option PV
 |0,_=>none
 |_+1,.v x=>if imm x=true then some x else none
 |n+1,.t b=>(cF (Q8 G n) b).map .t
 |n+1,.g k=>match G[k]? with
  |some (.l b)=>(cF (Q8 G n) b).map .l
  |some (.d a)=>(Q6 (Q8 G n) a).map .d
  |_=>none
section
variable {Z:HC}{A:ED}{H:Hp}{G:AH}
theorem Ke{N:Es}(h:HH Z A H G)(b:∀k,k<G.length->N (A k)):∀(n:Nat)(x:HV)(v:V)(y:PV),qR Z.W (HM Z A G.length) A G.length H x v->Q8 G n x=some y->Rep Z.W N H y v
 |0,_,_,_,_,e=>by cases e
 |n+1,.v x,v,y,r,e=>by
  unfold Q8 at e;split at e
  .rename_i l;cases e;exact KS l r
  .cases e
 |n+1,.t j,v,y,r,e=>by unfold Q8 at e;obtain⟨i,a,rfl⟩:=v2.mp e;unfold qR at r;obtain⟨p,c,rfl,s,q⟩:=r;exact⟨p,c,rfl,s,YY (Ke h b n) q a⟩
 |n+1,.g k,v,y,r,e=>by
  obtain⟨g,rfl⟩:=r;unfold Q8 at e;split at e
  .rename_i j d;obtain⟨i,a,rfl⟩:=v2.mp e;obtain⟨c,f,q⟩:=h.cell k _ d;exact⟨A k,c,rfl,b k g,f,YY (Ke h b n) q a⟩
  .rename_i j d;obtain⟨i,a,rfl⟩:=v2.mp e;obtain⟨c,f,q⟩:=h.cell k _ d;exact⟨A k,c,rfl,b k g,.inl f,J9 (Ke h b n) q a⟩
  .cases e
def m4:HH ⟨Z.W,H,λ_=>True⟩ A H []:=⟨zA.refl _,λk c e=>(by cases e),λj k b=>absurd b (T4 _),λk a=>absurd a (T4 _)⟩
def Wh(g:Gro ⟨Z.W,H,λ_=>True⟩ A 0 H A' n H'):zA H H':=λa o e=>g.fr a o e (.inl ⟨.inl trivial,λk b=>absurd b (T4 _)⟩)
end
def vOf(g:List HV->AH->HX HV)(xs:EO):Out PV:=match g (xs.map .v) []with
 |.ok y X=>match Q8 X 8 y with
  |some z=>.ok z
  |none=>.wall
 |.exc c fs _=>if pB fs=true then .exc c fs else .wall
 |.wall=>.wall
theorem pF{W:RC}{M:Es}{H:Hp}{Z:HC}{A:ED}(c:∀a,HM Z A 0 a):∀{ws:Ew}{e:EO}{f:EH},wc W M H ws e f->yD W (HM Z A 0) A 0 H (e.map .v) f
 |[],_,_,⟨b,d⟩=>by subst b;exact d
 |w::ws,_,_,⟨x,v,j,g,b,d,i,h⟩=>by subst b;exact⟨v,g,d,yp.iff.mp (yp.sub i (λa _ _=>c a) λa _ _=>c a),pF c h⟩
def gO{P:Ez}{w:EF}{K:Fc}{j:Er}{b:Heap}{k n:Nat}{f:Addr}{m:EL}{o:EB}{W:RC}{g:List HV->AH->HX HV}{ws:Ew}(F:qY P w K j b (CXe P w) k f m o (hsp W n g))(hn:ws.length=n):qY P w K j b (CXe P w) k f m o (lsp W false ws (vOf g)):=
 F.imp λI H Q E ⟨M,p,a,q⟩=>by
  have B:∀a,HM ⟨W,H,λ_=>True⟩ (λ_=>0) 0 a:=λa=>⟨.inl trivial,λk i=>absurd i (T4 _)⟩;refine⟨⟨W,H,λ_=>True⟩,λ_=>0,[],p.map .v,rfl,by rw[u8,a.len.2,hn],m4 (Z:=⟨W,H,λ_=>True⟩),pF B a,?_⟩;unfold vOf at q;revert q;cases g (p.map .v) []with
  |wall=>exact λq=>q.elim
  |exc c fs s=>
   intro q;dsimp only at q;split at q
   .rename_i G;exact λA h e r u l d t x C=>q e r u h (Wh (Z:=⟨W,H,λ_=>True⟩) d) t x (ZA G C)
   .exact q.elim
  |ok y s=>
   intro q;dsimp only at q;split at q
   .rename_i z hz;intro A h l d v D;exact q v h (Wh (Z:=⟨W,H,λ_=>True⟩) d) (show Rep W _ h z v from Ke l (λk i=>.inr (d.fresh k (P4 _) i)) 8 y v z D hz)
   .exact q.elim
def tE(N:EB)(fr:EI)(b:Eo)(o:X.N.Nodup)(F:X.N[j]?=some y)(D:X.env.scope.names.lookup y=some .local)(v:X.calm=true)(e:eM X scope N fr=true)(r:PE X iter (ZN i))(p:∀z:CI,GM (cxI X scope N z) ⟨C.W,E0,false⟩ b b tg mg)(A:∀z:CI,TsM (cxI X scope N z) ⟨C.W,E0,false⟩ b ifs mc)(he:∀z:CI,EM (cxI X scope N z) ⟨C.W,E0,false⟩ b false elt me)(l:S[i]?≠some 2:=by decide)(t:b=inS S fr:=by rfl)(d:j<S.length:=by decide)(u:j≠0:=by decide)
  (h:swapsWith (.ListComp elt [⟨tg,iter,ifs,0⟩] scope pos) (some (.Name y py)) eJ.line X.env=pure true:=by rfl) (m:∀x,foldedSetIterable iter X.env x=pure x:=by intro _;rfl):SM X C S (S.set j 2) Sb Sc (.Assign [.Name y py] (.ListComp elt [⟨tg,iter,ifs,0⟩] scope pos) eJ) (yW j (mLC (yb i) fr mg mc me)):=λf=>by
 obtain⟨g,E,B⟩:=WV p λ_=>f;obtain⟨I,w,G⟩:=WU A λ_=>f;obtain⟨J,q,n⟩:=WT he λ_=>f;exact⟨_,CO (Ck N fr o F D v e (vQ r) (λa c s H L=>E ⟨a,c,s,H,L⟩) (λa c s H L=>w ⟨a,c,s,H,L⟩) (λa c s H L=>q ⟨a,c,s,H,L⟩) h m),fW (pe l t B G n) d u⟩
def pD1(x:PV):PV->Out PV
 |.i n=>match pk x with|some k=>.ok (.d [(k,.i n)])|none=>.wall
 |_=>.wall
def mD1(mk b:ME):ME:=λa=>(mk a).bind λx=>(b a).bind λy=>pD1 x y
def CQ(E:EM X C S w1 a m1)(I:EM X C S w2 b m2):FM X C S (.Dict [some a] [b] pos) (mD1 m1 m2):=λt=>by
 obtain⟨A,M,D⟩:=E t;obtain⟨O,L,K⟩:=I t;refine⟨_,rQ (lQ M L rP) rfl rfl (by intro h;cases h) (show 1<=15 by decide),λB P H e d R Q q=>λp hp=>?_⟩;have f:zA H (upd H p (.dK [])):=zA.upd hp;unfold mD1 at q;show A e _ _;refine D B P _ e d (R.keep f) _ ?_;cases s:m1 d with
 |exc c fs=>rw[s]at q;exact q
 |wall=>rw[s]at q;exact q
 |ok x=>
  rw[s]at q;intro v N l F;refine K B P _ e d (R.keep (f.trans l)) _ ?_;cases g:m2 d with
  |exc c fs=>have q:zX C B H _ Q ((m2 d).bind _):=q;rw[g]at q;exact q
  |wall=>have q:zX C B H _ Q ((m2 d).bind _):=q;rw[g]at q;exact q
  |ok y=>
   have q:zX C B H _ Q ((m2 d).bind _):=q;rw[g]at q;intro u J s2 w;have q:zX C B H _ Q (pD1 x y):=q;cases y with
   |i n=>
    cases j:pk x with
    |none=>have q:zX C B H _ Q (match pk x with|some k=>.ok (.d [(k,.i n)])|none=>.wall):=q;rw[j]at q;exact q.elim
    |some k=>
    have q:zX C B H _ Q (match pk x with|some k=>.ok (.d [(k,.i n)])|none=>.wall):=q;rw[j]at q;have ev:=YQ (F.weak) j;have G:u=.int n:=w.weak;subst ev G;have m:J p=some (.dK []):=(l.trans s2) _ _ zd;refine⟨m,[(k,.int n)],rfl,by show 1<=15;decide,q _ _ (λc o r=>?_) ⟨p,rfl,hp,[(k,.int n)],zd,⟨_,_,rfl,rfl,rfl⟩⟩⟩;have:c≠p:=λz=>by rw[z,hp]at r;cases r
    rw[zh this];exact(f.trans (l.trans s2)) _ _ r
   |_=>exact(show False from q).elim
def JV(k:Nat)(g:HMG)(b:HMS):Nat->Nat->kJ->AH->HFw
 |r,i,f,G=>match G[k]? with
  |some (.l h)=>match h[i]? with
   |none=>.nx f G
   |some x=>match r with
    |0=>.wall
    |r+1=>match g x f with
     |none=>.wall
     |some e=>match b e G with
      |.nx a d=>JV k g b r (i+1) a d
      |.ct a d=>JV k g b r (i+1) a d
      |.bk a d=>.nx a d
      |.rt v d=>.rt v d
      |.exc c fs d=>.exc c fs d
      |.wall=>.wall
  |_=>.wall
def tF(m:HME)(g:HMG)(b:HMS):HMS:=λa G=>(m a G).fw λx c=>match x with
 |.g k=>match c[k]? with
  |some (.l d)=>JV k g b d.length 0 a c
  |_=>.wall
 |_=>.wall
def tG(hp:PassesOwn (FK X) X.A X.env X.xe)(hc:X.calm=true)(hi:HE X W E iter m)(hg:HG X W tg mg)(hb:HSs X W E body mb)(hs:∀x,foldedSetIterable iter X.env x=pure x:=by intro _;rfl):
  HS X W E (.For tg iter body [] pos) (tF m mg mb):=λN=>by
 obtain⟨te,a1,a2⟩:=hi N;obtain⟨g,b1,b2⟩:=hg N;obtain⟨tb,c1,c2⟩:=hb N;refine⟨_,Kn hp hc (cg a1) b1 c1 hs,λZ hZ A H σ ρ G R D q=>a2 Z hZ A H σ ρ G R _ (HPs.bind q λx F H1 P h1 g1 w v rx=>?_)⟩;split at w
 .rename_i k;obtain⟨hk,rfl⟩:=(show _/\_ from rx);split at w
  .rename_i xs hx;have Q:=R.gro h1 g1;obtain⟨vs,hl,rs⟩:=h1.cell k _ hx;refine .inl ⟨F k,rfl,⟨vs,SqL.of hl⟩,?_⟩;refine⟨λi n l C=>∃a f d,HR Z f C l a d/\Gro Z F P.length H1 f d.length C/\HPs Z E f d.length C D (JV k mg mb n i a d),⟨xs.length,ρ,F,P,Q,Gro.refl,w⟩,?_⟩
   rintro i n l C ⟨a,f,d,R',Y,b⟩
   have ak:f k=F k:=Y.agr k hk;unfold JV at b;split at b
   .rename_i ys hy;obtain⟨L,J,ru⟩:=R'.toHH.cell k _ hy;rw[ak]at J;split at b
    .rename_i hn;refine .inl ⟨⟨L,SqL.of J,?_⟩,b f C l R' Gro.refl⟩;rw[ru.len];exact a00.mp hn
    .rename_i y K;obtain⟨u,z,rui⟩:=ru.get K;split at b
     .exact b.elim
     .rename_i r;refine .inr ⟨⟨L,u,SqL.of J,z⟩,λI j=>∃a f d,HR Z f j I a d/\Gro Z F P.length H1 f d.length j/\HPs Z E f d.length j D (JV k mg mb r (i+1) a d),λI j h=>⟨r,N9 _,h⟩,λv' t S=>?_⟩;obtain⟨rfl,S⟩:=S;have:=S L (SqL.of J);rw[z]at this;cases this;split at b
      .exact b.elim
      .rename_i s M;refine b2 Z hZ f t l a d y u R' rui _ ⟨s,M,λσ1 Q=>c2 Z hZ f t σ1 s d Q _ ?_⟩;revert b;cases mb s d with
       |wall=>exact id
       |exc c fs p=>exact id
       |nx e p=>exact λb U H3 T O B=>⟨e,U,p,O,Y.trans B,HPs.gro (o:=JV k mg mb r (i+1) e p) b B⟩
       |ct e p=>exact λb U H3 T O B=>⟨e,U,p,O,Y.trans B,HPs.gro (o:=JV k mg mb r (i+1) e p) b B⟩
       |bk e p=>exact id
       |rt x p=>exact id
   .exact b.elim
  .exact w.elim
 .exact w.elim
open Classical in
def hide(H:Hp)(R:Ff):Hp:=λa=>if a∈R then none else H a
def gP(h:a∈R):hide H R a=none:=if_pos h
def Y3(h:a∉R):hide H R a=H a:=if_neg h
def m5:hide H []=H:=funext λa=>Y3 (by simp)
def gQ:zA (hide H (p::R)) (hide H R):=λa o h=>by
 by_cases m:a∈p::R
 .rw[gP m]at h;cases h
 .rw[Y3 m]at h;rw[Y3 λz=>m (E3 _ z)];exact h
def VU:PV->Cell
 |.d a=>.d (a.map λp=>(p.1,.v p.2))
 |_=>.l []
def m6:∀{b:Et},yG W M H a b->yJ (qR W M A n H) (a.map λp=>(p.1,.v p.2)) b:=by
 induction a with
 |nil=>intro b r;unfold yG at r;exact r
 |cons f a e=>intro b r;unfold yG at r;obtain⟨v,q,rfl,d,c⟩:=r;exact⟨v,q,rfl,(by unfold qR;exact d),e c⟩
theorem cP{W:RC}{M:Es}{A:ED}{n:Nat}{H:Hp}:∀{b:Ff}{c:Eo},c.length=b.length->(∀(i:Nat) j p,c[i]?=some j->b[i]?=some p->j<n/\A j=p)->yD W M A n H (c.map .g) (b.map .ref)
 |[],[],_,_=>by rw[a0Q,a0Q];unfold yD;rfl
 |p::b,j::c,a,h=>by rw[F3,F3];unfold yD;refine⟨_,_,rfl,?_,cP (Nat.succ.inj a) λi j p e d=>h (i+1) j p e d⟩;unfold qR;obtain⟨e,d⟩:=h 0 j p rfl rfl;exact⟨e,by rw[d]⟩
 |[],_::_,a,_=>by cases a
 |_::_,[],a,_=>by cases a
def tH(m:OpR X (compareOp .Eq) r)(C:PE X a ta)(w:Dp X sts t)(A:PSs X stt u):
  PS X (.If (.Compare a [.Eq] [.Constant (.int n) j kp] cp) sts stt pos) (C8 (rB (tOp r ta (tC (.int n)))) t u):=by
 intro b s d H D I h;refine wpAny_If (a2E (thn (C b s d H _ I h) λv p ⟨x,B,q,y,o⟩=>a24 (O1 (n:=1) (Nat.le_add_left 1 p.toks) ?_)) (YJ _ (by decide) (by decide)));refine S9 (m b _ d B x (.int n) v _ _ (q.tok _) y ⟨_,rfl⟩ o) (λc g ⟨z,l,i,E,k,e,f⟩ hn=>?_) (λ_ _ x _=>x);subst e;cases E;refine a0u ?_;cases k with
 |true=>exact w b g d l D hn i f
 |false=>exact A b g d l D i f
def pG(kvs:EA)(y:PV):Out PV:=match pk y with
 |some k=>.ok ((zK kvs k).getD .n)
 |none=>.wall
def Ar(c d:ME):ME:=λb=>(c b).bind λx=>match x with
 |.d a=>(d b).bind (pG a)
 |_=>.wall
def As(N:X.A.units+1<cLine)(E:EM X C S w1 o m1)(I:EM X C S w2 e m2)(m:M1 X o "get" qo e qr):EM X C S false (.Call (.Attribute o "get" qo) [e] [] qr) (Ar m1 m2):=λs=>by
 obtain⟨T,O,A⟩:=E s;obtain⟨U,M,L⟩:=I s;refine⟨_,lS N O M m,λB P H n j R Q q=>A B P H n j R _ (yV q λx v K D F r=>?_)⟩;cases x with
 |d a=>
  obtain⟨p,g,rfl,_,t,rk⟩:=F.weak;refine⟨p,rfl,.inl ⟨g,t⟩,L B P K n j (R.keep D) _ (yV (o:=m2 j) (f:=pG a) r λy u i s2 w b=>?_)⟩;cases h:pk y with
  |none=>
   have e:pG a y=.wall:=by unfold pG;rw[h]
   rw[e]at b;exact b.elim
  |some k=>
   have e:pG a y=.ok ((zK a k).getD .n):=by unfold pG;rw[h]
   rw[e]at b;have G:=YQ w.weak h;subst G;have l:Rd i p (.dK g):=t.elim (λz=>.inl (s2 _ _ z)) λ⟨o,z⟩=>.inr ⟨o,s2 _ _ z⟩;refine⟨J5 g k,.inl ⟨g,k,l,rfl,rfl⟩,?_⟩;cases c:zK a k with
   |none=>rw[c]at b;rw[rk.Bu c];exact b _ i (zA.refl _) (RV.of rfl)
   |some x=>rw[c]at b;obtain⟨v,ev,J⟩:=rk.get c;rw[ev];exact b _ i (zA.refl _) (RV.of (J.same s2))
 |_=>exact r.elim
def cQ(kvs:EA)(y:PV):Out (List PV):=match pk y with
 |some k=>match zK kvs k with
  |some (.d q)=>.ok (q.map λa=>kP a.1)
  |_=>.wall
 |none=>.wall
def qm(i j:Nat):MI:=λb=>match b[i]? with
 |some (some (.d a))=>match b[j]? with
  |some (some y)=>cQ a y
  |_=>.wall
 |_=>.wall
def Uy(h:qm i j ρ≠.wall):∃a y k q,ρ[i]?=some (some (.d a))/\ρ[j]?=some (some y)/\pk y=some k/\zK a k=some (.d q)/\qm i j ρ=.ok (q.map λe=>kP e.1):=by
 unfold qm at h ⊢;split at h
 .rename_i a f;split at h
  .rename_i y d;unfold cQ at h;split at h
   .rename_i k b;split at h
    .rename_i q c;refine⟨a,y,k,q,f,d,b,c,?_⟩;unfold cQ;rw[b];dsimp only;rw[c]
    .exact absurd rfl h
   .exact absurd rfl h
  .exact absurd rfl h
 .exact absurd rfl h
section
variable {X:Cx}{W:RC}{E:XK}{fr:Bool}{S S1 Sb Sc:Eo}{tg a0 b0:Ey}{body:Fd}{mg:MG}{mb:MS}{pos ipos:Pos}{i j:Nat}
def gR(R:Rel W B S P H σ ρ)(x:S[i]?≠some 2)(f:S[j]?≠some 2)(G:ρ[i]?=some (some (.d kvs)))(J:ρ[j]?=some (some y))(h:pk y=some k)(D:zK kvs k=some (.d q)):
  ∃p b a d,σ[i]?=some (some (.ref p))/\σ[j]?=some (some (kV k))/\Rd H p (.dK b)/\J5 b k=some (.ref a)/\NA B S P a/\Rd H a (.dK d)/\d.map (·.1)=q.map (·.1):=by
 obtain⟨v,z,_,F,C⟩:=R.var i _ G;obtain⟨u,o,_,t,I⟩:=R.var j _ J;have A:u=kV k:=by
  by_cases c:S[j]?=some 1
  .exact YQ (t c) h
  .exact YQ (I f c).weak h
 subst A;have g:∃p b,v=.ref p/\Rd H p (.dK b)/\yG W (Mof B S P) H kvs b:=by
  by_cases c:S[i]?=some 1
  .obtain⟨p,b,rfl,n,r,rk⟩:=F c;exact⟨p,b,rfl,r,rk⟩
  .obtain⟨p,b,rfl,m,r,rk⟩:=C x c;exact⟨p,b,rfl,r,rk⟩
 obtain⟨p,b,rfl,r,rk⟩:=g;obtain⟨w,s,rw'⟩:=rk.get D;unfold Rep at rw';obtain⟨a,d,rfl,m,l,e⟩:=rw';exact⟨p,b,a,d,z,o,r,s,Mof.na m,l,(yG.iff.mp e).1⟩
def Xe(hu:∀b,(thr X b).A.units+1<cLine)(hc:X.calm=true)(own:Own X)(hv:∀b,PE (thr X b) a0 (ZN i))(Y:∀b,PE (thr X b) b0 (ZN j))(hg:∀b,GM (thr X b) ⟨W,b,fr⟩ S S1 tg mg)(hb:∀b,SsM (thr X b) ⟨W,b,fr⟩ S1 S S S body mb)(hS:S[i]?≠some 2:=by decide)(hS2:S[j]?≠some 2:=by decide)(Z:wM b0:=by intro _ _;rfl)(hs:∀x,foldedSetIterable (.Subscript a0 b0 ipos) X.env x=pure x:=by intro _;rfl):
  SM (thr X E) ⟨W,E,fr⟩ S S Sb Sc (.For tg (.Subscript a0 b0 ipos) body [] pos) (wR (qm i j) mg mb):=λT=>by
 refine⟨tFz (λb D Q H=>∃g t,PG (thr X b) tg g/\PSs (thr X b) body t/\om (KN (tOp Bv (ZN i) (ZN j))) g t D Q H) E,mH λb O s Q H D I ⟨g,t,N,A,q⟩=>Kn (X:=thr X b) (yi own) hc (vQ (lK (WM (hu b)) (hv b) (Y b) Z)) N A hs O s Q H D I q,λB P H Q ρ R D q=>?_⟩;by_cases hw:qm i j ρ=.wall
 .unfold wR at q;rw[hw]at q;exact q.elim
 obtain⟨kvs,y,k,qs,hx,hy,hk,hd,hm⟩:=Uy hw;obtain⟨p,ep,a,l,M,e,n,h,na,hrd,J⟩:=gR R hS hS2 hx hy hk hd;rcases hrd with u|⟨o,u⟩
 .refine .inl ⟨a,l,u,λo=>?_⟩;obtain⟨g,N,lg⟩:=hg (Ef a l E) T;obtain⟨t,A,U⟩:=hb (Ef a l E) T;have R1:=R.loop;have h0:=WZ R na u;have Rf:=R1.sw (u':=.frz o (.dK l)) h0 (.inl rfl) (.inr ⟨o,rfl⟩);have F:Rd (upd H a (.frz o (.dK l))) p (.dK ep):=by
   by_cases c:p=a
   .subst c;cases cw n (.inl u);exact .inr ⟨o,zd⟩
   .exact n.elim (λz=>.inl (by rw[zh c];exact z)) λ⟨o',z⟩=>.inr ⟨o',by rw[zh c];exact z⟩
  refine⟨g,t,N,A,YU (mi:=qm i j) (C:=⟨W,Ef a l E,fr⟩) (Sb:=Sb) (Sc:=Sc) (λRr K=>?_) lg U Rf _ (gw h0 ?_)⟩
  .rw[hm]at K;exact⟨.ref p,M,kV k,e,p,.ref a,rfl,.inl ⟨ep,k,F,rfl,h.symm⟩,a,o,l,rfl,zd,K _ _ (zA.refl _) (kg zd J)⟩
  .revert q;cases wR (qm i j) mg mb ρ with
   |wall=>exact id
   |exc c fs=>exact λq=>WR (C:=⟨W,E,fr⟩) rfl R q
   |ok f=>
    cases f with
    |nx G=>exact λq L m d w=>q L m d (R.Jo w)
    |bk G=>exact λq L m d w=>q L m d (R.Jo w)
    |ct G=>exact λq L m d w=>q L m d (R.Jo w)
    |rt x=>exact λq v m s r=>q v m ((wU R).trans s) (aR (C:=⟨W,E,fr⟩) rfl R r)
 .obtain⟨g,N,lg⟩:=hg E T;obtain⟨t,A,U⟩:=hb E T;refine .inr ⟨g,t,N,A,YU (mi:=qm i j) (C:=⟨W,E,fr⟩) (Sb:=Sb) (Sc:=Sc) (λRr K=>?_) lg U R D q⟩;rw[hm]at K;exact⟨.ref p,M,kV k,e,p,.ref a,rfl,.inl ⟨ep,k,n,rfl,h.symm⟩,a,o,l,rfl,u,K _ _ (zA.refl _) (kg u J)⟩
end
end L2
namespace L2
open PySem PySem.W PyProof.Rows
end L2
namespace L2
open PySem PySem.Spec PyProof.Rows PySem.W
def Uz(f:Str)(x:HV):List (Str×HV)->List (Str×HV)
 |[]=>[(f,x)]
 |a::r=>if a.1=f then(a.1,x)::r else a::Uz f x r
theorem yJ.J4{R:HV->V->Prop}{f:Str}{x:HV}{v:V}(a:R x v):∀{fs:List (Str×HV)}{d:E_},yJ R fs d->yJ R (Uz f x fs) (J4 f v d)
 |[],_,h=>by cases(show _=_ from h);exact⟨v,[],rfl,a,rfl⟩
 |g::r,_,⟨u,q,e,i,b⟩=>by
  subst e;unfold Uz L2.J4;by_cases c:g.1=f
  .rw[if_pos c,if_pos (by simpa using c)];exact⟨v,q,rfl,a,b⟩
  .rw[if_neg c,if_neg (by simpa using c)];exact⟨u,_,rfl,i,yJ.J4 a b⟩
def Xf(g:Eo)(f:Str)(d e:HME):HMS:=λa G=>(e a G).fw λy h=>(d a h).fw λx b=>match x with
 |.g k=>match b[k]? with
  |some (.o c fs)=>if c∈g/\fs.length<1000 then .nx a (b.set k (.o c (Uz f y fs)))else .wall
  |_=>.wall
 |_=>.wall
def Wi(I:HE X W E o m1)(L:HE X W E e m2)(n:∀c∈cs,Cls X.K (W.cls c)/\j7 X.K (W.cls c) fn)(B:swapsWith e (some (.Attribute o fn pos')) pos.line X.env=pure false:=by rfl):
  HS X W E (.Assign [.Attribute o fn pos'] e pos) (Xf cs fn m1 m2):=λm=>by
 obtain⟨Y,T,S⟩:=I m;obtain⟨te,U,F⟩:=L m;refine⟨_,u6 T U B,λZ f A H h p G R D q=>F Z f A H h p G R _ (HPs.bind q λy M P O N C J u K=>?_)⟩;have l:=R.gro N C;refine S Z f M P h p O l _ (HPs.bind J λx A2 H2 G2 g j a v w=>?_);subst f;split at a
 .rename_i k;obtain⟨t,rfl⟩:=w;split at a
  .rename_i c fs hG;split at a
   .rename_i b;obtain⟨d,s,hp,r⟩:=g.cell k _ hG;have Q:=yJ.len r;have i:=g.frw (o:=.ins (Z.W.cls c) d (J4 fn u s)) t hp id;refine⟨_,_,d,s,rfl,hp,(n c b.1).1,(n c b.1).2,by rw[Q];exact b.2,BC (c:=.o c (Uz fn y fs)) (l.gro g j) t hp id ⟨d,_,zd,?_⟩ a⟩;exact yJ.J4 ((K.gro j).gro i) (r.imp λ_ _ z=>z.gro i)
   .exact a.elim
  .exact a.elim
 .exact a.elim
def BD(c:Nat)(g:List HV->AH->HX HV)(ms:HMA):HME:=λe G=>(ms e G).bind λd b=>match g (.g b.length::d) (b++[.o c []])with
 |.ok (.v .n) a=>.ok (.g b.length) a
 |.exc c fs a=>.exc c fs a
 |_=>.wall
def m7(M:Mk X.K (W.cls c) f)(F:qY X.prog X.w X.K X.mg X.base (CXe X.prog X.w) k f fd ps (hsp W n g))(hr:wI (k+1) X.A)(P:Gl X x)(hm:X.mg x=some (.ref (W.cls c)))(j:Binds X.K fd ps [])(i:Passes (CXe X.prog X.w) X E)(ha:HA X W E (e::es) ms)(hn:∀s G h D,ms s G=.ok h D->h.length+1=n)
  (t:(x==("__debug__":Str))=false:=by decide) (he:starEach (e::es) X.env=(false,eval e X.env)::starEach es X.env:=by rfl) (w:(backTo pos (starEach es X.env)).any (·.1)=false:=by rfl):HE X W E (.Call (.Name x p) (e::es) [] pos) (BD c g ms):=λY=>by
 obtain⟨ta,a1,T⟩:=ha Y;refine⟨_,rH M F hr P hm j .nil i a1 t he w,λZ J A H N s G R Q q=>T Z J A H N s G R _ ?_⟩;subst J;unfold BD at q;revert q;cases hq:ms s G with
 |wall=>exact id
 |exc c fs D=>exact id
 |ok h a=>
  intro q r B U O vs S x u i hd hne;rw[O7];have I:zA B (upd (upd B u (.own x)) x (.ins (Z.W.cls c) u [])):=λb o j=>by rw[zh (yx j i),zh (yx j hd)];exact j
  have h2:=U.alloc (p:=x) (c:=.o c []) I i ⟨u,[],zd,rfl⟩;have C:Gro Z r a.length B (exA r a.length x) (a.length+1) _:=Gro.ext I i;have K:exA r a.length x a.length=x:=by unfold exA;rw[if_pos rfl]
  have d:(a++[Cell.o c []]).length=a.length+1:=by rw[F7];rfl
  refine⟨Z,exA r a.length x,a++[.o c []],.g a.length::h,rfl,hn _ _ _ _ hq,h2,?_,?_⟩
  .rw[d];exact⟨.ref x,vs,rfl,⟨N9 _,by rw[K]⟩,S.gro C⟩
  .have q:HPx Z E A G.length H (KV' Z Q) (match g (.g a.length::h) (a++[.o c []])with
    |.ok (.v .n) l=>.ok (.g a.length) l
    |.exc c fs l=>.exc c fs l
    |_=>.wall):=q
   have L:=O.trans C;revert q;cases g (.g a.length::h) (a++[.o c []])with
   |wall=>exact id
   |exc c fs l=>exact λq=>mS.gro q (by rw[d];exact L)
   |ok y l=>
    intro q;cases y with
    |v z=>
     cases z with
     |n=>intro A2 H2 h3 m v rv;rw[d]at m;refine⟨rv,q A2 H2 h3 (L.trans m) (.ref x) ⟨F5 (N9 _) m.le,?_⟩⟩;rw[m.agr _ (N9 _),K]
     |_=>exact q.elim
    |_=>exact q.elim
end L2
namespace L2
open PySem PySem.Spec PyProof.Rows PySem.W
def gS(f:FC)(h mk i:HME):HMS:=λd G=>(h d G).fw λx j=>(mk d j).fw λz e=>match x,z with
 |.g k,.v z=>match e[k]?,pk z with
  |some (.d c),some q=>match zK c q with
   |some (.v (.i a))=>(i d e).fw λy g=>match y with
    |.v (.i b)=>match g[k]? with
     |some (.d c)=>if c.length<sizeLine then .nx d (g.set k (.d (dput c q (.v (.i (f a b))))))else .wall
     |_=>.wall
    |_=>.wall
   |_=>.wall
  |_,_=>.wall
 |_,_=>.wall
def rII(f:FC):V->V->Hp->VK->Prop:=λx y H Q=>∃i j,x=.int i/\y=.int j/\Q (.int (f i j)) H
def tI:uD X .Add (rII λa b=>a+b):=u7
def tJ:uD X .Sub (rII λa b=>a-b):=u9
def gT(hu:X.A.units+1<cLine)(ho:HE X W E o m)(s:HE X W E a m1)(hv:HE X W E e m2)(F:uD X op (rII f))
  (ha:∀t B new,augStore a t B new=(do holding [new,t,B] (setItem t B new);release [new,t,B] [];pure .next):=by intros;rfl):HS X W E (.AugAssign (.Subscript o a tpos) op e pos) (gS f m m1 m2):=λK=>by
 obtain⟨to,o1,o2⟩:=ho K;obtain⟨ta,a1,a2⟩:=s K;obtain⟨tv,b1,b2⟩:=hv K;refine⟨_,rO hu o1 a1 b1 F ha,λZ N A H S Q G R D q=>o2 Z N A H S Q G R _ (HPs.bind q λx A1 H1 G1 h1 g1 q1 w rx=>?_)⟩;have R1:=R.gro h1 g1;refine a2 Z N A1 H1 S Q G1 R1 _ (HPs.bind q1 λz A2 P U T C d u rz=>?_);have R2:=R1.gro T C;split at d
 .rename_i k z;obtain⟨s,rfl⟩:=rx;split at d
  .rename_i kvs q hc hq;split at d
   .rename_i l hg;obtain⟨es,hp,r⟩:=T.cell k _ hc;obtain⟨w0,hw,I⟩:=r.get hg;have j:k<U.length:=F5 s C.le;rw[<- C.agr k s];refine⟨_,w0,rfl,by rw[YQ (yp.iff.mpr (show Rep Z.W _ P z u from rz)) hq,<- hw];exact XM.k hp,b2 Z N A2 P S Q U R2 _ (HPs.bind d λy A3 H3 G3 O L g v ry=>?_)⟩;split at g
    .rename_i b;split at g
     .rename_i p M;split at g
      .rename_i hl;obtain⟨J,i,Y⟩:=O.cell k _ M;have n:k<G3.length:=F5 j L.le;have g4:=O.frw (o:=.dK (putK J q (.int (f l b)))) n i id;refine⟨l,b,I,ry,?_⟩;rw[<- L.agr k j];refine⟨_,by rw[YQ (yp.iff.mpr (show Rep Z.W _ P z u from rz)) hq];exact oF.k i (by rw[Y.len];exact hl),BC (c:=.d (dput p q (.v (.i (f l b))))) (R2.gro O L) n i id ⟨_,zd,?_⟩ g⟩;exact(Y.put (show qR Z.W _ A3 _ H3 (.v (.i (f l b))) (.int (f l b))from rfl)).imp λ_ _ h=>h.gro g4
      .exact g.elim
     .exact g.elim
    .exact g.elim
   .exact d.elim
  .exact d.elim
 .exact d.elim
def thw(k:Nat):HFw->HFw
 |.nx b G=>match G[k]? with|some (.z a)=>.nx b (G.set k (.d a))|_=>.wall
 |.bk b G=>match G[k]? with|some (.z a)=>.bk b (G.set k (.d a))|_=>.wall
 |.ct b G=>match G[k]? with|some (.z a)=>.ct b (G.set k (.d a))|_=>.wall
 |.rt x G=>match G[k]? with|some (.z a)=>.rt x (G.set k (.d a))|_=>.wall
 |.exc c fs G=>match G[k]? with|some (.z a)=>.exc c fs (G.set k (.d a))|_=>.wall
 |.wall=>.wall
def m8(i:Nat)(g:HMG)(b:HMS):HMS:=λc G=>match c[i]? with
 |some (some (.g k))=>match G[k]? with
  |some (.d a)=>thw k (Wg g b ((a.map λd=>kP d.1).map .v) c (G.set k (.z a)))
  |_=>.wall
 |_=>.wall
section
variable {Z:HC}{E:XK}{A A':ED}{H H':Hp}{G G':AH}{σ':St}{ρ':kJ}{es:Et}{k n:Nat}{D:Ends}{kvs:List (Key×HV)}{o:Obj}
def HH.mF(h:HH Z A H G)(l:k<G.length)(v:G[k]?=some (.z kvs))(t:H (A k)=some (.frz o (.dK es))):HH Z A (upd H (A k) (.dK es)) (G.set k (.d kvs)):=by
 have p:Rd H (A k) (.dK es):=.inr ⟨o,t⟩;have s:Rd (upd H (A k) (.dK es)) (A k) (.dK es):=.inl zd;have f:∀b,b≠A k->upd H (A k) (.dK es) b=H b:=λb z=>zh z;have g:(G.set k (.d kvs)).length=G.length:=M5 ..;refine⟨λa q e=>?_,λj d e=>?_,λi j w c=>h.inj i j (g▸w) (g▸c),λj c=>h.own j (g▸c)⟩
 .have:a≠A k:=λz=>by rw[z,h.own k l]at e;cases e
  rw[zh this];exact h.same a q e
 .rw[g];by_cases c:k=j
  .subst c;rw[M7 l]at e;cases e;obtain⟨x,u,m,r⟩:=h.cell k _ v;rw[t]at m;cases m;exact⟨es,zd,r.imp λ_ _=>qR.sw p s f⟩
  .rw[M3 c]at e;exact(h.cell j d e).sw (λz=>c (h.inj j k (E7.mp e).1 l z).symm) p s f
def m9(h:k<n)(c:H (A k)=some (.dK es))(g:Gro Z A n (upd H (A k) (.frz o (.dK es))) A' n' H'):Gro Z A n H A' n' (upd H' (A k) (.dK es)):=by
 refine⟨g.le,g.agr,λj d a=>?_,λb q e m=>?_,λb e=>?_⟩
 .have:=g.fresh j d a;have f:A' j≠A k:=λz=>by rw[z,zd]at this;cases this
  rwa [zh f]at this
 .by_cases z:b=A k
  .subst z;rw[c]at e;rw[zd];exact e
  .rw[zh z];exact g.fr b q (by rw[zh z];exact e) m
 .have z:b≠A k:=λz=>by rw[z,zd]at e;cases e
  rw[zh z]at e;have:=g.dom b e
  rwa [zh z]at this
def m_(B:k<G.length)(M:H (A k)=some (.dK es))(q:HPs Z E A G.length H D (thw k out)):HPs Z (Ef (A k) es E) A G.length (upd H (A k) (.frz o (.dK es))) (Df (A k) es D) out:=by
 have fz:∀{A' t H'},Gro Z A G.length (upd H (A k) (.frz o (.dK es))) A' t H'->H' (A k)=some (.frz o (.dK es)):=λg=>g.fr (A k) _ zd (.inr trivial);have u:∀{A' H' G' kvs},G'[k]?=some (.z kvs)->HH Z A' H' G'->Gro Z A G.length (upd H (A k) (.frz o (.dK es))) A' G'.length H'->HH Z A' (upd H' (A k) (.dK es)) (G'.set k (.d kvs))/\Gro Z A G.length H A' (G'.set k (.d kvs)).length (upd H' (A k) (.dK es)):=λ{A' H' G' kvs} j h g=>by have J:=g.agr k B;have f:=fz g;rw[<- J]at f ⊢;refine⟨h.mF (F5 B g.le) j f,?_⟩;rw[M5,J];exact m9 B M g
 have sw:∀{A' H' t x v},Gro Z A G.length (upd H (A k) (.frz o (.dK es))) A' t H'->qR Z.W (HM Z A' t) A' t H' x v->qR Z.W (HM Z A' t) A' t (upd H' (A k) (.dK es)) x v:=λg r=>r.sw (.inr ⟨o,fz g⟩) (.inl zd) λb z=>zh z;cases out with
 |wall=>exact q
 |nx ρ' G'=>
  have q:HPs Z E A G.length H D (match G'[k]? with|some (.z kvs)=>.nx ρ' (G'.set k (.d kvs))|_=>.wall):=q;split at q
  .rename_i kvs j;intro A' H' σ' d a;obtain⟨m,l⟩:=u j d.toHH a;exact⟨⟨o,fz a⟩,q A' _ σ' ⟨m,d.len,λi x e=>by
    obtain⟨v,s,p⟩:=d.var i x e;rw[M5];exact⟨v,s,sw a p⟩⟩ l⟩
  .exact q.elim
 |bk ρ' G'=>
  have q:HPs Z E A G.length H D (match G'[k]? with|some (.z kvs)=>.bk ρ' (G'.set k (.d kvs))|_=>.wall):=q;split at q
  .rename_i kvs j;intro A' H' σ' d a;obtain⟨m,l⟩:=u j d.toHH a;exact⟨⟨o,fz a⟩,q A' _ σ' ⟨m,d.len,λi x e=>by
    obtain⟨v,s,p⟩:=d.var i x e;rw[M5];exact⟨v,s,sw a p⟩⟩ l⟩
  .exact q.elim
 |ct ρ' G'=>
  have q:HPs Z E A G.length H D (match G'[k]? with|some (.z kvs)=>.ct ρ' (G'.set k (.d kvs))|_=>.wall):=q;split at q
  .rename_i kvs j;intro A' H' σ' d a;obtain⟨m,l⟩:=u j d.toHH a;exact⟨⟨o,fz a⟩,q A' _ σ' ⟨m,d.len,λi x e=>by
    obtain⟨v,s,p⟩:=d.var i x e;rw[M5];exact⟨v,s,sw a p⟩⟩ l⟩
  .exact q.elim
 |rt x G'=>
  have q:HPs Z E A G.length H D (match G'[k]? with|some (.z kvs)=>.rt x (G'.set k (.d kvs))|_=>.wall):=q;split at q
  .rename_i kvs j;intro A' H' v w a L;obtain⟨m,l⟩:=u j w a;refine⟨⟨o,fz a⟩,q A' _ v m l ?_⟩;rw[M5];exact sw a L
  .exact q.elim
 |exc c fs G'=>
  have q:HPs Z E A G.length H D (match G'[k]? with|some (.z kvs)=>.exc c fs (G'.set k (.d kvs))|_=>.wall):=q;split at q
  .rename_i kvs j;intro A' H' e I N w a s p K;obtain⟨m,l⟩:=u j w a;have C:Rd H' (A k) (.dK es):=.inr ⟨o,fz a⟩;have y:e≠A k:=YV C s (λ_=>by nofun) λ_ _=>by nofun
   have F:I≠A k:=YV C p (λ_=>by nofun) λ_ _=>by nofun
   refine⟨⟨o,fz a⟩,q A' _ e I N m l ((zh y).trans s) ((zh F).trans p) ?_⟩;rw[M5];exact K.sw C (.inl zd) λb z=>zh z
  .exact q.elim
end
def tK(U:X.calm=true)(y:Own X)(P:∀d,PE (thr X d) iter (ZN i))(K:∀d,HG (thr X d) W tg mg)(hb:∀d,HSs (thr X d) W d body mb)(F:∀x,foldedSetIterable iter X.env x=pure x:=by intro _;rfl):
  HS (thr X E) W E (.For tg iter body [] pos) (m8 i mg mb):=λB=>by
 refine⟨tFz (λd D j H=>∃g l,PG (thr X d) tg g/\PSs (thr X d) body l/\om (KN (ZN i)) g l D j H) E,mH λd m s j H D I ⟨g,l,w,r,q⟩=>Kn (X:=thr X d) (yi y) U (vQ (P d)) w r F m s j H D I q,λZ T A H j Y G R D q=>?_⟩;unfold m8 at q;split at q
 .rename_i k hx;split at q
  .rename_i b f;obtain⟨v,t,u,rfl⟩:=R.var i _ hx;obtain⟨e,n,rk⟩:=R.toHH.cell k _ f;subst T;refine .inl ⟨A k,e,n,λo=>?_⟩;obtain⟨g,w,S⟩:=K (Ef (A k) e E) B;obtain⟨l,r,L⟩:=hb (Ef (A k) e E) B;have z:=R.toHH.frw (o:=.frz o (.dK e)) u n id;have Q:=R.toHH.write (c:=.z b) (o:=.frz o (.dK e)) u n id ⟨o,e,zd,rk.imp λ_ _ h=>h.gro z⟩;have Rf:HR Z A (upd H (A k) (.frz o (.dK e))) j Y (G.set k (.z b)):=R.gro Q (by rw[M5];exact z);have J:=m_ (o:=o) u n q;refine⟨g,l,w,r,Kc (W:=Z.W) (Z:=Z) (xs:=b.map λp=>kP p.1) rfl (λRr O=>?_) S L Rf (by rw[M5];exact J)⟩;have C:=kg (W:=Z.W) (M:=HM Z A (G.set k (.z b)).length) (N:=λa=>¬gL A (G.set k (.z b)) a) (H2:=upd H (A k) (.frz o (.dK e))) (kvs:=b.map λp=>(p.1,PV.n)) zd (by rw[F4];exact rk.keys);rw[F4]at C;exact⟨.ref (A k),t,A k,o,e,rfl,zd,O _ _ (zA.refl _) C⟩
  .exact q.elim
 .exact q.elim
def tL(kvs more:Et):List (Key×V):=more.foldl (λa b=>putK a b.1 b.2) kvs
theorem cR:∀(more a:Et),(tL a more).length<=a.length+more.length
 |[],a=>E5 _
 |b::more,a=>by have:=cR more (putK a b.1 b.2);have:=vP a b.1 b.2;show(tL (putK a b.1 b.2) more).length<=a.length+(more.length+1);omega
theorem gU:∀{more a:Et}{c b:EZ},KV a c->KV more b->KV (tL a more) (merged c b)
 |[],a,c,b,h,e=>by cases e;exact h
 |d::more,a,c,b,h,e=>by
  cases e with
  |cons f g=>rename_i u b;have:=gU (h.put d.1 f.2) g;show KV (tL (putK a d.1 d.2) more) _;unfold merged;rw[R7];rw[<- f.1];exact this
def ng(I:Inv X pins σ H s)(e:H a=some (.dK kvs))(r:Rd H b (.dK more))(g:a≠b)(hz:kvs.length+more.length<=sizeLine)(h:∀m,Inv X pins σ (upd H a (.dK (tL kvs more))) m->Q .none m):wpAny (FK X) A (call (.builtin "dict.update") [.ref a,.ref b]) Q E s:=by
 obtain⟨z,u,v,f,l⟩:=lO I.hok e;obtain⟨w,j,p,c,i⟩:=vf I.hok r;refine a0c a1Y l.typeIs PySem.F.entry_dict_update (PySem.F.args_dict_update_2 _ _) (meets_dict_update (zV X.prog X.w) a b g j) ⟨v,p,l,i,by rw[<- f.length,<- c.length];exact hz,λn d _ o=>h _ ?_⟩;have t:∃q,n.get? a=some q:=let⟨q,_,_,hq,_⟩:=d;⟨q,hq⟩
 exact Kr (t':=s.toks) I (by rw[e];exact True.intro) o t (V_ (F9 (cR more kvs) hz) u (gU f c) d)
def CS:V->List V->Hp->VK->Prop:=λx d H Q=>∃a b c more,x=.ref a/\d=[.ref b]/\H a=some (.dK c)/\Rd H b (.dK more)/\a≠b/\c.length+more.length<=sizeLine/\Q .non (upd H a (.dK (tL c more)))
def d9:MtM X "dict.update" CS:=by intro d s n H x r v o Q I e l h;obtain⟨a,b,m,more,rfl,rfl,j,f,c,hz,q⟩:=h;cases e;obtain⟨u,rfl,g⟩:=vals1 l;cases g;exact ng I j f c hz λp i=>⟨.non,_,i,rfl,q⟩
def BE(i:Nat)(m:ME):MS:=λb=>match b[i]? with
 |some (some (.d a))=>(m b).bind λy=>match y with
  |.d more=>if a.length+more.length<=sizeLine then .ok (.nx (b.set i (some (.d (more.foldl (λc d=>dput c d.1 d.2) a)))))else .wall
  |_=>.wall
 |_=>.wall
def gW(M:PE X o (ZN i))(h:EM X C S false e m)(g:S[i]?=some 2:=by rfl)(K:attributeBase o "update" X.env (eval o X.env)=eval o X.env:=by rfl)
  (Q:((backTo p (starEach [e] X.env)).all (λx=>!x.1)&&(backToKw p (keywordEach [] X.env)).all (λx=>x.1.isSome)&&decide ([e].length+([]:List Keyword).length+(if([]:List Keyword).isEmpty then 0 else 1)<30))=true:=by rfl)
  (J:(qo.endLine==p.line)=true:=by rfl) (z:starEach [e] X.env=[(false,eval e X.env)]:=by rfl) (l:swapsWith (.Call (.Attribute o "update" qo) [e] [] p) none pos.line X.env=pure false:=by rfl):
  SM X C S S Sb Sc (.Expr (.Call (.Attribute o "update" qo) [e] [] p) pos) (BE i m):=λN=>by
 obtain⟨Y,W,L⟩:=h N;refine⟨_,QV (rL a0i a1Y PySem.F.type_dict_update d9 M (ve W YL z) K Q J z rfl) l,λB P H w t R D q=>?_⟩;unfold BE at q;split at q
 .rename_i b T;obtain⟨a,⟨G,hp,F⟩,U⟩:=R.at2 g T;refine⟨_,a,.inr (.inr (.inl ⟨rfl,.inl ⟨_,hp⟩⟩)),L B P H w t R _ ?_⟩;revert q;cases m t with
  |exc c fs=>exact id
  |wall=>exact id
  |ok y=>
   intro q v Z s r;cases y with
   |d more=>
    have q:kH C B S Sb Sc D (if b.length+more.length<=sizeLine then .ok (.nx (t.set i (some (.d (more.foldl (λj I=>dput j I.1 I.2) b)))))else .wall):=q;split at q
    .rename_i hz;have R2:=R.keep s;obtain⟨O,E,rfl,n,u,A⟩:=r.rep;have f:=Mof.wr (o:=.dK (tL G E)) R2 g;refine⟨_,O,G,E,rfl,rfl,s _ _ hp,u,?_,by rw[F.len,A.len];exact hz,q P _ w (R2.wr g U a (by exact id) ?_)⟩
     .exact n.2 i g
     .exact⟨_,zd,(Q4 (F.same s) A).gen f λ_ m _=>m⟩
    .exact q.elim
   |_=>exact q.elim
 .exact q.elim
def CT(f:TE):TE:=λe H Q=>f e H λx c=>∃(a:Addr)(b:Et)(d:EW),x=.ref a/\Rd c a (.dK b)/\b.map (·.2)=d.map V.int/\Q (.int d.sum) c
def Au(K:KdlSrc prog w T r d n P OK)(x:A.handled=none)(c:OK s.heap)(val:Nat->Int)(a:∀(i:Nat)(v:Value),P i v->∃t:Tok,v=Value.int (val i) t)
  (h:∀(l:Heap)(q:Nat)(f:Tok),(∀b o,s.heap.get? b=some o->l.get? b=some o)->Q (.int (preSum val n) f) { s with heap:=l,toks:=q }):wpAny (model prog w) A (call (.builtin "sum") [.ref r]) Q E s:=by
 refine call_sum_walkAnyS ?_;obtain⟨y,St,j,W,st⟩:=K.iter A.in1 s x c;refine j _ _ ⟨s.heap.objs.size,_,_,_,n,P,_,val,rfl,W.toS,st,λb g=>?_,a,λm f p=>?_⟩
 .show b<(s.heap.push y).objs.size;rw[size_push'];rcases F0.mp g with e|g
  .rw[e];exact N9 _
  .rw[E8.mp g];exact a0g (K.there _ c).2
 .rw[a2Y p];exact h m.heap m.toks f λb o e=>p.heap b o (λu=>absurd (E6 e) (by rw[E8.mp u];exact S0 _)) (v4 _ e)
theorem KY{ns:EW}:∀j,preSum (λi=>ns.getD i 0) j=(ns.take j).sum
 |0=>rfl
 |j+1=>by
  rw[preSum,KY j,a0x];cases e:ns[j]? with
  |none=>simp[List.getD,e]
  |some x=>simp[List.getD,e,List.sum_append]
theorem gX:∀{a:Et}{d:EZ}{b:EW},KV a d->a.map (·.2)=b.map V.int->∀(i:Nat) k v,d[i]?=some (k,v)->∃t:Tok,v=Value.int (b.getD i 0) t
 |[],d,b,h,e,i,k,v,q=>by cases h;cases q
 |j::a,d,b,h,e,i,k,v,q=>by
  cases h with
  |cons g f=>
   cases b with
   |nil=>cases e
   |cons n b=>
    rw[F3,F3]at e;injection e with e1 e2
    cases i with
    |zero=>cases q;have c:=g.2;rw[e1]at c;obtain⟨t,h⟩:=(show ∃t,v=Value.int n t from c);exact⟨t,h⟩
    |succ i=>exact gX f e2 i k v q
def tM(S:X.calm=true)(L:Gl X "sum")(Z:X.mg "sum"=none)(M:PE X o to)(K:attributeBase o "values" X.env (eval o X.env)=eval o X.env:=by rfl)(F:(qo.endLine==qr.line)=true:=by rfl)
  (t:starEach [.Call (.Attribute o "values" qo) [] [] qr] X.env=[(false,eval (.Call (.Attribute o "values" qo) [] [] qr) X.env)]:=by rfl):PE X (.Call (.Name "sum" p) [.Call (.Attribute o "values" qo) [] [] qr] [] pos) (CT to):=by
 intro j s E H Q I h;refine a0n (V7 I L Z a2I ?_);refine a1n ?_ t rfl;rw[t];show wpAny _ _ (spliced ((false,eval (.Call (.Attribute o "values" qo) [] [] qr) X.env)::backTo pos [])) _ _ s;refine P6 (a17 K F (thn (M j s E H _ I h) λv m ⟨x,T,c,P,a,g,y,W,B,w,q⟩=>?_));subst W;obtain rfl:v=Value.ref a:=P;obtain⟨G,O,_⟩:=bQ c (.inl ⟨g,B⟩);obtain⟨z,R,C,f,l⟩:=vf c.hok B;refine⟨"dict","dict.values",a0i,a0D,a1Z,G,O,T7 rfl (a21 ?_)⟩;refine a0c a0D l.typeIs a1K (a1C _) (meets_dict_values (zV X.prog X.w) a R) ⟨⟨C,l⟩,?_⟩;refine a0f ?_;obtain⟨D,Y⟩:=l.dictAt;have N:∀b u,m.heap.get? b=some u->(m.heap.push { cls:=.type "dict_values",data:=.fields #[.ref a] }).get? b=some u:=λb u e=>v4 _ e;refine O1 (n:=X.m) c.tk<|Au (kdl_values (knd:=zV X.prog X.w) (r:=m.heap.objs.size) (d:=a) (kvs:=C) (ep:=D)) (c.ok.hd S) ⟨⟨_,G5 _ rfl,rfl,rfl⟩,Y.push _⟩ (λi=>y.getD i 0) (λi v ⟨k,e⟩=>gX f w i k v e) λh' J A U hn=>?_
 refine⟨.int y.sum,T,c.kept (t':=J) λb u e=>U b u (N b u e),⟨A,?_⟩,q⟩;rw[KY,O6];rw[<- f.length];have:=G8 List.length w;rw[u8,u8]at this;omega
def gY(m:ME):ME:=λc=>(m c).bind λy=>match y with
 |.d a=>wJ ((mx (a.map (·.2))).map λb=>.i b.sum)
 |_=>.wall
theorem KZ{W:RC}{M:Es}{H:Hp}:∀{a:EA}{b:Et},yG W M H a b->yy W M H (a.map (·.2)) (b.map (·.2))
 |[],_,h=>by cases(show _=_ from h);exact rfl
 |f::r,_,⟨v,q,e,d,c⟩=>by subst e;exact⟨v,_,rfl,d,KZ c⟩
def gZ(u:X.calm=true)(i:Gl X "sum")(F:X.mg "sum"=none)(h:EM X C S w o m)(g:attributeBase o "values" X.env (eval o X.env)=eval o X.env:=by rfl)(c:(qo.endLine==qr.line)=true:=by rfl)
  (f:starEach [.Call (.Attribute o "values" qo) [] [] qr] X.env=[(false,eval (.Call (.Attribute o "values" qo) [] [] qr) X.env)]:=by rfl):EM X C S false (.Call (.Name "sum" p) [.Call (.Attribute o "values" qo) [] [] qr] [] pos) (gY m):=λs=>by
 obtain⟨G,E,j⟩:=h s;refine⟨_,tM u i F E g c f,λB P H b y R Q q=>j B P H b y R _ (yV q λx v A I n a=>?_)⟩;cases x with
 |d D=>obtain⟨p,l,rfl,_,t,rk⟩:=n.weak;obtain⟨z,e,a⟩:=yN a;obtain⟨r,hn,rfl⟩:=v2.mp e;exact⟨p,l,r,rfl,t,aN (KZ rk) hn,a _ A (zA.refl _) (RV.of rfl)⟩
 |_=>exact a.elim
section
variable {prog:Ez}{w:EF}{A:EK}{E:En}{s:Eu}
def Av{K:Type}[DecidableEq K]{knd:KeyKind prog w K}{T:String}{a b:Addr}{c f:List (K×Value)}{Q:FA}(na:(a==sysModules)=false)(R:(b==sysModules)=false)(Y:s.heap.DictOf knd a c)(X:s.heap.DictOf knd b f)(Z:c.length=f.length)
  (g:∀k v,(k,v)∈c->∃y,valueAt f k=some y/\KO prog w A s v y true) (h:Q true s):wpAny (model prog w) A (Builtin.Dict.samePairs T a b) Q E s:=by
 obtain⟨o1,d,p1,o,_,p,W,H,_⟩:=Y;obtain⟨o2,l,p2,n,_,m,L,u,_⟩:=X;have F:d.size=c.length:=by rw[<- H.length,a1s]
 have D:l.size=f.length:=by rw[<- u.length,a1s]
 have O:∀k,findBy knd.is l k=valueAt f k:=λk=>by rw[<- u.find k];clear D u L m n;cases l;simp[findBy]
 unfold Builtin.Dict.samePairs Builtin.Dict.showsAll;rw[na,R];simp only[Bool.false_eq_true,if_false];refine f8 (E2 (f8 (E2 (f8 (a0y o p (f8 (a0y n m ?_)))))));rw[if_neg (by rw[F,D,Z];simp)];refine f8 (a2l o p (f8 ?_));rw[a0X];simp only[Std.Legacy.Range.size,Nat.sub_zero,Nat.add_sub_cancel,Nat.div_one];refine a0E _ (λt q z=>z=s/\q=(none,())/\∃i,i<=d.size/\t=List.range' i (d.size-i)) _ ?_ ?_ _ _ ⟨rfl,rfl,0,P4 _,by rw[Nat.sub_zero]⟩
 .rintro x t q z ⟨rfl,rfl,i,hi,r⟩
  have lt:i<d.size:=Nat.lt_of_le_of_ne hi λe=>by rw[e,a0d]at r;cases r
  rw[show d.size-i=d.size-(i+1)+1 by omega,a10]at r;obtain⟨rfl,rfl⟩:=a2Z r;refine f8 (a0y o p ?_);rw[a0B lt];have I:x<c.length:=F▸lt;have B:(c[x].1,c[x].2)∈c:=O4 I;obtain⟨M,S⟩:=H.get? (i:=x) (e:=d[x]) (k:=c[x].1) (v:=c[x].2) (by rw[Array.getElem?_toList,a0B lt]) (E1 I);obtain⟨y,P,G⟩:=g _ _ B;obtain⟨k',U,J⟩:=W d[x] (Array.getElem_mem lt);rw[knd.inj _ _ _ U M]at J;show wpAny _ _ (holding [d[x].key,d[x].val] _ >>= _) _ _ _;rw[J];refine f8 (N8 (f8 (wpAny_dictFind_of M n m L ?_)));cases C:l.findIdx? λe=>knd.is c[x].1 e.key with
  |none=>
   have:valueAt f c[x].1=none:=by rw[<- O,findBy_of_findIdx?,C]
   rw[P]at this;cases this
  |some j=>
   obtain⟨N,_⟩:=Array.findIdx?_eq_some_iff_getElem.mp C;have:valueAt f c[x].1=some l[j].val:=by rw[<- O,findBy_of_findIdx?,C];simp[Array.getElem?_eq_getElem N]
   rw[P]at this;cases this;refine f8 (a0y n m ?_);rw[a0B N];rw[<- S]at G;refine N8 (G _ _ ?_);show wpAny _ _ (if(!true)=true then _ else _) _ _ _;rw[if_neg (by decide)];refine f8 (a2l o p ?_);rw[if_neg (by simp)];exact E2 ⟨rfl,rfl,x+1,lt,rfl⟩
 .rintro q z ⟨rfl,rfl,_⟩
  exact E2 h
def nh{K:Type}[DecidableEq K]{knd:KeyKind prog w K}{a b:Addr}{g f:List (K×Value)}(na:(a==sysModules)=false)(j:(b==sysModules)=false)(c:s.heap.DictOf knd a g)(e:s.heap.DictOf knd b f)(i:g.length=f.length)(l:A.units<cLine)
  (d:∀k v,(k,v)∈g->∃y,valueAt f k=some y/\KO prog w A.in1 s v y true):pq prog w A s (.ref a) (.ref b) true/\sO prog w A s (.ref a) (.ref b) false:=by
 constructor
 .intro E Q h;refine P2 (op:=.Eq) c.typeIs e.typeIs a2W (a11 a2W c.typeIs PySem.F.entry_dict_eq ?_ (PySem.F.args_dict_eq_2 _ _)) l;show wpAny _ A.in1 (Builtin.Dict.dictSlotArgs "__eq__" ⟨[.ref a,.ref b],[]⟩ >>= _) _ E s;unfold Builtin.Dict.dictSlotArgs;refine f8 (f8 (a1k c.typeIs ?_));show wpAny _ A.in1 (pure (Value.ref a,Value.ref b)) _ E s;refine E2 (f8 (T8 (T:="dict") e.typeIs a2J ?_));simp only[Bool.not_true,Bool.false_eq_true,if_false];exact f8 (E2 (f8 (E2 (f8 (Av na j c e i d (E2 ⟨_,rfl,(λx=>nomatch x),h⟩))))))
 .intro E Q h;refine P2 (op:=.NotEq) c.typeIs e.typeIs a2X (a11 a2X c.typeIs PySem.F.entry_dict_ne ?_ (PySem.F.args_dict_ne_2 _ _)) l;show wpAny _ A.in1 (Builtin.Dict.dictSlotArgs "__ne__" ⟨[.ref a,.ref b],[]⟩ >>= _) _ E s;unfold Builtin.Dict.dictSlotArgs;refine f8 (f8 (a1k c.typeIs ?_));show wpAny _ A.in1 (pure (Value.ref a,Value.ref b)) _ E s;refine E2 (f8 (T8 (T:="dict") e.typeIs a2J ?_));simp only[Bool.not_true,Bool.false_eq_true,if_false];exact f8 (E2 (f8 (E2 (f8 (Av na j c e i d (E2 ⟨_,rfl,(λx=>nomatch x),h⟩))))))
def nj(l b:Addr)(xs ys:ET)(n m:Nat)(d1 d2:EY)(z1 z2:ER)(hsz:xs.size=ys.size):
  MeetsIn prog w (Builtin.«tuple.__eq__» ⟨[.ref l,.ref b],[]⟩) (λA R s=>s.heap.get? l=some { cls:=.type "tuple",dict:=d1,data:=.seq xs n,slots:=z1 }/\s.heap.get? b=some { cls:=.type "tuple",dict:=d2,data:=.seq ys m,slots:=z2 }/\
   (∀j (h1:j<xs.size) (h2:j<ys.size),KO prog w A.in1 s xs[j] ys[j] true)/\R (.ok (.ret (.bool true))) s):=.of_wp λA R s h=>by
 obtain⟨hp,g,d,tk,os⟩:=s;obtain⟨h1,h2,he,h⟩:=h;have f2:=a12;have hz:(xs.toList.zip ys.toList).length=xs.size:=by simp[hsz]
 wp_walk using F2 h1,F2 h2,a0E _ (λt q z=>q.1=none/\z=⟨hp,g,d,tk,os⟩/\∃i,t=(xs.toList.zip ys.toList).drop i) _
 case turn=>
  rintro⟨x,y⟩ t q z ⟨hq,rfl,i,ht⟩
  have lt:i<(xs.toList.zip ys.toList).length:=Nat.lt_of_not_le λz=>by rw[a2y z]at ht;cases ht
  rw[W1 lt]at ht;obtain⟨e,rfl⟩:=a2Z ht;have a1:i<xs.size:=hz▸lt;have a2:i<ys.size:=hsz▸a1;have ex:x=xs[i]:=by have:=G8 Prod.fst e;simpa using this
  have ey:y=ys[i]:=by have:=G8 Prod.snd e;simpa using this
  subst ex ey;refine f8 (he i a1 a2 _ _ ?_)
  wp_walk
  exact⟨rfl,rfl,i+1,rfl⟩
 case fin=>
  rintro⟨b1,b2⟩ z ⟨hq,rfl,_⟩
  simp only at hq;subst hq
  wp_walk
  exact⟨_,rfl,by simpa[Builtin.Tuple.tupleCompareSizes,hsz]using h⟩
 case h=>exact⟨rfl,rfl,0,rfl⟩
def nk(l b:Addr)(xs ys:ET)(n m:Nat)(d1 d2:EY)(z1 z2:ER)(hsz:xs.size=ys.size):
  MeetsIn prog w (Builtin.«tuple.__ne__» ⟨[.ref l,.ref b],[]⟩) (λA R s=>s.heap.get? l=some { cls:=.type "tuple",dict:=d1,data:=.seq xs n,slots:=z1 }/\s.heap.get? b=some { cls:=.type "tuple",dict:=d2,data:=.seq ys m,slots:=z2 }/\
   (∀j (h1:j<xs.size) (h2:j<ys.size),KO prog w A.in1 s xs[j] ys[j] true)/\R (.ok (.ret (.bool false))) s):=.of_wp λA R s h=>by
 obtain⟨hp,g,d,tk,os⟩:=s;obtain⟨h1,h2,he,h⟩:=h;have f2:=a12;have hz:(xs.toList.zip ys.toList).length=xs.size:=by simp[hsz]
 wp_walk using F2 h1,F2 h2,a0E _ (λt q z=>q.1=none/\z=⟨hp,g,d,tk,os⟩/\∃i,t=(xs.toList.zip ys.toList).drop i) _
 case turn=>
  rintro⟨x,y⟩ t q z ⟨hq,rfl,i,ht⟩
  have lt:i<(xs.toList.zip ys.toList).length:=Nat.lt_of_not_le λz=>by rw[a2y z]at ht;cases ht
  rw[W1 lt]at ht;obtain⟨e,rfl⟩:=a2Z ht;have a1:i<xs.size:=hz▸lt;have a2:i<ys.size:=hsz▸a1;have ex:x=xs[i]:=by have:=G8 Prod.fst e;simpa using this
  have ey:y=ys[i]:=by have:=G8 Prod.snd e;simpa using this
  subst ex ey;refine f8 (he i a1 a2 _ _ ?_)
  wp_walk
  exact⟨rfl,rfl,i+1,rfl⟩
 case fin=>
  rintro⟨b1,b2⟩ z ⟨hq,rfl,_⟩
  simp only at hq;subst hq
  wp_walk
  exact⟨_,rfl,by simpa[Builtin.Tuple.tupleCompareSizes,hsz]using h⟩
 case h=>exact⟨rfl,rfl,0,rfl⟩
def nq(u:s.heap.IsTuple l xs)(t:s.heap.IsTuple b ys)(hsz:xs.size=ys.size)(q:A.units<cLine)(he:∀j (z:j<xs.size) (B:j<ys.size),KO prog w A.in1 s xs[j] ys[j] true):pq prog w A s (.ref l) (.ref b) true/\sO prog w A s (.ref l) (.ref b) false:=by
 obtain⟨⟨C,i,v,d⟩,a,p,n,o⟩:=id u;obtain⟨⟨D,f,y,c⟩,e,r,m,g⟩:=id t;simp only at p o r g;subst p o r g;exact⟨λE Q h=>P2 (op:=.Eq) ⟨_,a,rfl⟩ ⟨_,e,rfl⟩ a2K (a0c a2K ⟨_,a,rfl⟩ PySem.F.entry_tuple_eq (PySem.F.args_tuple_eq_2 _ _) (nj l b xs ys n m i f d c hsz) ⟨a,e,he,show Value.bool _≠Value.notImplemented/\Q (.bool _) s from⟨(λx=>nomatch x),h⟩⟩) q,
  λE Q h=>P2 (op:=.NotEq) ⟨_,a,rfl⟩ ⟨_,e,rfl⟩ a2L (a0c a2L ⟨_,a,rfl⟩ PySem.F.entry_tuple_ne (PySem.F.args_tuple_ne_2 _ _) (nk l b xs ys n m i f d c hsz) ⟨a,e,he,show Value.bool _≠Value.notImplemented/\Q (.bool _) s from⟨(λx=>nomatch x),h⟩⟩) q⟩
end
def al2(f:Fv):List PV->List PV->Bool
 |[],[]=>true
 |x::b,y::a=>f x y&&al2 f b a
 |_,_=>false
def alD(f:Fv)(b:EA):List (Key×PV)->Bool
 |[]=>true
 |a::r=>(match zK b a.1 with|some y=>f a.2 y|none=>false)&&alD f b r
def K0:Nat->PV->PV->Bool
 |n+1,.l d,.l c=>al2 (K0 n) d c
 |n+1,.t d,.t c=>al2 (K0 n) d c
 |n+1,.d a,.d b=>decide (a.length=b.length)&&alD (K0 n) b a
 |n,x,y=>b7 n x y==some true
theorem pH{f:Fv}:∀{d b:EO},al2 f d b=true->d.length=b.length/\∀(j:Nat) x y,d[j]?=some x->b[j]?=some y->f x y=true
 |[],[],_=>⟨rfl,λj x y h=>by simp at h⟩
 |[],_::_,h=>by cases h
 |_::_,[],h=>by cases h
 |x::d,y::b,h=>by
  have h:(f x y&&al2 f d b)=true:=h;rw[O8]at h;obtain⟨l,i⟩:=pH h.2;refine⟨by rw[E4,E4,l],λj a c g e=>?_⟩;cases j with
  |zero=>rw[a09]at g e;cases g;cases e;exact h.1
  |succ j=>rw[L7]at g e;exact i j a c g e
section
variable {X:Cx}{pins:Ep}{σ:St}{H:Hp}{s:Eu}{W:RC}
theorem cS(I:Inv X pins σ H s){f:Fv}{A:EK}{b:EA}{w:Et}{t:EZ}{M B:Es}(n:yG W B H b w)(o:KV w t)
  (hf:∀x y r g u v,f x y=true->Rep W M H x r->Rep W B H y g->RelV r u->RelV g v->KO X.prog X.w A s u v true):
  ∀{a:EA}{m:Et}{p:EZ},yG W M H a m->KV m p->alD f b a=true->∀k v,(k,v)∈p->∃y,valueAt t k=some y/\KO X.prog X.w A s v y true
 |[],_,_,h,k,e=>by cases(show _=_ from h);cases k;exact λ_ _ z=>by cases z
 |d::a,_,_,h,k,e=>by
  obtain⟨v,q,rfl,J,K⟩:=h;cases k with
  |@cons _ u _ Q G D=>
   obtain⟨R,u⟩:=u;obtain⟨N,C⟩:=G;cases N;have e:((match zK b d.1 with|some y=>f d.2 y|none=>false)&&alD f b a)=true:=e;rw[O8]at e;intro L O P;rcases F0.mp P with z|z
   .cases z;cases l:zK b d.1 with
    |none=>rw[l]at e;cases e.1
    |some y=>rw[l]at e;obtain⟨g,c,F⟩:=n.get l;obtain⟨E,i,j⟩:=oN o c;exact⟨E,i,hf _ _ _ _ _ _ e.1 J F C j⟩
   .exact cS I n o hf K D e.2 L O z
def Aw(I:Inv X pins σ H s)(hK:W.K=X.K):∀(n:Nat){A:EK}{x y:PV}{F D:V}{u v:Value}{N M P C:Es},K0 n x y=true->yp W N M H x F->yp W P C H y D->RelV F u->RelV D v->A.units+n+1<cLine->
  KO X.prog X.w A s u v true/\pq X.prog X.w A s u v true/\sO X.prog X.w A s u v false:=by
 have w:∀(n:Nat){A:EK}{x y:PV}{F D:V}{u v:Value}{N M P C:Es},(b7 n x y==some true)=true->yp W N M H x F->yp W P C H y D->RelV F u->RelV D v->A.units+n+1<cLine->
   KO X.prog X.w A s u v true/\pq X.prog X.w A s u v true/\sO X.prog X.w A s u v false:=λn {A x y F D u v N M P C} h i m f b J=>by
  obtain⟨q1,q2,q3⟩:=mw I hK n (A:=A) (eq_of_beq h) i m f b (by omega);exact⟨λE Q z=>q1 _ _ E Q z,λE Q z=>q2 _ _ E Q z,λE Q z=>q3 _ _ E Q z⟩
 intro n
 induction n with
 |zero=>intro A x y F D u v N M P C h i m f b J;exact w 0 (by cases x<;>cases y<;>exact h) i m f b J
 |succ n ih=>
  intro A x y F D u v N M P C h i m f b J;have top:∀{p q:Addr},u=.ref p->v=.ref q->pq X.prog X.w A s u v true/\sO X.prog X.w A s u v false->KO X.prog X.w A s u v true/\pq X.prog X.w A s u v true/\sO X.prog X.w A s u v false:=λ{p q} e1 e2 hr=>by
   refine⟨?_,hr⟩;by_cases c:p=q
   .subst c;rw[e1,e2];exact KO.same _
   .rw[e1,e2]at hr ⊢;exact KO.of_refs c hr.1
  have T:∀{L S:EO}{R g:EH}{o ws:EE}{M C:Es},al2 (K0 n) L S=true->yy W M H L R->yy W C H S g->Vals R o->Vals g ws->o.toArray.size=ws.toArray.size/\∀j (i:j<o.toArray.size) (m:j<ws.toArray.size),KO X.prog X.w A.in1 s o.toArray[j] ws.toArray[j] true:=λ{L S R g o ws M C} h r O K G=>by
   obtain⟨hl,hf⟩:=pH h;have l1:o.toArray.size=L.length:=by rw[N5,<- K.length,r.len]
   have l2:ws.toArray.size=S.length:=by rw[N5,<- G.length,O.len]
   refine⟨by rw[l1,l2,hl],λj g1 g2=>?_⟩;have t1:o[j]?=some o.toArray[j]:=by simp at g1 ⊢
   have t2:ws[j]?=some ws.toArray[j]:=by simp at g2 ⊢
   have k1:j<R.length:=by rw[K.length];simpa using g1
   have k2:j<g.length:=by rw[G.length];simpa using g2
   obtain⟨u0,w1,f⟩:=K.get (E1 k1);obtain⟨v0,w2,b⟩:=G.get (E1 k2);rw[t1]at w1;cases w1;rw[t2]at w2;cases w2;obtain⟨x',hx',rx'⟩:=r.rY (E1 k1);obtain⟨y',hy',ry'⟩:=O.rY (E1 k2);exact(ih (A:=A.in1) (hf j x' y' hx' hy') (yp.iff.mpr rx') (yp.iff.mpr ry') f b (by show A.units+1+n+1<cLine;omega)).1
  cases x with
  |l L=>
   cases y with
   |l S=>
    obtain⟨p,R,rfl,_,e,r⟩:=i;obtain⟨p',g,rfl,_,U,O⟩:=m;cases f;cases b;obtain⟨o,K,p1,_⟩:=I.list (SqL.of e);obtain⟨ws,G,Y,_⟩:=I.list (SqL.of U);obtain⟨B,Z⟩:=T h r O K G;have a1:=gA (e:=λ_=>true) p1.isList Y.isList B (by omega) Z;have a2:=gB (e:=λ_=>true) p1.isList Y.isList B (by omega) Z;have:((List.range o.toArray.size).all λ_=>true)=true:=by simp
    rw[this]at a1 a2;exact top rfl rfl ⟨a1,a2⟩
   |_=>exact w (n+1) h i m f b J
  |t L=>
   cases y with
   |t S=>obtain⟨p,R,rfl,e,r⟩:=i;obtain⟨p',g,rfl,U,O⟩:=m;cases f;cases b;rw[hK]at e U;obtain⟨o,K,p1,_⟩:=I.tuple e;obtain⟨ws,G,Y,_⟩:=I.tuple U;obtain⟨B,Z⟩:=T h r O K G;exact top rfl rfl (nq p1 Y B (by omega) Z)
   |_=>exact w (n+1) h i m f b J
  |d a=>
   cases y with
   |d c=>
    obtain⟨p,es,rfl,_,ha,ra⟩:=i;obtain⟨p',es',rfl,_,hb,rb⟩:=m;cases f;cases b;have h:(decide (a.length=c.length)&&alD (K0 n) c a)=true:=h;rw[O8,a1y]at h;obtain⟨_,na,va,ka,da⟩:=vf I.hok ha;obtain⟨_,nb,vb,kb,db⟩:=vf I.hok hb;have l1:va.length=a.length:=by rw[<- P9 ka];have:=G8 List.length (yG.iff.mp ra).1;simpa using this
    have l2:vb.length=c.length:=by rw[<- P9 kb];have:=G8 List.length (yG.iff.mp rb).1;simpa using this
    refine top rfl rfl (nh na nb da db (by rw[l1,l2,h.1]) (by omega) (cS I rb kb (λx y F D u v hxy rx ry f b=>(ih (A:=A.in1) hxy (yp.iff.mpr rx) (yp.iff.mpr ry) f b (by show A.units+1+n+1<cLine;omega)).1) ra ka h.2))
   |_=>exact w (n+1) h i m f b J
  |_=>exact w (n+1) (by cases y<;>exact h) i m f b J
end
def uJ(a:Bool)(x y:PV):Out PV:=if K0 8 x y=true then .ok (.b (xor a true))else .wall
def Ax(W:RC)(a:Bool):R2:=λc b H Q=>∃M x y,yp W (λ_=>True) M H x c/\yp W (λ_=>True) M H y b/\K0 8 x y=true/\Q (.bl (xor a true)) H
def tN(d:W.K=X.K)(l:X.A.units+64<cLine):OpR X (compareOp .Eq) (Ax W false):=by intro a s h H j i u v Q I b g ⟨M,x,y,c,f,e,q⟩;exact(Aw I d 8 e c f b g (by omega)).2.1 _ _ ⟨.bl true,H,I,rfl,q⟩
def tO(j:r=Ax C.W neg)(h:LEv C S ta m1)(l:LEv C S tb m2):LE C S false (tOp r ta tb) (mOp (uJ neg) m1 m2):=λB P H b c R Q q=>
 h B P H b c R _ (yV q λx v n g i f=>l B P n b c (R.keep g) _ (yV f λy u m s2 d a=>by
  subst j;unfold uJ at a;split at a
  .rename_i e;exact⟨BA,x,y,yp.iff.mpr (i.same s2),yp.iff.mpr d,e,a _ m (zA.refl _) (RV.of rfl)⟩
  .exact a.elim))
def pJ(g:X.A.units+64<cLine)(h:EVm X C S a m1)(f:EVm X C S b m2):EM X C S false (.Compare a [.Eq] [b] pos) (mOp (uJ false) m1 m2):=λc=>by obtain⟨l,i,d⟩:=h c;obtain⟨m,e,j⟩:=f c;exact⟨_,ai (tN c.symm g) i e (YJ _ (by decide) (by decide)),tO rfl d j⟩
def Ay(e:TE):TE:=λd H Q=>e d H λx c=>∃(a:Addr)(b:Et),x=.ref a/\Rd c a (.dK b)/\∀l,c l=none->Q (.ref l) (upd c l (.lst (b.map (·.2))))
theorem Az:∀{a:Et}{b:EZ},KV a b->∀(i:Nat) x k u,(a.map (·.2))[i]?=some x->b[i]?=some (k,u)->RelV x u
 |[],b,h,i,x,k,u,e,_=>by cases e
 |f::a,b,h,i,x,k,u,e,q=>by
  cases h with
  |cons d c=>
   cases i with
   |zero=>cases q;cases e;exact d.2
   |succ i=>exact Az c i x k u e q
def nu(S:X.calm=true)(m:Gl X "list")(hm:X.mg "list"=none)(L:PE X o to)(K:attributeBase o "values" X.env (eval o X.env)=eval o X.env:=by rfl)(G:(qo.endLine==qr.line)=true:=by rfl)
  (y:starEach [.Call (.Attribute o "values" qo) [] [] qr] X.env=[(false,eval (.Call (.Attribute o "values" qo) [] [] qr) X.env)]:=by rfl):PE X (.Call (.Name "list" p) [.Call (.Attribute o "values" qo) [] [] qr] [] pos) (Ay to):=by
 intro c s w H Q I h;refine Call_ (V7 I m hm a2x (a0S ?_ y rfl));rw[y];show wpAny _ _ (spliced ((false,eval (.Call (.Attribute o "values" qo) [] [] qr) X.env)::backTo pos [])) _ _ s;refine P6 (a17 K G (thn (L c s w H _ I h) λv l ⟨x,U,g,P,a,i,Y,B,q⟩=>?_));subst Y;obtain rfl:v=Value.ref a:=P;obtain⟨J,O,_⟩:=bQ g (.inl ⟨i,B⟩);obtain⟨z,R,C,f,t⟩:=vf g.hok B;refine⟨"dict","dict.values",a0i,a0D,a1Z,J,O,T7 rfl (a21 ?_)⟩;refine a0c a0D t.typeIs a1K (a1C _) (meets_dict_values (zV X.prog X.w) a R) ⟨⟨C,t⟩,?_⟩;refine a0f ?_;obtain⟨D,Z⟩:=t.dictAt;have N:Inv X c w U { l with heap:=l.heap.push { cls:=.type "dict_values",data:=.fields #[.ref a] },toks:=l.toks }:=g.kept λb u e=>v4 _ e;refine O1 (n:=X.m) g.tk<|kdl_call (kdl_values (knd:=zV X.prog X.w) (r:=l.heap.objs.size) (d:=a) (kvs:=C) (ep:=D)) (g.ok.hd S) ⟨⟨_,G5 _ rfl,rfl,rfl⟩,Z.push _⟩ (by rw[<- f.length];exact z) λh' A F c' W m E hn=>?_
 refine cq (tk:=A) N (E5 _) W m ?_ ?_ ?_ q
 .rw[u8];exact z
 .rw[u8,E.1,f.length]
 .intro j x v T f2;obtain⟨k,M⟩:=E.2 j v f2;exact Az f j x k v T M
def g6(m:ME):ME:=λb=>(m b).bind λy=>match y with
 |.d a=>.ok (.l (a.map (·.2)))
 |_=>.wall
def cT(u:X.calm=true)(i:Gl X "list")(D:X.mg "list"=none)(h:EM X C S w o m)(g:attributeBase o "values" X.env (eval o X.env)=eval o X.env:=by rfl)(e:(qo.endLine==qr.line)=true:=by rfl)
  (f:starEach [.Call (.Attribute o "values" qo) [] [] qr] X.env=[(false,eval (.Call (.Attribute o "values" qo) [] [] qr) X.env)]:=by rfl):FM X C S (.Call (.Name "list" p) [.Call (.Attribute o "values" qo) [] [] qr] [] pos) (g6 m):=λs=>by
 obtain⟨E,A,j⟩:=h s;refine⟨_,nu u i D A g e f,λB P H c y R Q q=>j B P H c y R _ (aM q λx v G F r a=>?_)⟩;cases x with
 |d z=>obtain⟨p,n,rfl,_,t,rk⟩:=r.weak;exact⟨p,n,rfl,t,λl b=>a _ _ (zA.upd b) (Uj (KZ rk) b)⟩
 |_=>exact a.elim
def K1:bootBuiltins "set"=some (.type "set"):=by rfl
def vok:List Bool->kJ->Bool
 |true::ks,some (.v _)::a=>vok ks a
 |false::ks,_::a=>vok ks a
 |[],_=>true
 |_,[]=>true
 |true::_,_::_=>false
def hWm(ks bs:Ew)(m:ME):HME:=λa G=>if vok ks a=true then hW bs m a G else .wall
theorem g7:∀{ks:Ew}{ρ:kJ}{i:Nat}{y:HV},vok ks ρ=true->ks[i]?=some true->ρ[i]?=some (some y)->∃x,y=.v x
 |true::ks,some (.v x)::ρ,0,y,_,_,h=>by cases h;exact⟨x,rfl⟩
 |true::ks,some (.v x)::ρ,i+1,y,h,hk,hr=>g7 (ks:=ks) (ρ:=ρ) (i:=i) h hk hr
 |false::ks,_::ρ,0,y,_,hk,_=>by cases hk
 |false::ks,_::ρ,i+1,y,h,hk,hr=>g7 (ks:=ks) (ρ:=ρ) (i:=i) h hk hr
 |[],_,i,y,_,hk,_=>by simp at hk
 |_,[],i,y,_,_,hr=>by simp at hr
 |true::_,none::_,i,y,h,_,_=>by cases h
 |true::_,some (.g _)::_,i,y,h,_,_=>by cases h
 |true::_,some (.t _)::_,i,y,h,_,_=>by cases h
abbrev ksS(ks:Ew):List Nat:=ks.map λb=>if b=true then 0 else 1
def AA(R:HR Z A H σ ρ G)(e:XQ G bs ρ=some r)(p:vok ks ρ=true)(g:bs.length<=ks.length):Rel Z.W (gh H (HM Z A G.length)) (ksS ks) (λ_=>0) H σ r:=by
 have d:∀{k:Nat},(ksS ks)[k]?=some 2->False:=λ{k} h=>by rw[G9]at h;obtain⟨b,_,e⟩:=v2.mp h;cases b<;>cases e
 refine⟨zA.refl _,R.len.trans (Y2 e).symm,λi x h=>?_,λi c=>(d c).elim,λi j c=>(d c).elim,λc=>(d c).elim,λa h=>h.elim,λi c=>(d c).elim⟩;obtain⟨c,y,l,f⟩:=vR e h;obtain⟨v,t,o⟩:=R.var i y l;have w:i<ks.length:=F5 c g;refine⟨v,t,λz=>(d z).elim,λ_=>yp.sub (cO R.toHH o f) (λ_ n _=>n) λa m _=>⟨⟨.inl m,id⟩,λi c=>(d c).elim⟩,λ_ z=>?_⟩;have u:ks[i]?=some true:=by
  have q:=E1 w;cases g:ks[i]with
  |true=>rw[q,g]
  |false=>exact absurd (show(ksS ks)[i]?=some 1 by rw[G9,q,g];rfl) z
 obtain⟨s,rfl⟩:=g7 p u l;have f:some s=some x:=f;cases f;exact Rep.sub (show Rep Z.W _ H x v from o) λa m _=>⟨⟨.inl m,id⟩,λi c=>(d c).elim⟩
section
variable {X:Cx}{W:RC}{E:XK}{fr:Bool}{e:Ey}{m:ME}
def tP(ks bs:Ew)(h:EM X ⟨W,E,fr⟩ (ksS ks) false e m)(t:bs.length<=ks.length:=by decide):HE X W E e (hWm ks bs m):=λj=>by
 obtain⟨l,u,g⟩:=h j;refine⟨l,u,λZ o A H d y G R Q q=>?_⟩;subst o;unfold hWm at q;split at q
 .rename_i i;unfold hW at q;split at q
  .rename_i r p;refine g _ _ H d r (AA R p i t) Q ?_;revert q;cases m r with
   |ok x=>exact λq v b s f=>q A b (R.toHH.keep s) (Gro.same s) v (f.rep.sub λa m _=>mT R.toHH a m)
   |exc c fs=>exact λq=>Uu R.toHH q λb w h=>h.sub λa m _=>m.elim id λn=>R.toHH.new a n
   |wall=>exact id
  .exact q.elim
 .exact q.elim
end
section
variable {prog:Ez}{w:EF}{K:Type}[DecidableEq K] {knd:KeyKind prog w K}{A:EK}{E:En}{s:Eu}{a b:Addr}
def d_(c:x.scannable=true)(h:Q true s):wpAny (model prog w) A (Builtin.Frozenset.quietEq x) Q E s:=by unfold Builtin.Frozenset.quietEq;cases x<;>first|exact E2 h|cases c
def Xg
  (n:s.heap.get? a=some o) (m:o.data=.set es ep t) (hf:t.fits es.size=true) (d:s.heap.get? b=some o') (i:o'.data=.set es' ep' t') (j:t'.fits es'.size=true)
  (q:∀e∈es.toList,e.2.scannable=true) (p:∀e∈es'.toList,e.2.scannable=true) (h:Q es.toList s):wpAny (model prog w) A (Builtin.Frozenset.walkUnseen a b) Q E s:=by
 unfold Builtin.Frozenset.walkUnseen;refine f8 (a0j n m hf ?_);refine f8 (a0j d i j ?_);refine f8 ?_;refine a0E _ (λrest b g=>b.1=none/\g=s/\∀e∈rest,e.2.scannable=true) _ ?_ ?_ _ _ ⟨rfl,rfl,λe f=>(N3.mp f).elim (q e) (p e)⟩
 .rintro x rest b g ⟨c,rfl,l⟩
  refine f8 (d_ (l x E9) ?_);simp only[Bool.not_true,Bool.false_eq_true,↓reduceIte];exact E2 ⟨rfl,rfl,λe f=>l e (E3 _ f)⟩
 .rintro ⟨r,u⟩ g ⟨c,rfl,_⟩
  simp only at c;subst c;exact E2 h
def aY{X:String}{S T:K->Bool}{n m:Nat}{Q:FA}(Y:s.heap.SetOf knd a S n)(U:s.heap.SetOf knd b T m)
  (h:∀r:Bool,(r=true↔n<=m/\∀k,S k=true->T k=true)->Q r s):wpAny (model prog w) A (Builtin.Frozenset.subsetOf X a b) Q E s:=by
 obtain⟨o,Z,ep,t,F,hex,G,l,g,hbd,hf,hn⟩:=id Y;obtain⟨o',W,ep',t',u,R,y,p,L,P,B,I⟩:=id U;unfold Builtin.Frozenset.subsetOf Builtin.Frozenset.sizeOf;refine f8 (f8 (a0j F G hf (E2 ?_)));refine f8 (f8 (a0j u y B (E2 ?_)));rw[hn,I];by_cases c:n>m
 .rw[if_pos c];exact E2 (h false ⟨λz=>(by cases z),λz=>absurd z.1 (by omega)⟩)
 rw[if_neg c];refine f8 (wpAny_setEpoch_of F G hf ?_);refine f8 (Xg F G hf u y B (λe d=>(l e d).2) (λe d=>(p e d).2) ?_);refine f8 ?_;refine a0E _ (λrest b J=>b.1=none/\J=s/\(∀e∈rest,e∈Z.toList)/\((∀e∈rest,∀k,knd.is k e.2=true->T k=true)->∀k,S k=true->T k=true)) _ ?_ ?_ _ _ ⟨rfl,rfl,λe d=>d,λz k i=>by
  obtain⟨e,d,q⟩:=(g k).mp i;exact z e d k q⟩
 .rintro ⟨hh,x⟩ rest b J ⟨N,rfl,M,O⟩
  obtain⟨⟨k,i,f⟩,v⟩:=l _ (M _ E9);simp only at i f v ⊢;subst f;refine f8 (N8 (wpAny_setFind_of i v U λr D=>?_));cases H:T k with
  |false=>rw[H]at D;rw[show r=none from Option.not_isSome_iff_eq_none.mp (by rw[D];exact F6)];simp only[Option.isNone_none,↓reduceIte];refine E2 ?_;refine E2 (h false ⟨λz=>(by cases z),λz=>?_⟩);have:=z.2 k ((g k).mpr ⟨_,M _ E9,i⟩);rw[H]at this;cases this
  |true=>
   rw[H]at D;obtain⟨j,rfl⟩:=L4.mp D;simp only[Option.isNone_some,Bool.false_eq_true,↓reduceIte];unfold Builtin.Frozenset.unchanged;refine f8 (f8 (wpAny_setEpoch_of F G hf ?_));simp only[bne_self_eq_false,Bool.false_eq_true,↓reduceIte];refine E2 (E2 ⟨rfl,rfl,λe d=>M e (E3 _ d),λz=>O λe d k' C=>?_⟩);rcases F0.mp d with rfl|d
   .rw[knd.inj _ _ _ C i];exact H
   .exact z e d k' C
 .rintro ⟨b1,b2⟩ J ⟨N,rfl,_,O⟩
  simp only at N;subst N;exact E2 (h true ⟨λ_=>⟨by omega,O λe d=>(by cases d)⟩,λ_=>rfl⟩)
def UA:entryFor table "set.__eq__"=some Builtin.«frozenset.__eq__»:=
 entryFor_alias (id':="frozenset.__eq__") (by kernel_rfl) rfl (by decide +kernel) (by kernel_rfl)
def nv{S T:K->Bool}{n m:Nat}{Q:En}(hS:s.heap.SetOf knd a S n)(hT:s.heap.SetOf knd b T m)
  (h:∀r:Bool,(r=true↔n=m/\∀k,S k=true->T k=true)->Q (.bool r) s):wpAny (model prog w) A (Builtin.«frozenset.__eq__» ⟨[.ref a,.ref b],[]⟩) (λfin s'=>∃v,fin=.done (.ret v)/\Q v s') E s:=by
 obtain⟨o,es,ep,t,ho,hex,hd,hel,hmem,hbd,hf,hn⟩:=id hS;obtain⟨o',es',ep',t',ho',hex',hd',hel',hmem',hbd',hf',hn'⟩:=id hT;show wpAny _ _ (Builtin.Frozenset.slot1 "__eq__" _ >>= _) _ _ _;refine f8 ?_;unfold Builtin.Frozenset.slot1 slotArgs;simp only[List.isEmpty_nil,Bool.not_true,Bool.false_eq_true,↓reduceIte,bind_assoc,List.length_cons,List.length_nil,bne_self_eq_false];refine E2 ?_;dsimp only;unfold Builtin.Frozenset.isAnySet Builtin.Frozenset.addrOf Builtin.Frozenset.sizeOf;have hTa:s.TypeIs (.ref a) "set":=⟨o,ho,hex.1⟩;have hTb:s.TypeIs (.ref b) "set":=⟨o',ho',hex'.1⟩;refine f8 ?_;show wpAny _ _ (isInstance (.ref b) (.type "set") >>= _) _ _ _;refine f8 (T8 hTb PySem.sub_set_self ?_);refine E2 ?_;simp only[Bool.not_true,Bool.false_eq_true,↓reduceIte];refine f8 (E2 ?_);refine f8 (E2 ?_);refine f8 (f8 (a0j ho hd hf (E2 ?_)));refine f8 (f8 (a0j ho' hd' hf' (E2 ?_)));rw[hn,hn'];by_cases c:n=m
 .rw[if_neg (by simp[c])];refine f8 (f8 ?_);show wpAny _ _ (isInstance (.ref a) (.type "frozenset") >>= _) _ _ _;refine f8 (T8 hTa F.sub_set_frozenset ?_);refine E2 ?_;simp only[Bool.false_eq_true,↓reduceIte];refine aY hS hT λr hr=>E2 ⟨_,rfl,h r (hr.trans ⟨λz=>⟨c,z.2⟩,λz=>⟨by omega,z.2⟩⟩)⟩
 .rw[if_pos (by simp[c])];exact f8 (E2 (E2 ⟨_,rfl,h false ⟨λz=>(by cases z),λz=>absurd z.1 c⟩⟩))
def nA{S T:K->Bool}{n m:Nat}{Q:En}(f:s.heap.SetOf knd a S n)(e:s.heap.SetOf knd b T m)(i:A.units<cLine)
  (h:∀r:Bool,(r=true↔n=m/\∀k,S k=true->T k=true)->Q (.bool r) s):wpAny (model prog w) A (compareOp .Eq (.ref a) (.ref b)) Q E s:=by
 have c:s.TypeIs (.ref a) "set":=f.typeIs;have d:s.TypeIs (.ref b) "set":=e.typeIs;show wpAny _ _ (richCompare .Eq (.ref a) (.ref b)) _ _ _;exact P2 c d F.slot_set_eq (a11 F.slot_set_eq c UA (nv f e λr g=>⟨(λx=>nomatch x),h r g⟩) (F.args_set_eq_2 _ _)) i
end
section
variable {K:Type}[DecidableEq K]
def UB(a:List K)(k:K):List K:=if k∈a then a else a++[k]
def fmD(val:Nat->K)(i:Nat):List K:=((List.range i).map val).foldl UB []
def Y4(val:Nat->K)(i:Nat):fmD val (i+1)=UB (fmD val i) (val i):=by unfold fmD;rw[a2m,F8,List.foldl_append];rfl
theorem g8(val:Nat->K):∀i,(fmD val i).length<=i
 |0=>E5 _
 |i+1=>by
  have:=g8 val i;rw[Y4];unfold UB;split
  .omega
  .rw[F7];show _+1<=_;omega
def UC(a:List K)(v k:K):decide (k∈UB a v)=(decide (k∈a)||decide (k=v)):=by
 unfold UB;by_cases h:v∈a
 .rw[if_pos h];by_cases e:k=v
  .subst e;simp[h]
  .simp[e]
 .rw[if_neg h];simp
def UD(a:List K)(v:K):(UB a v).length=if decide (v∈a)=true then a.length else a.length+1:=by unfold UB;by_cases h:v∈a<;>simp[h]
end
section
variable {prog:Ez}{w:EF}{A:EK}{R:Result->Shared->Prop}{I:Addr}{fp wr:Ff}{G:Array GenState->Array GenState->Prop}{n:Nat}{P:Fu}{St:Ft}{K:Type}[DecidableEq K] {knd:PySem.KeyKind prog w K}
def g9(W:WalksS prog w A.in1 I fp wr G n P St)(S:Addr)(m:S∉fp)
  (val:Nat->K) (l:∀i v,P i v->knd.is (val i) v=true/\v.scannable=true) (j:n+1<scanBound):
  ∀(k i:Nat)(s:Eu),n-i=k->i<=n->St i s->
   s.heap.SetOf knd S (λc=>decide (c∈fmD val i)) (fmD val i).length->
   (∀a,Moved (S::wr) G s a->a.heap.SetOf knd S (λc=>decide (c∈fmD val n)) (fmD val n).length->R (.ok (.ret .none)) a)->
   codeAny (model prog w) A (.builtin "set.update.loop" ⟨[.ref S,.ref I],[]⟩) R s:=by
 have y:S∉wr:=λh=>m (W.sub _ h);have d:∀b∈wr,b∈S::wr:=λb j=>E3 _ j;intro k
 induction k with
 |zero=>
  intro i s Y Z g J C;have Q:i=n:=by omega
  subst Q;refine S5 a06 ?_;rw[R9 a0o _];show wpAny _ A.in1 (pyNext (.ref I) >>= _) _ _ s;refine f8 (W.done s _ _ g λa B=>?_);show wpAny _ A.in1 (ret Value.none) _ _ a;exact E2 (C a (B.mono d) (by
   obtain⟨o,H,O,t,F,rest⟩:=J;exact⟨o,H,O,t,B.heap S _ y F,rest⟩))
 |succ k U=>
  intro i s Y Z g J C;have u:i<n:=by omega
  refine S5 a06 ?_;rw[R9 a0o _];show wpAny _ A.in1 (pyNext (.ref I) >>= _) _ _ s;refine f8 (W.item i s _ _ u g λv a hP r B=>?_);obtain⟨x,D⟩:=l i v hP;have E:a.heap.SetOf knd S (λc=>decide (c∈fmD val i)) (fmD val i).length:=by obtain⟨o,H,O,X,F,rest⟩:=J;exact⟨o,H,O,X,B.heap S _ y F,rest⟩
  show wpAny _ A.in1 (holding [v] (setAdd S v) >>= _) _ _ a;refine f8 (N8 ?_);unfold setAdd;refine N8 ?_;refine f8 (knd.pyHash (k:=val i) x ?_);have f:(fmD val i).length+1<scanBound:=by have:=g8 val i;omega
  refine a2M (knd:=knd) (s:={ a with toks:=a.toks+1 }) x D E f λT q L=>?_;have M:T.SetOf knd S (λc=>decide (c∈fmD val (i+1))) (fmD val (i+1)).length:=
   a2z L (λc=>by rw[Y4,UC]) (by rw[Y4,UD])
  refine E2 ⟨a0t a0o _,U (i+1) _ (by omega) u (W.frame _ a _ _ r (G4 _) λb j o e=>?_) M λN p z=>?_⟩
  .rw[q.2 b (λh:b=S=>m (by rw[<- h];exact j))];exact e
  .refine C N (Moved.trans W.gtrans ((B.mono d).then_heap (G4 _) λb o j e=>?_) p) z;rw[q.2 b (λh:b=S=>j (by rw[h];exact E9))];exact e
end
section
variable {prog:Ez}{w:EF}{A:EK}{E:En}{s:Eu}
def Xh{K:Type}[DecidableEq K]{knd:PySem.KeyKind prog w K}{l:Addr}{items:ET}{val:Nat->K}{Q:En}
  (hh:A.handled=none) (hl:s.heap.IsList l items) (hval:∀(i:Nat)(v:Value),items[i]?=some v->knd.is (val i) v=true/\v.scannable=true) (hb:items.size+1<scanBound)
  (h:∀(h':Heap)(tk:Nat),h'.SetOf knd s.heap.objs.size (λk'=>decide (k'∈fmD val items.size)) (fmD val items.size).length->
   (∀b o,b<s.heap.objs.size->s.heap.get? b=some o->h'.get? b=some o)->Q (.ref s.heap.objs.size) { s with heap:=h',toks:=tk }):
  wpAny (model prog w) A (call (.type "set") [.ref l]) Q E s:=by
 obtain⟨c,tl,hmro⟩:=PySem.F.called_set.mro;have hmade:=PySem.F.called_set.made;have hsub:=PySem.F.called_set.sub;refine a0L (a2f ?_);show wpAny _ _ (callAny (.type "set") _) _ _ _;refine E2 ⟨a03 _ (by decide +kernel),S5 a18 ?_⟩;rw[a3b (a2N "set" [.ref l] []) rfl];have h1:=PySem.F.called_set.notType;have h2:=PySem.F.called_set.canCreate;have hct:=a2A (.ref l)
 repeat(any_goals(first|assumption|wp_step))
 refine a0b (code_set_new_1 (.ref l) (E:=E) (Q₁:=λobj s₁=>∃led:Bool,obj=.ref s.heap.objs.size/\s₁={ s with heap:=s.heap.push { cls:=.type "set",dict:=none,data:=.set #[] 0 (.fresh 0 0 led) } }) λled=>⟨led,rfl,rfl⟩) λr s₁ hr=>?_;cases r with
 |error e=>exact hr
 |ok fl=>
  cases fl with
  |ret obj=>
   obtain⟨led,rfl,rfl⟩:=hr;have hS:(s.heap.push { cls:=.type "set",dict:=none,data:=.set #[] 0 (.fresh 0 0 led) }).get? s.heap.objs.size=some { cls:=.type "set",dict:=none,data:=.set #[] 0 (.fresh 0 0 led) }:=G5 _ rfl;have hT:Shared.TypeIs { s with heap:=s.heap.push { cls:=.type "set",dict:=none,data:=.set #[] 0 (.fresh 0 0 led) } } (.ref s.heap.objs.size) "set":=⟨_,hS,rfl⟩;have hli:=PySem.F.called_set.init.lookup;have hbi:=PySem.F.called_set.init.bind (.ref s.heap.objs.size)
   repeat(any_goals(first|assumption|wp_step))
   refine a0b (a0A (R:=wants (λr s₂=>r=.none/\∃h' tk,s₂={ s with heap:=h',toks:=tk }/\
     h'.SetOf knd s.heap.objs.size (λk'=>decide (k'∈fmD val items.size)) (fmD val items.size).length/\
     (∀b o,b<s.heap.objs.size->s.heap.get? b=some o->h'.get? b=some o)) E) PySem.F.called_set.init.plain a2B (check_set_init_1 hT ?_)) λr₂ s₂ hr₂=>?_
   .obtain⟨ol,hol,hcl,nl,hdl⟩:=hl;obtain⟨ocls,odict,odata,oslots⟩:=ol;simp only at hcl hdl;subst hcl;subst hdl;have hol':(s.heap.push { cls:=.type "set",dict:=none,data:=.set #[] 0 (.fresh 0 0 led) }).get? l=some { cls:=.type "list",dict:=odict,data:=.seq items nl,slots:=oslots }:=v4 _ hol;have hsls:=PySem.F.sub_list_set;have hslf:=PySem.F.sub_list_frozenset;have hne:(Value.type "list"==Value.type "dict")=false:=by decide
    have hl1:(s.heap.push { cls:=.type "set",dict:=none,data:=.set #[] 0 (.fresh 0 0 led) }).IsList l items:=⟨_,hol',rfl,nl,rfl⟩;unfold Builtin.«set.__init__» noKeywords Builtin.Frozenset.updateFrom;generalize hPI:pyIter=PI
    wp_walk
    subst hPI;refine a0w hl1 ?_;refine f8 (wpAny_runValue ?_);have hlS:l<s.heap.objs.size:=E6 hol;have hh3:A.in1.in1.in1.handled=none:=by simp[hh]
    have hneI:l≠(s.heap.push { cls:=.type "set",dict:=none,data:=.set #[] 0 (.fresh 0 0 led) }).objs.size:=by rw[T0];exact F1 (a0g hlS)
    have hSf:s.heap.objs.size∉[(s.heap.push { cls:=.type "set",dict:=none,data:=.set #[] 0 (.fresh 0 0 led) }).objs.size,l]:=by rw[T0];simp only[List.mem_cons,List.mem_singleton,List.not_mem_nil,or_false,not_or];exact⟨F1 (N9 _),a0C hlS⟩
    refine g9 ((a2T hh3 _ l hneI items).toS) s.heap.objs.size
     hSf val hval hb (items.size-0) 0 _ (by omega) (P4 _)
     ⟨⟨_,G5 _ rfl,rfl,rfl⟩,(hl1.push _)⟩ ?hS0 ?hR
    case hS0=>
     have hget:((s.heap.push { cls:=.type "set",dict:=none,data:=.set #[] 0 (.fresh 0 0 led) }).push { cls:=.type "list_iterator",data:=.fields #[.ref l,.int 0 0] }).get? s.heap.objs.size
       = some { cls:=.type "set",dict:=none,data:=.set #[] 0 (.fresh 0 0 led) }:=v4 _ hS
     exact a2z ((setObjOf_fresh (knd:=knd) led).setOf hget (by unfold scanBound;omega)) (λ_=>rfl) rfl
    case hR=>
     intro s' hm hS';obtain⟨h',g',d',tk',os'⟩:=s';have eg:g'=s.gens:=hm.gens;have ed:d'=s.drawn:=hm.drawn;have eo:os'=s.os:=hm.os;subst eg;subst ed;subst eo;show wpAny _ _ _ _ _ _;refine E2 ?_;show wpAny _ _ (ret Value.none) _ _ _;refine E2 ⟨rfl,h',tk',rfl,hS',λb o hb e=>?_⟩;have hb1:b≠s.heap.objs.size:=F1 hb;have hb2:b≠(s.heap.push { cls:=.type "set",dict:=none,data:=.set #[] 0 (.fresh 0 0 led) }).objs.size:=by rw[T0];exact F1 (a0g hb)
     exact hm.heap b o (by simp only[List.mem_cons,List.mem_singleton,List.not_mem_nil,or_false,not_or];exact⟨hb1,hb2⟩) (v4 _ (v4 _ e))
   .cases r₂ with
    |error e=>exact hr₂
    |ok fl₂=>
     cases fl₂ with
     |ret r=>
      obtain⟨rfl,h',tk,rfl,hS',hk'⟩:=hr₂
      repeat(any_goals(first|assumption|wp_step))
      exact h _ _ hS' hk'
     |_=>exact hr₂.elim
  |_=>exact hr.elim
end
theorem Jt{w B:Nat}(h:2*w<=B):∀(b a:Nat),a<=B->SetTable.sizeAbove.go w b a<=B
 |0,_,d=>d
 |b+1,a,d=>by
  unfold SetTable.sizeAbove.go;by_cases c:a<=w
  .rw[if_pos c];exact Jt h b _ (by omega)
  .rw[if_neg c];exact d
def g_:(List.range (M+1)).filterMap (λj=>((Array.replicate (M+1) (none:Option Nat)).getD j none).map λx=>(j,x))=[]:=by
 refine List.filterMap_eq_nil_iff.mpr λj _=>?_;have:(Array.replicate (M+1) (none:Option Nat)).getD j none=none:=by
  unfold Array.getD;split
  .simp
  .rfl
 rw[this];rfl
def UE:∃a,SetTable.relaid t #[] wanted=some (a,#[])/\a.fits 0=true:=by
 refine⟨{ mask:=SetTable.sizeAbove wanted-1,place:=#[],dummies:=#[],finger:=t.finger,led:=t.led,moves:=t.movedTo (SetTable.sizeAbove wanted-1),plain:=t.plain },?_,?_⟩
 .unfold SetTable.relaid SetTable.laid SetTable.layClean;have b:∀(f:Option (Array (Option Nat)×Nat)->Int->Option (Array (Option Nat)×Nat)) x,Array.foldl f x #[]=x:=λf x=>by simp
  rw[b];show some _=some _;rw[g_];rfl
 .simp[SetTable.fits,SetTable.fill]
section
variable {prog:Ez}{w:EF}{K:Type}[DecidableEq K] {knd:PySem.KeyKind prog w K}{A:EK}{E:En}{s:Eu}{a:Addr}
def UG{o:Obj}{ep n:Nat}{b:Bool}{Q:Unit->Shared->Prop}(d:s.heap.get? a=some o)(g:o.ExactSet)(c:o.data=.set #[] ep (.fresh 0 0 b))(hn:n+1<scanBound)
  (h:∀l,Heap.SameBut a s.heap l->l.SetOf knd a (λ_=>false) 0->Q () { s with heap:=l }):wpAny (model prog w) A (setRoomFor a n) Q E s:=by
 have hf:(SetTable.fresh 0 0 b).fits (#[]:Array (Int×Value)).size=true:=by rfl
 have nil:∀k,(λ_:K=>false) k=true↔∃e∈(#[]:Array (Int×Value)).toList,knd.is k e.2=true:=λk=>by simp
 unfold setRoomFor;refine f8 (wpAny_setState_of d c hf ?_);dsimp only;have r:SetTable.roomFor (.fresh 0 0 b) n=none\/SetTable.roomFor (.fresh 0 0 b) n=some ((0+n)*2):=by
  unfold SetTable.roomFor;split
  .exact .inr rfl
  .exact .inl rfl
 rcases r with e|e
 .rw[e];exact E2 (h s.heap (a1I _ _) ⟨o,#[],ep,_,d,g,c,λe f=>by simp at f,nil,by decide,hf,rfl⟩)
 .rw[e];dsimp only;unfold setRelay;refine f8 (wpAny_setState_of d c hf ?_);dsimp only;have q:¬SetTable.sizeAbove ((0+n)*2)>sizeLine:=by
   have v:scanBound=4096:=rfl;have:=Jt (w:=(0+n)*2) (B:=16384) (by omega) 64 8 (by decide);have m:(16384:Nat)<=sizeLine:=by decide
   exact Nat.not_lt.mpr (F9 this m)
  rw[if_neg q];obtain⟨j,u,p⟩:=UE (t:=.fresh 0 0 b) (wanted:=(0+n)*2);refine f8 ?_;rw[show(#[]:Array (Int×Value)).map (λx=>x.1) = #[] by simp,u];show wpAny _ _ (if(((#[]:Array Nat).filterMap λi=>(#[]:Array (Int×Value))[i]?).size != (#[]:Array (Int×Value)).size)=true then((unsupported "internal:set-table-lost-an-element":Sem PUnit) >>= λ_=>pure ((#[]:Array Nat).filterMap λi=>(#[]:Array (Int×Value))[i]?,j))else pure ((#[]:Array Nat).filterMap λi=>(#[]:Array (Int×Value))[i]?,j)) _ _ _;rw[if_neg (by simp)];refine E2 ?_;have f:((#[]:Array Nat).filterMap λi=>(#[]:Array (Int×Value))[i]?) = #[]:=by simp
  rw[f];obtain⟨v,m⟩:=SetOf_store (knd:=knd) (S':=λ_=>false) d g c (es':=#[]) (t':=j) (λe f=>by simp at f) nil (by decide) p;exact wpAny_storeSet_of d c (h _ (Heap.SameBut.update _ _ _) m) (P4 _)
end
section
variable {prog:Ez}{w:EF}{A:EK}{E:En}{s:Eu}
def Xi{K:Type}[DecidableEq K]{knd:PySem.KeyKind prog w K}{l:Addr}{kvs:List (K×Value)}{val:Nat->K}{Q:En}
  (hl:s.heap.DictOf knd l kvs) (hsys:(l==sysModules)=false) (hval:∀(i:Nat)(kv:K×Value),kvs[i]?=some kv->val i=kv.1) (hsc:∀k v,knd.is k v=true->v.scannable=true) (hb:kvs.length+1<scanBound)
  (h:∀(h':Heap)(tk:Nat),h'.SetOf knd s.heap.objs.size (λk'=>decide (k'∈fmD val kvs.length)) (fmD val kvs.length).length->
   (∀b o,b<s.heap.objs.size->s.heap.get? b=some o->h'.get? b=some o)->Q (.ref s.heap.objs.size) { s with heap:=h',toks:=tk }):
  wpAny (model prog w) A (call (.type "set") [.ref l]) Q E s:=by
 obtain⟨c,tl,hmro⟩:=PySem.F.called_set.mro;have hmade:=PySem.F.called_set.made;have hsub:=PySem.F.called_set.sub;refine a0L (a2f ?_);show wpAny _ _ (callAny (.type "set") _) _ _ _;refine E2 ⟨a03 _ (by decide +kernel),S5 a18 ?_⟩;rw[a3b (a2N "set" [.ref l] []) rfl];have h1:=PySem.F.called_set.notType;have h2:=PySem.F.called_set.canCreate;have hct:=a2A (.ref l)
 repeat(any_goals(first|assumption|wp_step))
 refine a0b (code_set_new_1 (.ref l) (E:=E) (Q₁:=λobj s₁=>∃led:Bool,obj=.ref s.heap.objs.size/\s₁={ s with heap:=s.heap.push { cls:=.type "set",dict:=none,data:=.set #[] 0 (.fresh 0 0 led) } }) λled=>⟨led,rfl,rfl⟩) λr s₁ hr=>?_;cases r with
 |error e=>exact hr
 |ok fl=>
  cases fl with
  |ret obj=>
   obtain⟨led,rfl,rfl⟩:=hr;have hS:(s.heap.push { cls:=.type "set",dict:=none,data:=.set #[] 0 (.fresh 0 0 led) }).get? s.heap.objs.size=some { cls:=.type "set",dict:=none,data:=.set #[] 0 (.fresh 0 0 led) }:=G5 _ rfl;have hT:Shared.TypeIs { s with heap:=s.heap.push { cls:=.type "set",dict:=none,data:=.set #[] 0 (.fresh 0 0 led) } } (.ref s.heap.objs.size) "set":=⟨_,hS,rfl⟩;have hli:=PySem.F.called_set.init.lookup;have hbi:=PySem.F.called_set.init.bind (.ref s.heap.objs.size)
   repeat(any_goals(first|assumption|wp_step))
   refine a0b (a0A (R:=wants (λr s₂=>r=.none/\∃h' tk,s₂={ s with heap:=h',toks:=tk }/\
     h'.SetOf knd s.heap.objs.size (λk'=>decide (k'∈fmD val kvs.length)) (fmD val kvs.length).length/\
     (∀b o,b<s.heap.objs.size->s.heap.get? b=some o->h'.get? b=some o)) E) PySem.F.called_set.init.plain a2B (check_set_init_1 hT ?_)) λr₂ s₂ hr₂=>?_
   .obtain⟨ol,el,epl,hol,hcl,hdl,hkl,hpl,hnl⟩:=id hl;have hcl0:=hcl;obtain⟨ocls,odict,odata,oslots⟩:=ol;obtain⟨hc1,hc2,hc3⟩:=hcl0;simp only at hc1 hdl;subst hc1;subst hdl;have hol':=v4 { cls:=.type "set",dict:=none,data:=.set #[] 0 (.fresh 0 0 led) } hol;have hsls:=PySem.F.sub_dict_set;have hslf:=PySem.F.sub_dict_frozenset;unfold Builtin.«set.__init__» noKeywords Builtin.Frozenset.updateFrom;generalize hPI:pyIter=PI;generalize hRF:setRoomFor=RF
    wp_walk
    subst hPI hRF;have hlS:l<s.heap.objs.size:=E6 hol;have hlen:kvs.length=el.size:=by rw[<- hpl.length];simp
    refine UG (knd:=knd) hS ⟨rfl,rfl,rfl⟩ rfl (by omega) λh1 hs1 hS1=>?_;have hol1:h1.get? l=some _:=(hs1.2 l (F1 hlS)).trans hol';refine f8 (a0y hol1 rfl ?_);refine f8 ?_;rw[a0X];simp only[Std.Legacy.Range.size,Nat.sub_zero,Nat.add_sub_cancel,Nat.div_one];refine a0E _
     (λrest _ s'=>∃h' i,s'={ s with heap:=h' }/\rest=List.range' i (el.size-i)/\i<=el.size/\h'.SetOf knd s.heap.objs.size (λk'=>decide (k'∈fmD val i)) (fmD val i).length/\Heap.SameBut s.heap.objs.size h1 h')
     _ ?_ ?_ _ _ ⟨h1,0,rfl,by simp,P4 _,a2z hS1 (λ_=>rfl) rfl,a1I _ _⟩
    .rintro x rest b s' ⟨h',i,rfl,hr,hi,hS',hs'⟩
     have hlt:i<el.size:=by
      rcases a3c i el.size with h|h
      .exact h
      .rw[Nat.sub_eq_zero_of_le h]at hr;simp at hr
     obtain⟨rfl,hrest⟩:x=i/\rest=List.range' (i+1) (el.size-(i+1)):=by
      have e:el.size-i=(el.size-(i+1))+1:=by omega
      rw[e,a10]at hr;injection hr with h1 h2
      exact⟨h1,h2⟩
     have hol2:h'.get? l=some _:=(hs'.2 l (F1 hlS)).trans hol1;refine f8 (a0y hol2 rfl ?_);rw[a0B hlt];obtain⟨kv,hkv⟩:∃kv,kvs[x]?=some kv:=⟨kvs[x]'(by rw[hlen];exact hlt),E1 _⟩;obtain⟨k,v⟩:=kv;obtain⟨hkey,_⟩:=hpl.get? (e:=el[x]) (by simp[hlt]) hkv;obtain⟨k',hkey',hhash⟩:=hkl el[x] (Array.getElem_mem hlt);obtain rfl:k'=k:=knd.inj _ _ _ hkey' hkey;have hvk:val x=k':=hval x _ hkv;show wpAny _ _ (holding [el[x].key] (setAddHashed s.heap.objs.size el[x].key el[x].hash) >>= _) _ _ _;rw[hhash];have hroom:(fmD val x).length+1<scanBound:=by have:=g8 val x;omega
     refine f8 (N8 (a2M (knd:=knd) hkey (hsc _ _ hkey) hS' hroom λh'' hsb hS2=>?_));have hol3:h''.get? l=some _:=(hsb.2 l (F1 hlS)).trans hol2;refine f8 (a2l hol3 rfl ?_);rw[if_neg (by simp)];exact E2 ⟨h'',x+1,rfl,hrest,hlt,a2z hS2 (λk''=>by rw[Y4,UC,hvk]) (by rw[Y4,UD,hvk]),hs'.trans hsb⟩
    .rintro b s' ⟨h',i,rfl,hr,hi,hS',hs'⟩
     have hin:i=el.size:=by
      rcases a3c i el.size with h|h
      .have e:el.size-i=(el.size-(i+1))+1:=by omega
       rw[e,a10]at hr;exact nomatch hr
      .exact Nat.le_antisymm hi h
     rw[hin,<- hlen]at hS';refine E2 ?_;show wpAny _ _ (ret Value.none) _ _ _;refine E2 ⟨rfl,h',s.toks,rfl,hS',λb o hb e=>?_⟩;have hb1:b≠s.heap.objs.size:=F1 hb;rw[hs'.2 b hb1,hs1.2 b hb1];exact v4 _ e
   .cases r₂ with
    |error e=>exact hr₂
    |ok fl₂=>
     cases fl₂ with
     |ret r=>
      obtain⟨rfl,h',tk,rfl,hS',hk'⟩:=hr₂
      repeat(any_goals(first|assumption|wp_step))
      exact h _ _ hS' hk'
     |_=>exact hr₂.elim
  |_=>exact hr.elim
end
def memD{κ:Type}[DecidableEq κ](a:List κ)(k:κ):Bool:=decide (k∈a)
def qf{κ:Type}[DecidableEq κ]{a:List κ}{k:κ}:memD a k=true↔k∈a:=a1y
def eqD{κ:Type}[DecidableEq κ](b a:List κ):Bool:=b.length==a.length&&b.all (memD a)
def hU{κ:Type}[DecidableEq κ]{b a:List κ}:eqD b a=true↔b.length=a.length/\∀k∈b,k∈a:=by unfold eqD;rw[O8,N6,O5];exact and_congr_right λ_=>forall_congr' λk=>imp_congr_right λ_=>qf
def nB(P:Ez)(w:EF)(a:Addr)(b:EG):HO:=.ext λh=>h.SetOf (zV P w) a (memD b) b.length
def ddK(ks:EG):List Key:=ks.foldl UB []
def pK(ks:EG):fmD (λi=>ks.getD i (.inl 0)) ks.length=ddK ks:=by unfold fmD ddK;congr 1;refine List.ext_getElem (by simp) λi b a=>?_;simp[a]
def AB(K:Fc)(H:Hp)(p:Addr)(ks:EG):Prop:=SqL K H p (ks.map kV)\/∃a,Rd H p (.dK a)/\a.map (·.1)=ks
def tQ(P:Ez)(w:EF)(K:Fc):List V->Hp->VK->Prop:=λb H Q=>∃p ks,b=[.ref p]/\AB K H p ks/\ks.length+1<4096/\∀a,H a=none->Q (.ref a) (upd H a (nB P w a (ddK ks)))
def AD(P:Ez)(w:EF):List V->Hp->VK->Prop:=λc H Q=>∃a b,c=[.ref a]/\H a=some (nB P w a b)/\Q (.int b.length) H
def AE(P:Ez)(w:EF):R2:=λx y H Q=>∃a b c d,x=.ref a/\y=.ref b/\H a=some (nB P w a c)/\H b=some (nB P w b d)/\Q (.bl (eqD c d)) H
def nC(h:RelV (kV k) v):Wz k v=true/\v.scannable=true:=by
 cases k with
 |inl i=>obtain⟨t,rfl⟩:=h;exact⟨XR i t,rfl⟩
 |inr x=>obtain⟨t,rfl⟩:=h;exact⟨XS x t,rfl⟩
def yO{ks:EG}{its:EE}(r:Vals (ks.map kV) its){i:Nat}{v:Value}(a:its[i]?=some v):Wz (ks.getD i (.inl 0)) v=true/\v.scannable=true:=by
 induction ks generalizing its i with
 |nil=>cases r;simp at a
 |cons k ks b=>
  cases r with
  |cons d c=>
   cases i with
   |zero=>simp at a;subst a;exact nC d
   |succ i=>simpa using b c (by simpa using a)
def K2(Y:X.calm=true):vz X (.type "set") (tQ X.prog X.w X.K):=by
 intro y s K H xs us Q I r h;obtain⟨p,ks,rfl,B,F,q⟩:=h;obtain⟨u,rfl,L⟩:=vals1 r;cases L;have A:∀(d:Heap)(f:Nat),d.SetOf (zV X.prog X.w) s.heap.objs.size (memD (ddK ks)) (ddK ks).length->(∀b o,b<s.heap.objs.size->s.heap.get? b=some o->d.get? b=some o)->X.m<=f->EP X y K Q (.ref s.heap.objs.size) { s with heap:=d,toks:=f }:=λd f a c hn=>by
  have P:∃o,d.get? s.heap.objs.size=some o:=by obtain⟨o,_,_,_,e,_⟩:=a;exact⟨o,e⟩
  refine⟨.ref _,_,I.laid (t':=f) (λb u e=>c b u (E6 e) e) (E5 _) (o:=nB X.prog X.w s.heap.objs.size (ddK ks)) ⟨a,P,?_⟩,rfl,q _ (I.hok.fresh (E5 _))⟩
  rintro h1 h2 ⟨o,m,C,t,O,rest⟩ k
  exact⟨o,m,C,t,k _ O,rest⟩
 rcases B with B|⟨m,S,c⟩
 .obtain⟨w,D,T,hz⟩:=I.list B;have g:w.length=ks.length:=by rw[<- D.length,u8]
  refine O1 (n:=X.m) (by ac_rfl)<|Xh (knd:=zV X.prog X.w) (val:=λi=>ks.getD i (.inl 0)) (I.ok.hd Y) T.isList (λi v l=>?_) (by rw[N5,g];exact F) λd f a c hn=>A d f (by rw[show w.toArray.size=ks.length from g,pK]at a;exact a) c hn
  exact yO D (by rw[List.getElem?_toArray]at l;exact l)
 .obtain⟨z,U,E,j,o,M,C,e1,N,W,e4,Z,R⟩:=vf I.hok S;have G:E.length=ks.length:=by rw[<- c,u8];exact j.length.symm
  refine O1 (n:=X.m) (by ac_rfl)<|Xi (knd:=zV X.prog X.w) (kvs:=E) (val:=λi=>ks.getD i (.inl 0)) ⟨o,M,C,e1,N,W,e4,Z,R⟩ U (λi kv l=>?_) (λk v c=>?_) (by rw[G];exact F) λd f a c hn=>A d f (by rw[G,pK]at a;exact a) c hn
  .have J:i<m.length:=by have:=(E7.mp l).1;rw[j.length];exact this
   obtain⟨w',hw⟩:=gk j (k:=m[i].1) (v:=m[i].2) (E1 J);rw[hw]at l;cases l;subst c;simp[List.getElem?_eq_getElem J]
  .rcases yo c with⟨i,t,_,rfl⟩|⟨x,t,_,rfl⟩<;>rfl
def hV:vz X (.builtin "len") (AD X.prog X.w):=by intro e s p H x v Q I r h;obtain⟨a,i,rfl,m,q⟩:=h;obtain⟨u,rfl,g⟩:=vals1 r;cases g;obtain⟨⟨o,d,w,t,j,b,l,f,c,n,hf,hn⟩,_⟩:=I.hok a _ m;rw[<- hn]at q;exact call_len_set j b l hf (Int.lt_trans (show(d.size:Int)<4096 by exact_mod_cast n) (by decide)) ⟨.int d.size,H,I.tok _,⟨_,rfl⟩,q⟩
def nD(n:X.A.units+64<cLine):OpR X (compareOp .Eq) (AE X.prog X.w):=by
 intro d s m H x y v u Q I e f h;obtain⟨a,b,c,l,rfl,rfl,i,j,q⟩:=h;cases e;cases f;refine nA (I.hok a _ i).1 (I.hok b _ j).1 (by omega) λr g=>⟨.bl r,H,I,rfl,?_⟩;have:r=eqD c l:=by rw[a01,g,hU];simp only[qf]
 rw[this];exact q
def tR:List PV->Option (List Key)
 |[]=>some []
 |.i n::r=>(tR r).map (.inl n::·)
 |.s x::r=>(tR r).map (.inr x::·)
 |_::_=>none
def tS:∀{a:EH}{ks:EG},yy W M H b a->tR b=some ks->a=ks.map kV:=by
 induction b with
 |nil=>intro a ks r h;cases h;unfold yy at r;exact r
 |cons x b f=>
  intro a ks r h;unfold yy at r;obtain⟨v,q,rfl,d,c⟩:=r;cases x with
  |i n=>obtain⟨g,e,rfl⟩:=v2.mp h;rw[f c e];cases(show v=.int n from d);rfl
  |s n=>obtain⟨g,e,rfl⟩:=v2.mp h;rw[f c e];cases(show v=.str n from d);rfl
  |_=>cases h
def kh:List PV->Out (List Key)
 |[.l b]=>match tR b with
  |some ks=>if ks.length+1<4096 then .ok (ddK ks)else .wall
  |none=>.wall
 |[.d a]=>if a.length+1<4096 then .ok (ddK (a.map (·.1)))else .wall
 |_=>.wall
def tT(xs:EO):Out PV:=(kh xs).bind λa=>.ok (.i a.length)
def hX(f g:MA):ME:=λa=>(f a).bind λe=>(kh e).bind λb=>(g a).bind λd=>(kh d).bind λc=>.ok (.b (eqD b c))
def aZ(h:fR W M H xs vs)(q:zX C B H R Q ((kh xs).bind f))(k:∀d a,kh xs=.ok d->H a=none->zX C B H R Q (f d)->Q' (.ref a) (upd H a (nB P w a d))):tQ P w W.K vs H Q':=by
 cases e:kh xs with
 |exc c fs=>
  unfold kh at e;split at e
  .split at e
   .split at e<;>cases e
   .cases e
  .split at e<;>cases e
  .cases e
 |wall=>rw[e]at q;exact q.elim
 |ok d=>
  rw[e]at q;unfold kh at e;split at e
  .split at e
   .rename_i ks m;split at e
    .rename_i b;cases e;obtain⟨v,r,rfl,⟨p,s,rfl,_,g,j⟩,i⟩:=h;cases(show _=_ from i);rw[tS j m]at g;exact⟨p,ks,rfl,.inl (SqL.of g),b,λa l=>k _ a (by unfold kh;simp only[m];rw[if_pos b]) l q⟩
    .cases e
   .cases e
  .split at e
   .rename_i n b;cases e;obtain⟨v,r,rfl,⟨p,o,rfl,_,g,j⟩,i⟩:=h;cases(show _=_ from i);exact⟨p,_,rfl,.inr ⟨o,g,(yG.iff.mp j).1⟩,by rw[u8];exact b,λa l=>k _ a (show(if _ then _ else _:Out (List Key))=_ from if_pos b) l q⟩
   .cases e
  .cases e
def tU:LfC W (λb H Q=>tQ P w W.K b H λv c=>AD P w [v] c Q) tT:=λM C B H g b Q n h q=>
 aZ h q λf a e d q=>⟨a,_,rfl,zd,q _ _ (zA.upd d) rfl⟩
def tV(i:X.calm=true)(g:Gl X "len")(n:X.mg "len"=none)(c:Gl X "set")(b:X.mg "set"=none)(l:AM X C S ws [e] ms)(he:starEach [e] X.env=[(false,eval e X.env)]:=by rfl)
  (a:starEach [.Call (.Name "set" p2) [e] [] pos2] X.env=[(false,eval (.Call (.Name "set" p2) [e] [] pos2) X.env)]:=by rfl):EM X C S false (.Call (.Name "len" p) [.Call (.Name "set" p2) [e] [] pos2] [] pos) (zg tT ms):=λd=>by
 obtain⟨o,m,h⟩:=l d;refine⟨_,WD hV g n PySem.boot_len (ve (wL (K2 i) c b K1 m (by decide) (by decide) he rfl) YL a) (by decide) (by decide) a rfl,?_⟩;rw[d];exact λB P H f j R Q q=>xH (tU (P:=X.prog) (w:=X.w)) h B P H f j R Q q
def nE(L:X.A.units+64<cLine)(n:X.calm=true)(l:Gl X "set")(s:X.mg "set"=none)(f:AM X C S ws [e] ms)(g:AM X C S ws2 [d] ms2)(he:starEach [e] X.env=[(false,eval e X.env)]:=by rfl)(i:starEach [d] X.env=[(false,eval d X.env)]:=by rfl)
  (E:behindInMarks .Eq (.Call (.Name "set" p2) [d] [] pos2)=false:=by rfl):EM X C S false (.Compare (.Call (.Name "set" p) [e] [] pos) [.Eq] [.Call (.Name "set" p2) [d] [] pos2] pos3) (hX ms ms2):=λh=>by
 obtain⟨N,M,x⟩:=f h;obtain⟨W,K,I⟩:=g h;refine⟨_,ai (nD L) (wL (K2 n) l s K1 M (by decide) (by decide) he rfl) (wL (K2 n) l s K1 K (by decide) (by decide) i rfl) E,?_⟩;rw[h];refine λB P H j r R Q q=>x B P H j r R _ (qA q λxs U T D F A=>aZ F.weak A λc a Y f u=>?_);have s2:=D.trans (zA.upd (o:=nB X.prog X.w a c) f);have v:=QW u (zA.upd (o:=nB X.prog X.w a c) f);refine I B P _ j r (R.keep s2) _ (qA v λZ O G w t z=>aZ t.weak z λJ b d g y=>?_);have m:G a=some (nB X.prog X.w a c):=w _ _ zd;exact⟨a,b,c,J,rfl,rfl,by rw[zh (yx m g)];exact m,zd,y _ _ (zA.upd g) (RV.of rfl)⟩
abbrev BF:Obj:={ cls:=.none,data:=.dict #[] }
def AF(a b c:Str)(t:Nat):Obj:={ cls:=.type "list",data:=.seq #[.str a t,.str b (t+1),.str c (t+2)] }
def BG(a b c:Str)(t:Nat):HO:=.frz (AF a b c t) (.lst [.str a,.str b,.str c])
def AG(y a b c:Str)(h g:TE):TE:=λd H Q=>h d H λx f=>∃w,x=.str w/\∀l t,f l=none->g d (upd f l (BG a b c t)) λi e=>∃k z,i=.int k/\e l=some (BG a b c t)/\0<=k/\[a,b,c][k.toNat]?=some z/\w.length+(w.length+1)*z.length<=16777216/\Q (.str (Txt.replace w y z)) e
def cU(w y:Str)(a:EB):PV->Out PV
 |.i k=>if 0<=k then match a[k.toNat]? with
  |some z=>if w.length+(w.length+1)*z.length<=16777216 then .ok (.s (Txt.replace w y z))else .wall
  |none=>.wall
  else .wall
 |_=>.wall
def UH(y:Str)(b:EB)(m mi:ME):ME:=λa=>(m a).bind λx=>match x with
 |.s w=>(mi a).bind (cU w y b)
 |_=>.wall
def h8(F:X.K.lookup cStatics=some BF)(R:PE X o to)(hi:PE X e ti)(A:wM e)
  (O:attributeBase o "replace" X.env (eval o X.env)=eval o X.env)
  (i7:((backTo qr (starEach [.Constant (.str y) jy py,.Subscript (.List [.Constant (.str a) ja pa,.Constant (.str b) jb pb,.Constant (.str c) jc pc] pl) e ps] X.env)).all (λx=>!x.1)&&(backToKw qr (keywordEach [] X.env)).all (λx=>x.1.isSome)
   && decide (([.Constant (.str y) jy py,.Subscript (.List [.Constant (.str a) ja pa,.Constant (.str b) jb pb,.Constant (.str c) jc pc] pl) e ps]:List Expr).length+([]:List Keyword).length+(if([]:List Keyword).isEmpty then 0 else 1)<30))=true)
  (N:(qo.endLine==qr.line)=true):
  PE1 X (.Call (.Attribute o "replace" qo) [.Constant (.str y) jy py,.Subscript (.List [.Constant (.str a) ja pa,.Constant (.str b) jb pb,.Constant (.str c) jc pc] pl) e ps] [] qr) (AG y a b c to ti):=by
 intro f s l H Q hn I h;refine a2q O i7 N rfl (Dq hn (R f s l H _ I h) λv d Z ⟨x,H1,p,K,w,ex,U⟩=>?_);subst ex;obtain⟨Y,h2⟩:=oE (T:="str") p K rfl;refine⟨"str","str.replace",PySem.F.plainAttrs_str,PySem.F.slot_str_replace,PySem.F.type_str_replace,Y,h2,?_⟩;refine T7 rfl (a0U ?_);show wpAny _ _ (spliced ((false,eval (.Constant (.str y) jy py) X.env)::backTo qr (starEach [.Subscript (.List [.Constant (.str a) ja pa,.Constant (.str b) jb pb,.Constant (.str c) jc pc] pl) e ps] X.env))) _ _ d;refine P6 (a0K ?_);show wpAny _ _ (spliced ((false,eval (.Subscript (.List [.Constant (.str a) ja pa,.Constant (.str b) jb pb,.Constant (.str c) jc pc] pl) e ps) X.env)::backTo qr (starEach [] X.env))) _ _ _;refine P6 (Subscript_ (a27 ?_));show wpAny _ _ (spliced ((false,eval (.Constant (.str a) ja pa) X.env)::backTo pl (starEach [.Constant (.str b) jb pb,.Constant (.str c) jc pc] X.env))) _ _ _;refine P6 (a0K ?_);show wpAny _ _ (spliced ((false,eval (.Constant (.str b) jb pb) X.env)::backTo pl (starEach [.Constant (.str c) jc pc] X.env))) _ _ _;refine P6 (a0K ?_);show wpAny _ _ (spliced ((false,eval (.Constant (.str c) jc pc) X.env)::backTo pl (starEach [] X.env))) _ _ _;refine P6 (a0K (a0f ⟨show(3:Nat)<=sizeLine from by decide,?_⟩));have hf:=p.hok.fresh (E5 d.heap.objs.size);have G:(d.heap.push (AF a b c (d.toks+1))).get? d.heap.objs.size=some (AF a b c (d.toks+1)):=G5 _ rfl;have J:Inv X f l (upd H1 d.heap.objs.size (BG a b c (d.toks+1))) { d with heap:=d.heap.push (AF a b c (d.toks+1)),toks:=d.toks+1+1+1+1 }:=
  p.laid (t':=d.toks+1+1+1+1) (λb u e=>v4 _ e) (E5 _) ⟨G,show(3:Nat)<=sizeLine from by decide,[.str a (d.toks+1),.str b (d.toks+1+1),.str c (d.toks+1+2)],0,.cons ⟨_,rfl⟩ (.cons ⟨_,rfl⟩ (.cons ⟨_,rfl⟩ .nil)),G⟩ (F9 p.tk (show d.toks<=d.toks+1+1+1+1 by omega))
 refine thn (hi f _ l _ _ J (U _ (d.toks+1) hf)) λiv m ⟨i,H3,r,r3,k,z,ei,hl,E,hz,hb,q⟩=>?_;subst ei;obtain⟨L,rfl⟩:=r3;have D:m.heap.get? d.heap.objs.size=some (AF a b c (d.toks+1)):=(show _/\_ from r.hok _ _ hl).1;have hk:k.toNat<3:=by have:=(E7.mp hz).1;simpa using this
 have M:NoneBooked m.heap:=⟨λ_=>none,⟨_,_,_,r.kIn _ _ F,rfl,by intro e S;simp at S,λx=>rfl⟩,rfl⟩;have g:∀j:Nat,j≠0->d.toks≠j->wpAny (FK X) X.A (spliced (backTo qr (starEach [] X.env))) (λvs P=>wpAny (FK X) X.A (call (.builtin "str.replace") (v::([.str y d.toks,.str z j]++vs))) (EP X f l Q) X.xe P) X.xe m:=λj W h7=>by obtain⟨t,rfl⟩:=K;refine a0f ?_;exact O1 (n:=X.m) r.tk<|SC.replaceA (show(d.toks:Nat)≠0 by omega) W h7 hb (λL k hn=>⟨.str _,H3,r.tok _ hn,⟨_,rfl⟩,q⟩) M
 have C:m.heap.IsList d.heap.objs.size #[.str a (d.toks+1),.str b (d.toks+1+1),.str c (d.toks+1+2)]:=⟨_,D,rfl,0,rfl⟩;have B:k.toNat=0\/k.toNat=1\/k.toNat=2:=by omega
 rcases B with e|e|e<;>rw[e]at hz<;>cases hz
 .exact a2R C E (by omega) (by rw[e];rfl) (g _ (by omega) (by omega)) (A _ _)
 .exact a2R C E (by omega) (by rw[e];rfl) (g _ (by omega) (by omega)) (A _ _)
 .exact a2R C E (by omega) (by rw[e];rfl) (g _ (by omega) (by omega)) (A _ _)
def ee(hu:X.A.units+64<cLine)(A:X.K.lookup cStatics=some BF)(T:EM X C S w1 p m1)(O:EM X C S w2 o m2)(hi:EM X C S w3 e m3)(hf:C.fr=false:=by rfl)(J:wM e:=by intro _ _;rfl)
  (L:attributeBase o "replace" X.env (eval o X.env)=eval o X.env:=by rfl)
  (W:((backTo qr (starEach [.Constant (.str y) jy py,.Subscript (.List [.Constant (.str a) ja pa,.Constant (.str b) jb pb,.Constant (.str c) jc pc] pl) e ps] X.env)).all (λx=>!x.1)&&(backToKw qr (keywordEach [] X.env)).all (λx=>x.1.isSome)
   && decide (([.Constant (.str y) jy py,.Subscript (.List [.Constant (.str a) ja pa,.Constant (.str b) jb pb,.Constant (.str c) jc pc] pl) e ps]:List Expr).length+([]:List Keyword).length+(if([]:List Keyword).isEmpty then 0 else 1)<30))=true:=by rfl)
  (I:(qo.endLine==qr.line)=true:=by rfl):
  SM X C S S Sb Sc (.If (.Compare p [.Eq] [.Constant (.int n) j kp] cp) [.Return (some (.Call (.Attribute o "replace" qo) [.Constant (.str y) jy py,.Subscript (.List [.Constant (.str a) ja pa,.Constant (.str b) jb pb,.Constant (.str c) jc pc] pl) e ps] [] qr)) rp] [] pos)
   (sIf (zW (mOp (j2 false) m1 (mC (.i n)))) (kc (UH y [a,b,c] m2 m3)) yI):=λg=>by
 obtain⟨ta,a1,N⟩:=T g;obtain⟨to,b1,Z⟩:=O g;obtain⟨ti,Y,c2⟩:=hi g;refine⟨_,tH (fJ g.symm hu) a1 (mq (rX (h8 A b1 Y J L W I))) af,λB P H f d R D q=>?_⟩;have n2:LE C S false (tC (.int n)) (mC (.i n)):=λB P H f d R Q q=>(show zX C B H (RV C B S P false) Q (.ok (.i n))from q) (.int n) H (zA.refl _) (RV.of rfl);refine aC (fE b9 N n2) B P H f d R _ ?_;unfold sIf at q;revert q;cases(zW (mOp (j2 false) m1 (mC (.i n)))) d with
 |exc c fs=>exact id
 |wall=>exact id
 |ok k=>
  intro q G s;cases k with
  |false=>exact lX (show _ from q P G f (R.keep s))
  |true=>
   refine lY ?_;have q:kH C B S Sb Sc D (kc (UH y [a,b,c] m2 m3) d):=q;refine Z B P G f d (R.keep s) _ ?_;unfold kc UH at q;revert q;cases m2 d with
   |exc c fs=>exact id
   |wall=>exact id
   |ok x=>
    intro q v H3 M r;cases x with
    |s w=>
     have ev:v=V.str w:=r.weak;refine⟨w,ev,λl t hl=>?_⟩;have F:=M.trans (zA.upd (o:=BG a b c t) hl);refine c2 B P _ f d ((R.keep s).keep F) _ ?_;revert q;show kH C B S Sb Sc D (((m3 d).bind (cU w y [a,b,c])).bind λx=>.ok (.rt x))->_;cases m3 d with
     |exc c fs=>exact id
     |wall=>exact id
     |ok i=>
      intro q u U E K;cases i with
      |i k=>
       have q:kH C B S Sb Sc D ((if 0<=k then match[a,b,c][k.toNat]? with
        |some z=>if w.length+(w.length+1)*z.length<=16777216 then Out.ok (PV.s (Txt.replace w y z))else .wall
        |none=>.wall
        else .wall).bind λx=>.ok (.rt x)):=q
       by_cases h:0<=k
       .rw[if_pos h]at q;cases hz:[a,b,c][k.toNat]? with
        |none=>rw[hz]at q;exact q.elim
        |some z=>
         rw[hz]at q;have q:kH C B S Sb Sc D ((if w.length+(w.length+1)*z.length<=16777216 then Out.ok (PV.s (Txt.replace w y z))else .wall).bind λx=>.ok (.rt x)):=q;by_cases m:w.length+(w.length+1)*z.length<=16777216
         .rw[if_pos m]at q;refine⟨k,z,K.weak,E _ _ zd,h,hz,m,q (.str _) U (R.same.trans (s.trans (F.trans E))) (by unfold mz;rw[hf,if_neg F6];rfl)⟩
         .rw[if_neg m]at q;exact q.elim
       .rw[if_neg h]at q;exact q.elim
      |_=>exact(show False from q).elim
    |_=>exact(show False from q).elim
section
variable {prog:Ez}{w:EF}{A:EK}{E:En}{s:Eu}
theorem UI{f t:Addr}{items:ET}(h:t≠f):∀(n i:Nat)(s:Eu)(Q:List Value->Shared->Prop),s.heap.IsListIter f t i->s.heap.IsList t items->i+n<=items.size->
  (∀l,l.IsListIter f t (i+n)->Heap.SameBut f s.heap l->Q ((items.toList.drop i).take n) { s with heap:=l })->wpAny (model prog w) A (draw (.ref f) n) Q E s
 |0,i,s,Q,d,_,_,m=>by show wpAny _ _ (pure []) Q E s;exact E2 (by simpa using m s.heap d (a1I ..))
 |n+1,i,s,Q,d,p,r,m=>by
  have j:i<items.size:=by omega
  show wpAny _ _ (pyNext (.ref f) >>= _) Q E s;refine f8 (a2n d p (x:=items[i]) (by simp[j]) λo b a=>?_);refine f8 (N8 (UI h n (i+1) _ _ b (p.extBut a.extBut h) (by omega) λg c e=>E2 ?_));have q:items.toList.drop i=items[i]::items.toList.drop (i+1):=by simp[List.drop_eq_getElem_cons,j]
  have:=m g (by rw[show i+(n+1)=i+1+n by omega];exact c) (a.trans e);rw[q,List.take_succ_cons]at this;exact this
def a6{env:Env}{a:Ex}{x1}{q:Pos}{t:Addr}{items:ET}{Q:Unit->Shared->Prop}(x:A.handled=none)(p:s.heap.IsList t items)
  (hn:(assignEach a env).length=items.size) (g:(assignEach a env).findIdx? (·.1)=none)
  (h:∀r,Heap.ExtBut s.heap.objs.size s.heap r->wpAny (model prog w) A (assignInOrder ((assignEach a env).map (·.2)) items.toList) Q E { s with heap:=r }):
  wpAny (model prog w) A (assign (.Tuple a x1 q) env (.ref t)) Q E s:=by
 rw[assign_Tuple];refine f8 (a1c ?_);unfold unpack;rw[hn,g];refine f8 (N8 ?_);have n:t≠s.heap.objs.size:=by obtain⟨o,v,_⟩:=p;exact F1 (E6 v)
 unfold unpackItems;refine f8 ?_
 .unfold notIterableAtAll;refine f8 (a2h p.typeIs PySem.F.slot_list_iter.lookup ?_);refine E2 ?_;simp only[Bool.false_eq_true,if_false];refine f8 (N8 (a0w p ?_));refine f8 (N8 (UI n items.size 0 _ _ ⟨_,G5 _ rfl,rfl,rfl⟩ (p.push _) (by omega) λj d c=>?_));have l:List.take items.size (List.drop 0 items.toList)=items.toList:=by rw[List.drop_zero];exact O6 (by simp)
  rw[l];rw[if_neg (by simp)];have f:j.IsList t items:=(p.push _).extBut c.extBut n;refine f8 (N8 (a2D x d f (by simp) λm i=>?_));simp only[Option.isSome_none,Bool.false_eq_true,if_false];exact E2 (h m λb o u e=>i b o u (c.extBut b o u (v4 _ e)))
end
def CU(K:Fc)(n:Nat)(t:TGs):TG:=λv c H Q=>∃a b,v=.ref a/\SqL K H a b/\b.length=n/\t b c H Q
def tW(m:X.calm=true)(h:PGs X es t)
  (hn:(assignEach es X.env).length=n:=by rfl) (d:(assignEach es X.env).findIdx? (·.1)=none:=by rfl):PG X (.Tuple es k pos) (CU X.K n t):=by
 intro c s g H v u Q I r f;obtain⟨a,A,z,q,x,f⟩:=f;subst z;cases r;obtain⟨y,i,p,hz⟩:=I.list q;refine a6 (I.ok.hd m) p.isList (by simp[hn,<- x,i.length]) d λj w=>?_;have l:Inv X c g H { s with heap:=j }:=I.kept (t':=s.toks) λb o e=>w b o (F1 (E6 e)) e;exact h c _ g H A _ Q l (by simpa using i) f
def Ed:PV->Bool
 |.d _=>true
 |_=>false
def Dy(i:Nat):kJ->AH->Option (List HV×AH):=λb G=>match b[i]? with
 |some (some (.v (.t a)))=>if a.all Ed=true/\a.length<=1000 then some (((List.range a.length).map λj=>G.length+j).map .g,G++a.map VU)else none
 |_=>none
def tY(n:Nat)(d:tw)(i:Nat):HMS:=λc G=>match Dy i c G with
 |some (b,e)=>if b.length=n then match d b c with
  |some a=>.nx a e
  |none=>.wall
  else .wall
 |none=>.wall
def DvR(W:RC)(M:Es)(d H:Hp)(xs:EO)(c:Ff):Prop:=∀(j:Nat)(q:Addr),c[j]?=some q->∃(a:EA)(b:Et),xs[j]?=some (PV.d a)/\H q=some (.dK b)/\yG W M d a b
def nF:∀{c:Ff}{A:ED}{G:AH},DvR Z.W (HM Z A0 n0) H0 H' i c->i.length=c.length->c.Nodup->HH Z A (hide H' c) G->Gro Z A0 n0 H0 A G.length (hide H' c)->
  ∃l,HH Z l H' (G++i.map VU)/\Gro Z A0 n0 H0 l (G++i.map VU).length H'/\(∀k,k<G.length->l k=A k)/\∀j q,c[j]?=some q->l (G.length+j)=q:=by
 induction i with
 |nil=>
  intro c A G h o nd n g;obtain rfl:c=[]:=by cases c with|nil=>rfl|cons a b=>cases o
  rw[m5]at n g;refine⟨A,?_,?_,λk _=>rfl,λj p e=>by rw[a1J]at e;cases e⟩
  .rw[a0Q,O7];exact n
  .rw[a0Q,O7];exact g
 |cons x i C=>
  intro c A G h o nd n g;cases c with
  |nil=>cases o
  |cons p r=>
   have m:=I0.mp nd;obtain⟨d,w,H,hp,rk⟩:=h 0 p rfl;cases H;have hn:hide H' (p::r) p=none:=gP E9;have B:zA (hide H' (p::r)) (hide H' r):=gQ;have u:hide H' r p=some (.dK w):=(Y3 m.1).trans hp;have s:Gro Z A0 n0 H0 (exA A G.length p) (G.length+1) (hide H' r):=g.trans (Gro.ext B hn);have E:W6 Z.W (HM Z (exA A G.length p) (G.length+1)) (exA A G.length p) (G.length+1) (hide H' r) p (VU (.d d)):=⟨w,u,m6 (rk.gen s.fr s.sM)⟩;have F:=n.alloc B hn E;have f:(G++[VU (.d d)]).length=G.length+1:=by simp
   obtain⟨l,y,v,t,D⟩:=C (A:=exA A G.length p) (G:=G++[VU (.d d)]) (λj q e=>h (j+1) q e) (Nat.succ.inj o) m.2 F (by rw[f];exact s);have I:G++[VU (.d d)]++i.map VU=G++(PV.d d::i).map VU:=by simp
   rw[I]at y v;rw[f]at t;refine⟨l,y,v,λk z=>(t k (a0g z)).trans (YX z),λj q e=>?_⟩;cases j with
   |zero=>rw[a09]at e;cases e;rw[Nat.add_zero,t _ (N9 _),Jr]
   |succ j=>rw[L7]at e;have:=D j q e;rw[f]at this;rw[<- this];congr 1;omega
def tZ:∀{vs:EH}{i:Nat}{x:PV},yy W M H xs vs->xs[i]?=some x->∃v,vs[i]?=some v/\Rep W M H x v:=by
 induction xs with
 |nil=>intro vs i x r e;rw[a1J]at e;cases e
 |cons y xs ih=>
  intro vs i x r e;unfold yy at r;obtain⟨v,q,rfl,r1,r2⟩:=r;cases i with
  |zero=>cases e;exact⟨v,rfl,r1⟩
  |succ i=>exact ih (vs:=q) r2 (show xs[i]?=some x from e)
def nG(hc:X.calm=true)(hok:eM X scope [x] [none]=true)(ht:PE X (.Name t p5) (ZN i))(hg:∀fp pn s H L,PG (y4 X scope [x] fp pn s H L) (.Name x p4) (VP 0))(he:∀fp pn s H L,PE (y4 X scope [x] fp pn s H L) (.Call (.Name "dict" p1) [.Name x p2] [] p3) (tCB mJ (rF (ZN 0) BX)))(h:HGs X W es gs)
  (hn:(assignEach es X.env).length=n:=by rfl) (hst:(assignEach es X.env).findIdx? (·.1)=none:=by rfl) (hs:swapsWithSole [.Tuple es k tpos] (.ListComp (.Call (.Name "dict" p1) [.Name x p2] [] p3) [⟨.Name x p4,.Name t p5,[],0⟩] scope pos) eJ.line X.env=pure false:=by rfl) (hw:swappedStores [.Tuple es k tpos] (.ListComp (.Call (.Name "dict" p1) [.Name x p2] [] p3) [⟨.Name x p4,.Name t p5,[],0⟩] scope pos) X.env=pure none:=by rfl)
  (h1:(assignEach [.Tuple es k tpos] X.env).map (·.2)=[assign (.Tuple es k tpos) X.env]:=by rfl) (hf:∀x,foldedSetIterable (.Name t p5) X.env x=pure x:=by intro _;rfl):
  HS X W E (.Assign [.Tuple es k tpos] (.ListComp (.Call (.Name "dict" p1) [.Name x p2] [] p3) [⟨.Name x p4,.Name t p5,[],0⟩] scope pos) eJ) (tY n gs i):=λhK=>by
 obtain⟨tg,b1,b2⟩:=h hK;refine⟨_,eT (l9 [x] [none] hc hok (cg ht) hg (λ_ _ _ _ _=>fA) he hf) (tW hc b1 hn hst) hs hw h1,λZ hZ A H σ ρ G R D q=>?_⟩;unfold tY Dy at q;split at q
 .rename_i ys G' C;split at C
  .rename_i I hx;split at C
   .rename_i hd;cases C;obtain⟨hd,hl⟩:=hd;obtain⟨v,hv,p,r,rfl,hsq,rr⟩:=R.var i _ hx;have hlen:=rr.len;refine⟨_,hv,.inr ⟨p,rfl,⟨r,by rw[hK,<- hZ];exact hsq⟩,λw O=>⟨λi m B N=>m=r.length-i/\i<=r.length/\B.length=1/\∃f,N w=some (.lst (f.map .ref))/\f.length=i/\zA H N/\f.Nodup/\(∀q∈f,q≠w/\H q=none)/\DvR Z.W (HM Z A G.length) H N I f,
     ⟨_,rfl,P4 _,rfl,[],zd,rfl,zA.upd O,M9,(λq C=>by cases C),λj q e=>by rw[a1J]at e;cases e⟩,?_⟩⟩⟩
    rintro g m B N ⟨rfl,hle,h1l,f,T,hpl,sm,nd,S,dv⟩
    have J:SqT X.K N p r:=(sm.fr (M:=λ_=>True)).sqT (by rw[hK,<- hZ];exact hsq);by_cases hlt:g<r.length
    .obtain⟨o,rfl⟩:∃o,B=[o]:=by match B,h1l with|[o],_=>exact⟨o,rfl⟩
     have hx:g<I.length:=by omega
     have Q:r[g]?=some r[g]:=E1 hlt;have Y:I[g]?=some I[g]:=E1 hx;obtain⟨v,hv2,rv⟩:=tZ rr Y;rw[Q]at hv2;cases hv2;obtain⟨F,ek⟩:∃F,I[g]=.d F:=by
      have:=O5.mp hd _ (O4 hx);cases e:I[g]with
      |d F=>exact⟨F,rfl⟩
      |_=>rw[e]at this;cases this
     rw[ek]at rv Y;obtain⟨p0,es',hp0,_,hrd,rk⟩:=rv;refine .inr ⟨⟨r,_,J,Q⟩,λσ2 K=>g+1<=r.length/\σ2.length=1/\∃f,K w=some (.lst (f.map .ref))/\f.length=g+1/\zA H K/\f.Nodup/\(∀q∈f,q≠w/\H q=none)/\DvR Z.W (HM Z A G.length) H K I f,λσ2 K h=>⟨r.length-(g+1),by omega,rfl,h.1,h.2⟩,?_⟩
     rintro y H3 ⟨rfl,hy⟩
     have hy:=hy r J;rw[Q]at hy;cases hy;change tCB mJ (rF (ZN 0) BX) [some r[g]] _ _;refine⟨_,rfl,p0,es',by rw[hp0],(sm.fr (M:=λ_=>True)).rd hrd trivial,λl hl=>?_⟩;have la:l≠w:=λz=>by rw[z,T]at hl;cases hl
     have lps:l∉f:=λz=>by obtain⟨j,hj⟩:=List.mem_iff_getElem?.mp z;obtain⟨_,_,_,h2,_⟩:=dv j l hj;rw[h2]at hl;cases hl
     refine⟨f.map .ref,by rw[zh (Ne.symm la)];exact T,by rw[u8,hpl];exact F5 (show g<1001 by omega) (by decide),hlt,rfl,f++[l],by rw[F8];exact zd,by rw[F7,hpl];rfl,λb u hb=>?_,?_,?_,?_⟩
     .have e1:=sm b u hb;rw[zh (λz=>by rw[z,O]at hb;cases hb),zh (λz=>by rw[z,hl]at e1;cases e1)];exact e1
     .exact a0h.mpr ⟨nd,I0.mpr ⟨by simp,List.nodup_nil⟩,λa ha b hb e=>lps (by rw[<- List.mem_singleton.mp hb,<- e];exact ha)⟩
     .intro q C;rcases N3.mp C with h|h
      .exact S q h
      .rw[E8.mp h];exact⟨la,sm.free hl⟩
     .intro j q e;rcases a3c j f.length with hj|hj
      .rw[M8 hj]at e;obtain⟨kv,es2,h2,h3,h4⟩:=dv j q e;have C:=O2 e;exact⟨kv,es2,h2,by rw[zh (S q C).1,zh (show q≠l from λz=>lps (z▸C))];exact h3,h4⟩
      .rw[N7 hj]at e;have hj0:j-f.length=0:=by have:=(E7.mp e).1;simp at this;omega
       rw[hj0]at e;cases e;have hji:j=g:=by omega
       subst hji;exact⟨F,es',Y,by rw[zh la];exact zd,rk⟩
    .have hi:g=r.length:=by omega
     subst hi;refine .inl ⟨⟨r,J,E5 _⟩,w,_,rfl,SqL.of T,?_⟩;have q:HPs Z E A G.length H D (if(((List.range I.length).map λj=>G.length+j).map HV.g).length=n then match gs (((List.range I.length).map λj=>G.length+j).map .g) ρ with
      |some P=>HFw.nx P (G++I.map VU)
      |none=>.wall
      else .wall):=q
     split at q
     .rename_i hn2;split at q
      .rename_i P hρ;have U:I.length=f.length:=by omega
       have s0:zA H (hide N f):=λa o e=>by rw[Y3 λz=>by rw[(S a z).2]at e;cases e];exact sm a o e
       obtain⟨A',h3,g3,b3,a3⟩:=nF dv U nd (R.toHH.keep s0) (Gro.same s0);refine⟨by rw[u8,<- U];simpa using hn2,b2 Z hZ A' N σ ρ _ _ _ (R.gro h3 g3) (cP (by simp[U]) λj c p e1 e2=>?_) _ ⟨P,hρ,λB R'=>q A' N B R' g3⟩⟩;rw[G9]at e1;obtain⟨u,e3,rfl⟩:=v2.mp e1;obtain⟨k1,k2⟩:=E7.mp e3;rw[a04]at k2;subst k2;rw[O0]at k1;exact⟨by simp;omega,a3 _ _ e2⟩
      .exact q.elim
     .exact q.elim
   .cases C
  .cases C
 .exact q.elim
def t4{g:TG}{X:TT}{te:TE}{fr:EI}{A:Eo}(J:S[i]?≠some 2)(L:S[j]?≠some 2)(Y:A=inS S fr)(W:LG ⟨C.W,E0,false⟩ A A g mg)(ht:LT ⟨C.W,E0,false⟩ A X mc)(he:LE ⟨C.W,E0,false⟩ A false te me):LFr C S (tGz (tLC (KN (tOp Bv (ZN i) (ZN j))) g X te fr)) (mLC (qm i j) fr mg mc me):=λB P H σ G R Q q=>by
 by_cases hw:qm i j G=.wall
 .unfold mLC at q;rw[hw]at q;exact q.elim
 obtain⟨kvs,y,k,I,hx,hy,hk,hd,T⟩:=Uy hw;obtain⟨p,N,a,n,F,d,h,f,na,O,D⟩:=gR R J L hx hy hk hd;rcases O with l|⟨o,l⟩
 .refine .inl ⟨a,n,l,λo=>?_⟩;have Z:=WZ R na l;have Rf:=R.loop.sw (u':=.frz o (.dK n)) Z (.inl rfl) (.inr ⟨o,rfl⟩);have w:Rd (upd H a (.frz o (.dK n))) p (.dK N):=by
   by_cases c:p=a
   .subst c;cases cw h (.inl l);exact .inr ⟨o,zd⟩
   .exact h.elim (λz=>.inl (by rw[zh c];exact z)) λ⟨o',z⟩=>.inr ⟨o',by rw[zh c];exact z⟩
  refine KI (C:=C) (mi:=qm i j) (λRr E=>?_) rfl Y W ht he Rf _ ?_
  .rw[T]at E;exact⟨.ref p,F,kV k,d,p,.ref a,rfl,.inl ⟨N,k,w,rfl,f.symm⟩,a,o,n,rfl,zd,E _ _ (zA.refl _) (kg zd D)⟩
  .unfold mLC at q ⊢;rw[T]at q ⊢;have q:zX C B H (RFr C.W (Mof B S P) H) Q (lcP mg mc me (I.map λt=>kP t.1) (Q1 G fr) []):=q;show zX C _ _ _ _ (lcP mg mc me (I.map λt=>kP t.1) (Q1 G fr) []);revert q;cases ho:lcP mg mc me (I.map λt=>kP t.1) (Q1 G fr) []with
   |wall=>exact id
   |exc c fs=>exact absurd ho YW
   |ok x=>
    intro q v H2 s r;have hf:=s a _ (zd (H:=H) (o:=.frz o (.dK n)));refine⟨⟨o,hf⟩,q v _ (λb u M=>?_) ?_⟩
    .by_cases e:b=a
     .subst e;rw[l]at M;rw[zd];exact M
     .rw[zh e];exact s b u (by rw[zh e];exact M)
    .obtain⟨p,e,hp,r⟩:=r;have U:p≠a:=λz=>by rw[z,zd]at hp;cases hp
     rw[zh U]at hp;refine⟨p,e,hp,Kw.sw U (.inr ⟨o,hf⟩) (.inl zd) (λb z=>zh z) (r.gen rfl Fr.refl λb m _=>⟨?_,m.2⟩)⟩;have n0:(B.loop S P H R.hz).H0 a≠none:=by rw[Z];exact λz=>by cases z
     have K:=(gr n0).mp m.1;exact⟨⟨Q0 R K.1.1,K.1.2⟩,K.2⟩
 .refine .inr (KI (C:=C) (mi:=qm i j) (λRr E=>?_) rfl Y W ht he R _ q);rw[T]at E;exact⟨.ref p,F,kV k,d,p,.ref a,rfl,.inl ⟨N,k,h,rfl,f.symm⟩,a,o,n,rfl,l,E _ _ (zA.refl _) (kg l D)⟩
def h9(B:X.A.units+1<cLine)(N:EB)(fr:EI)(b:Eo)(u:X.calm=true)(d:eM X scope N fr=true)(r:PE X a0 (ZN i))(e:PE X b0 (ZN j))(p:∀z:CI,GM (cxI X scope N z) ⟨C.W,E0,false⟩ b b tg mg)(w:∀z:CI,TsM (cxI X scope N z) ⟨C.W,E0,false⟩ b ifs mc)(he:∀z:CI,EM (cxI X scope N z) ⟨C.W,E0,false⟩ b false elt me)(h:S[i]?≠some 2:=by decide)(m:S[j]?≠some 2:=by decide)(f:wM b0:=by intro _ _;rfl)(t:b=inS S fr:=by rfl)
  (n:∀x,foldedSetIterable (.Subscript a0 b0 ipos) X.env x=pure x:=by intro _;rfl):FM X C S (.ListComp elt [⟨tg,.Subscript a0 b0 ipos,ifs,0⟩] scope pos) (mLC (qm i j) fr mg mc me):=λl=>by
 obtain⟨g,A,y⟩:=WV p λ_=>l;obtain⟨E,v,D⟩:=WU w λ_=>l;obtain⟨F,q,o⟩:=WT he λ_=>l;exact⟨_,x4 (l9 N fr u d (vQ (lK (WM B) r e f)) (λa c s H L=>A ⟨a,c,s,H,L⟩) (λa c s H L=>v ⟨a,c,s,H,L⟩) (λa c s H L=>q ⟨a,c,s,H,L⟩) n),t4 h m t y D o⟩
end L2
namespace K87
open PySem L2
noncomputable section NCS
def top(i:Nat):Stmt:=PySem.Challenge.pw_fleetpath_k87_deal_held.main.body.getD i (.Pass ⟨0,0,0,0⟩)
abbrev Q9:Stmt:=top 27
abbrev Q_:Stmt:=top 28
abbrev Yp:Stmt:=top 29
abbrev Yq:Stmt:=top 30
abbrev vj:Stmt:=inClass (top 4) 0
abbrev wZ:Stmt:=top 7
abbrev K3:Stmt:=top 11
abbrev jM:Stmt:=inClass (top 3) 0
abbrev jN:Stmt:=top 6
abbrev vS:Stmt:=top 12
abbrev vk:Stmt:=inClass (top 13) 0
abbrev w4:Stmt:=top 14
abbrev vT:Stmt:=top 15
abbrev K4:Stmt:=top 16
abbrev Ja:Stmt:=top 17
abbrev h_:Stmt:=top 18
abbrev w6:Stmt:=top 39
abbrev vU:Stmt:=top 23
abbrev jd:Stmt:=top 24
abbrev vV:Stmt:=top 21
abbrev w8:Stmt:=top 20
abbrev ki:Stmt:=top 22
abbrev w_:Stmt:=top 25
abbrev Jb:Stmt:=top 38
abbrev jO:Stmt:=top 36
abbrev Yr:Stmt:=top 35
abbrev Za:Stmt:=top 37
abbrev Ys:Stmt:=top 34
abbrev Jc:Stmt:=top 31
abbrev Yt:Stmt:=top 32
abbrev Yu:Stmt:=top 33
abbrev t5:Stmt:=top 40
def scB(N P:EB)(a:Scope):Bool:=(match a.kind with | .function=>true|_=>false)&&(!a.isCoroutine&&(!a.isGenerator&&(decide N.Nodup&&(decide (N.take P.length=P)&&(P.all (λx=>match a.names.lookup x with|some .local=>true|some .cell=>true|_=>false)&&a.names.all λy=>match y.2 with | .free=>false|_=>true)))))
def ZT(h:scB N P sc=true):zH N P sc:=by
 unfold scB at h;simp only[Bool.and_eq_true,decide_eq_true_eq,List.all_eq_true]at h;obtain⟨g,b,c,j,i,d,a⟩:=h;refine⟨?_,by simpa using b,by simpa using c,j,i,λx l=>?_,λy f e=>?_⟩
 .revert g;cases sc.kind<;>simp
 .have:=d x l;split at this<;>simp_all
 .have:=a y f;rw[e]at this;cases this
def Yv:zH ["_law_script","_law_k","_law_many","_law_cell"] ["_law_script","_law_k","_law_many"] (zt Q9):=ZT (by decide +kernel)
def Yw:zH ["_law_script","_law_k","_law_number","_law_ahead","_law_behind"] ["_law_script","_law_k","_law_number"] (zt Q_):=ZT (by decide +kernel)
def UJ:zH ["_law_script","_law_k","_law_named","_law_number"] ["_law_script","_law_k","_law_named","_law_number"] (zt Yp):=ZT (by decide +kernel)
def yL:zH ["_law_script","_law_scale","_law_costs_here","_law_leaving","_law_k","_law_thing_here","_law_j","_law_key"] ["_law_script"] (zt Yq):=ZT (by decide +kernel)
def K5:zH ["self","most"] ["self","most"] (zt vj):=ZT (by decide +kernel)
def Xj:zH ["things","most"] ["things","most"] (zt wZ):=ZT (by decide +kernel)
def ZC:zH ["costs","had","thing","key"] ["costs"] (zt K3):=ZT (by decide +kernel)
def Jd:zH ["self","value"] ["self","value"] (zt jM):=ZT (by decide +kernel)
def Je:zH ["value","least"] ["value","least"] (zt jN):=ZT (by decide +kernel)
def vm:zH ["costs","leaving","thing","key"] ["costs","leaving"] (zt vS):=ZT (by decide +kernel)
def K6:zH ["self","costs","leaving"] ["self","costs","leaving"] (zt vk):=ZT (by decide +kernel)
def z8:zH ["dealing","reached","ahead","least","thing","price","room","costs","key"] ["dealing","reached","ahead"] (zt w4):=ZT (by decide +kernel)
def vn:zH ["dealing","reached","ahead","more","thing","key"] ["dealing","reached","ahead","more"] (zt vT):=ZT (by decide +kernel)
def ZD:zH ["dealing","thing","key","ahead","before"] ["dealing","thing","key","ahead"] (zt K4):=ZT (by decide +kernel)
def kj:zH ["dealing","first","reached","ahead","step","key"] ["dealing","first"] (zt Ja):=ZT (by decide +kernel)
def a7:zH ["costs","leaving","dealing","thing"] ["costs","leaving"] (zt h_):=ZT (by decide +kernel)
def z9:zH ["_law_script","_law_papers","_law_costs_here","_law_leaving","_law_given","_law_things","_law_keys","_law_key","_law_k","_law_thing_here","_law_cost"] ["_law_script","_law_papers"] (zt w6):=ZT (by decide +kernel)
def vo:zH ["costs","leaving","thing_prices","key_prices","thing","price"] ["costs","leaving","thing_prices","key_prices"] (zt vU):=ZT (by decide +kernel)
def Y5:zH ["costs","leaving","dealt"] ["costs","leaving","dealt"] (zt jd):=ZT (by decide +kernel)
def VW:zH ["costs","things"] ["costs","things"] (zt vV):=ZT (by decide +kernel)
def Xk:zH ["things"] ["things"] (zt w8):=ZT (by decide +kernel)
def we:zH ["costs","dealt","given"] ["costs","dealt"] (zt ki):=ZT (by decide +kernel)
def Y6:zH ["costs","leaving","dealt","thing_prices","key_prices","prices"] ["costs","leaving","dealt","thing_prices","key_prices"] (zt w_):=ZT (by decide +kernel)
def yP:zH ["_law_papers","_law_due","_law_costs_here","_law_leaving","_law_given","_law_things","_law_keys","_law_kept","_law_handed","_law_told"] ["_law_papers","_law_due"] (zt Jb):=ZT (by decide +kernel)
def qg:zH ["_law_script","_law_k","_law_old","_law_strange","_law_value","_law_fresh","_law_some","_law_thing_here"] ["_law_script","_law_k","_law_old","_law_strange","_law_value"] (zt jO):=ZT (by decide +kernel)
def UK:zH ["_law_script","_law_k"] ["_law_script","_law_k"] (zt Yr):=ZT (by decide +kernel)
def zo:zH ["_law_script","_law_k","_law_papers","_law_costs_here","_law_leaving","_law_given","_law_things","_law_keys","_law_way","_law_step","_law_strange","_law_odd","_law_some","_law_thing_here","_law_key"] ["_law_script","_law_k","_law_papers"] (zt Za):=ZT (by decide +kernel)
def qH:zH ["_law_script","_law_costs_here","_law_given","_law_had","_law_k","_law_thing_here","_law_free"] ["_law_script","_law_costs_here"] (zt Ys):=ZT (by decide +kernel)
def a8:zH ["_law_one","_law_other"] ["_law_one","_law_other"] (zt Jc):=ZT (by decide +kernel)
def jD:zH ["_law_costs_here","_law_leaving","_law_given","_law_spent_here","_law_thing_here"] ["_law_costs_here","_law_leaving","_law_given"] (zt Yt):=ZT (by decide +kernel)
def qI:zH ["_law_costs_here","_law_leaving","_law_given","_law_things","_law_keys","_law_due","_law_had","_law_thing_here","_law_key"] ["_law_costs_here","_law_leaving","_law_given","_law_things","_law_keys"] (zt Yu):=ZT (by decide +kernel)
def wg:zH ["_law_script","_law_costs_here","_law_leaving","_law_given","_law_things","_law_keys","_law_papers","_law_more","_law_double","_law_k"] ["_law_script"] (zt t5):=ZT (by decide +kernel)
abbrev NsN(K:Fm)(x:Str):Prop:=W.nsIn K mainGlobals x=some none
abbrev NsR(K:Fm)(x:Str)(c:Addr):Prop:=W.nsIn K mainGlobals x=some (some (.ref c))
def ev(i:Nat)(d:X.N[i]?=some x:=by rfl)(c:Vis X.env.scope x:=by first|exact Or.inl rfl|exact Or.inr (Or.inl rfl)|exact Or.inr (Or.inr rfl))(b:(x==("__debug__":Str))=false:=by decide)(a:(x==("__classdict__":Str))=false:=by decide):EM X C S true (.Name x pos) (zc i):=xu (pv i d c b a)
def ei{j}:EM X C S false (.Constant (.int i) j pos) (mC (.i i)):=bY uR
def rm(a:wI k A)(h:j<=k:=by decide):wI j A:=a.mono h
def AI(c:W.findIn K (.ref C) "__init__"=some (some (.ref f)))(a:K.lookup C=some (excClassObj nm q C N bs bm true sn sub ab col dd k0 k1 k2 k3 k5 "ValueError.__new__"))(b:Uc K bm=true)(e:W.typeIn K (.ref f)=some (.type "function"))(d:W.keepIn K (.ref C)=true):XMk K C f:=⟨⟨_,_,_,_,_,_,_,_,_,_,_,_,_,_,_,a,b⟩,c,e,d⟩
abbrev fnT(st:Fh)(sh q:Str)(kV dc pm:Value)(an:EY)(cd ct:Value):FuncData:=W.fnOf sh q (Ku st) (wO st) (zt st) .none kV dc pm an cd ct
abbrev DfN(K:Fm)(x:Str)(st:Fh)(f:Addr)(fd:EL):Prop:=W.nsIn K mainGlobals x=some (some (.ref f))/\Fun K x x st f fd
structure Def(K:Fm)(mg:Er)(x:Str)(st:Fh)(ps:EB)(f:Addr)(fd:EL):Prop where
 g:mg x=some (.ref f)
 F:Fun K x x st f fd
 b:Binds K fd ps []
def Def.k(D:Def K mg x st ps f fd):W.keepIn K (.ref f)=true:=D.F.kp
abbrev BN(x q:Str)(st:Fh)(ps:EB):Prop:=∀(kV dc pm:Value)(an:EY)(cd ct:Value)(us:EE),us.length=ps.length->bindArgs (fnT st x q kV dc pm an cd ct) ⟨us,[]⟩=pure (ps.zip us)
def yB(X:K.In h)(G:h.Ns mainGlobals mg)(D:DfN K x st f fd)(b:BN x x st ps):Def K mg x st ps f fd:=⟨a1u X G D.1,D.2,D.2.binds b⟩
def fz{P:Nat->Prop}:∀c∈([]:List Nat),P c:=λ_ h=>nomatch h
def fa{P:Nat->Prop}{a:Nat}{l:Eo}(h:P a)(t:∀c∈l,P c):∀c∈a::l,P c:=λc b=>(F0.mp b).elim (λe=>e▸h) (t c)
def ec{X:Cx}{C:LC}{S:Eo}{k j:Nat}{f:Addr}{d:EL}{h:EB}{fr:Bool}{ws:Ew}{g:EJ}{x:Str}{st:Fh}{e:Ey}{es:Ex}{ms:MA}{p a:Pos}(F:qY X.prog X.w X.K X.mg X.base (CXe X.prog X.w) k f d h (lsp C.W fr ws g))(l:wI j X.A)(D:Def X.K X.mg x st h f d)(o:Passes (CXe X.prog X.w) X C.E)(m:AM X C S ws (e::es) ms)(i:k<=j:=by decide)(n:Gl X x:=by rfl)
  (b:(x==("__debug__":Str))=false:=by decide) (he:starEach (e::es) X.env=(false,eval e X.env)::starEach es X.env:=by rfl) (c:(backTo a (starEach es X.env)).any (·.1)=false:=by rfl):EM X C S false (.Call (.Name x p) (e::es) [] a) (zg g ms):=aP F (l.mono i) n D.g D.k D.b o m b he c
def gn(i:Nat)(c:X.N.Nodup)(b:X.N[i]?=some x:=by rfl)(a:Loc X.env.scope x:=by exact .inl rfl)(hf:X.fn x=true\/X.env.scope.names.lookup x=some .local:=by first|exact .inl rfl|exact .inr rfl|assumption):GM X C S (S.set i 0) (.Name x pos) (gNm i):=qP c b a hf
def se(i:Nat)(d:X.N.Nodup)(h:EM X C S false e m)(c:X.N[i]?=some x:=by rfl)(a:Loc X.env.scope x:=by exact .inl rfl)(b:swapsWith e (some (.Name x pos')) pos.line X.env=pure false:=by rfl)(hf:X.fn x=true\/X.env.scope.names.lookup x=some .local:=by first|exact .inl rfl|exact .inr rfl|assumption):SM X C S (S.set i 0) Sb Sc (.Assign [.Name x pos'] e pos) (yW i m):=oU d c a h b hf
def ix(c:wI k X.A)(f:EM X C S w1 a m1)(d:EM X C S w2 b m2)(e:wM b:=by intro _ _;rfl):EM X C S false (.Subscript a b pos) (mOp pIx m1 m2):=Cq (yT c) f d e
def hse(i:Nat)(d:X.N.Nodup)(h:HE X W E e m)(c:X.N[i]?=some x:=by rfl)(a:Loc X.env.scope x:=by exact .inl rfl)(b:swapsWith e (some (.Name x pos')) pos.line X.env=pure false:=by rfl)(hf:X.fn x=true\/X.env.scope.names.lookup x=some .local:=by first|exact .inl rfl|exact .inr rfl|assumption):HS X W E (.Assign [.Name x pos'] e pos) (wX i m):=Am d c a h b hf
def hp(h:EM X ⟨W,E,false⟩ (List.replicate 30 0) false e m):HE X W E e (hP bs m):=D_ bs h (O5.mpr λ_ h=>by rw[a13 h];rfl)
def hf(h:FM X ⟨W,E,false⟩ (List.replicate 30 0) e m):HE X W E e (hF bs m):=Eb bs h (O5.mpr λ_ h=>by rw[a13 h];rfl)
def bn1(h:∀kV a b d cd ct c,bindArgs (fnT st x q kV a b d cd ct) ⟨[c],[]⟩=pure (ps.zip [c]):=by intros;rfl)(hp:ps.length=1:=by rfl):BN x q st ps:=λkV a b d cd ct e f=>CG (P:=λe=>bindArgs (fnT st x q kV a b d cd ct) ⟨e,[]⟩=pure (ps.zip e)) (f.trans hp) λc=>h kV a b d cd ct c
def bn2(h:∀kV a c e cd ct d b,bindArgs (fnT st x q kV a c e cd ct) ⟨[d,b],[]⟩=pure (ps.zip [d,b]):=by intros;rfl)(hp:ps.length=2:=by rfl):BN x q st ps:=λkV a c e cd ct f g=>CH (P:=λf=>bindArgs (fnT st x q kV a c e cd ct) ⟨f,[]⟩=pure (ps.zip f)) (g.trans hp) λd b=>h kV a c e cd ct d b
def bn3(h:∀kV a d f cd ct e b c,bindArgs (fnT st x q kV a d f cd ct) ⟨[e,b,c],[]⟩=pure (ps.zip [e,b,c]):=by intros;rfl)(hp:ps.length=3:=by rfl):BN x q st ps:=λkV a d f cd ct g i=>CJ (P:=λg=>bindArgs (fnT st x q kV a d f cd ct) ⟨g,[]⟩=pure (ps.zip g)) (i.trans hp) λe b c=>h kV a d f cd ct e b c
def bn4(h:∀kV a d g cd ct f b c e,bindArgs (fnT st x q kV a d g cd ct) ⟨[f,b,c,e],[]⟩=pure (ps.zip [f,b,c,e]):=by intros;rfl)(hp:ps.length=4:=by rfl):BN x q st ps:=λkV a d g cd ct i j=>CK (P:=λi=>bindArgs (fnT st x q kV a d g cd ct) ⟨i,[]⟩=pure (ps.zip i)) (j.trans hp) λf b c e=>h kV a d g cd ct f b c e
def bn5(h:∀kV b e i cd ct g c d f a,bindArgs (fnT st x q kV b e i cd ct) ⟨[g,c,d,f,a],[]⟩=pure (ps.zip [g,c,d,f,a]):=by intros;rfl)(hp:ps.length=5:=by rfl):BN x q st ps:=λkV b e i cd ct j l=>CL (P:=λj=>bindArgs (fnT st x q kV b e i cd ct) ⟨j,[]⟩=pure (ps.zip j)) (l.trans hp) λg c d f a=>h kV b e i cd ct g c d f a
structure Adr where
 (qF kB qp zi j4 zQ Vz vv qd y3 jP yc yS vw qa Qy U4 Wt p_ JC yQ yk yh qK z_ qL yz zp yR qM qD ym jh qc Bm:Addr)
 (Wu Wv VA VB vx JD U5 jQ wB Qz vy JE QA U6 Ww rg JF QB vL QC JG Zn JH Wx wC VC JI VD Wy VE VF Bn:EL)
 (uy XI bu:Tok)
abbrev Dz(K:Fm)(mg:Er)(a:Adr):Prop:=
 (mg "LIMIT"=some (.int 1000000000 a.uy))/\
 (mg "MOST_THINGS"=some (.int 40 a.XI))/\
 (mg "MOST_KEYS"=some (.int 80 a.bu))/\
 (mg "BadNumber"=some (.ref a.qF))/\
 (mg "TooMany"=some (.ref a.kB))/\
 (mg "Dealing"=some (.ref a.qp))/\
 (mg "all"=none)/\
 (mg "any"=none)
abbrev DA(K:Fm)(mg:Er)(a:Adr):Prop:=
 (mg "bool"=none)/\
 (mg "dict"=none)/\
 (mg "isinstance"=none)/\
 (mg "len"=none)/\
 (mg "list"=none)/\
 (mg "range"=none)/\
 (mg "set"=none)/\
 (mg "sum"=none)
abbrev Txt2(K:Fm)(mg:Er)(a:Adr):Prop:=
 (K.lookup cStatics=some L2.BF)/\
 (Def K mg "_law_draw" Q9 ["_law_script","_law_k","_law_many"] a.zi a.Wu)/\
 (Def K mg "_law_name" Q_ ["_law_script","_law_k","_law_number"] a.j4 a.Wv)/\
 (Def K mg "_law_thing" Yp ["_law_script","_law_k","_law_named","_law_number"] a.zQ a.VA)/\
 (Def K mg "_law_costs" Yq ["_law_script"] a.Vz a.VB)/\
 (Fun K "__init__" "TooMany.__init__" vj a.vv a.vx)/\
 (Binds K a.vx ["self","most"] [])/\
 (Def K mg "check_most" wZ ["things","most"] a.qd a.JD)
abbrev DB(K:Fm)(mg:Er)(a:Adr):Prop:=
 (Def K mg "keys_of" K3 ["costs"] a.y3 a.U5)/\
 (Fun K "__init__" "BadNumber.__init__" jM a.jP a.jQ)/\
 (Binds K a.jQ ["self","value"] [])/\
 (Def K mg "checked_number" jN ["value","least"] a.yc a.wB)/\
 (Def K mg "check_costs" vS ["costs","leaving"] a.yS a.Qz)/\
 (Fun K "__init__" "Dealing.__init__" vk a.vw a.vy)/\
 (Binds K a.vy ["self","costs","leaving"] [])/\
 (Def K mg "least_step" w4 ["dealing","reached","ahead"] a.qa a.JE)
abbrev DC(K:Fm)(mg:Er)(a:Adr):Prop:=
 (Def K mg "move_prices" vT ["dealing","reached","ahead","more"] a.Qy a.QA)/\
 (Def K mg "hand_on" K4 ["dealing","thing","key","ahead"] a.U4 a.U6)/\
 (Def K mg "deal_one" Ja ["dealing","first"] a.Wt a.Ww)/\
 (Def K mg "deal" h_ ["costs","leaving"] a.p_ a.rg)/\
 (Def K mg "_law_shared" w6 ["_law_script","_law_papers"] a.JC a.JF)/\
 (Def K mg "prices_hold" vU ["costs","leaving","thing_prices","key_prices"] a.yQ a.QB)/\
 (Def K mg "cost_of_dealing" jd ["costs","leaving","dealt"] a.yk a.vL)/\
 (Def K mg "same_things" vV ["costs","things"] a.yh a.QC)
abbrev DD(K:Fm)(mg:Er)(a:Adr):Prop:=
 (Def K mg "none_twice" w8 ["things"] a.qK a.JG)/\
 (Def K mg "dealing_holds" ki ["costs","dealt"] a.z_ a.Zn)/\
 (Def K mg "deal_holds" w_ ["costs","leaving","dealt","thing_prices","key_prices"] a.qL a.JH)/\
 (Def K mg "_law_true" Jb ["_law_papers","_law_due"] a.yz a.Wx)/\
 (Def K mg "_law_other_dict" jO ["_law_script","_law_k","_law_old","_law_strange","_law_value"] a.zp a.wC)/\
 (Def K mg "_law_great" Yr ["_law_script","_law_k"] a.yR a.VC)/\
 (Def K mg "_law_spoilt" Za ["_law_script","_law_k","_law_papers"] a.qM a.JI)/\
 (Def K mg "_law_drawn" Ys ["_law_script","_law_costs_here"] a.qD a.VD)
abbrev DE(K:Fm)(mg:Er)(a:Adr):Prop:=
 (Def K mg "_law_same" Jc ["_law_one","_law_other"] a.ym a.Wy)/\
 (Def K mg "_law_spent" Yt ["_law_costs_here","_law_leaving","_law_given"] a.jh a.VE)/\
 (Def K mg "_law_holds" Yu ["_law_costs_here","_law_leaving","_law_given","_law_things","_law_keys"] a.qc a.VF)/\
 (Def K mg "law" t5 ["_law_script"] a.Bm a.Bn)/\
 (XN K a.qF)/\
 (XMk K a.qF a.jP)/\
 (W.takerIn K a.qF "value"=some none)/\
 (XN K a.kB)
abbrev DF(K:Fm)(mg:Er)(a:Adr):Prop:=
 (XMk K a.kB a.vv)/\
 (W.takerIn K a.kB "most"=some none)/\
 (Cls K a.qp)/\
 (j7 K a.qp "costs")/\
 (j7 K a.qp "dealt")/\
 (j7 K a.qp "key_prices")/\
 (j7 K a.qp "leaving")/\
 (j7 K a.qp "owners")
abbrev DG(K:Fm)(mg:Er)(a:Adr):Prop:=
 (j7 K a.qp "thing_prices")/\
 (Mk K a.qp a.vw)/\
 (W.kitOne K (.type "bool") (.type "bool")=some true)/\
 (W.kitOne K (.type "int") (.type "bool")=some false)
abbrev Txt(K:Fm)(mg:Er)(a:Adr):Prop:=Dz K mg a/\DA K mg a/\Txt2 K mg a/\DB K mg a/\DC K mg a/\DD K mg a/\DE K mg a/\DF K mg a/\DG K mg a
section
variable {K:Fm}{mg:Er}{a:Adr}(T:Txt K mg a)
include T
def Txt.cc0:Dz K mg a:=T.1
def Txt.a9:=T.cc0.1
def Txt.vW:=T.cc0.2.1
def Txt.Yx:=T.cc0.2.2.1
def Txt.Yy:=T.cc0.2.2.2.1
def Txt.K7:=T.cc0.2.2.2.2.1
def Txt.K8:=T.cc0.2.2.2.2.2.1
def Txt.nH:=T.cc0.2.2.2.2.2.2.1
def Txt.nI:=T.cc0.2.2.2.2.2.2.2
def Txt.cc1:DA K mg a:=T.2.1
def Txt.ia:=T.cc1.1
def Txt.jS:=T.cc1.2.1
def Txt.Zb:=T.cc1.2.2.1
def Txt.vE:=T.cc1.2.2.2.1
def Txt.kM:=T.cc1.2.2.2.2.1
def Txt.Yz:=T.cc1.2.2.2.2.2.1
def Txt.nJ:=T.cc1.2.2.2.2.2.2.1
def Txt.eh:=T.cc1.2.2.2.2.2.2.2
def Txt.cc2:Txt2 K mg a:=T.2.2.1
def Txt.st:=T.cc2.1
def Txt.zq:=T.cc2.2.1
def Txt.ZE:=T.cc2.2.2.1
def Txt.yE:=T.cc2.2.2.2.1
def Txt.je:=T.cc2.2.2.2.2.1
def Txt.VX:=T.cc2.2.2.2.2.2.1
def Txt.VY:=T.cc2.2.2.2.2.2.2.1
def Txt.jE:=T.cc2.2.2.2.2.2.2.2
def Txt.cc3:DB K mg a:=T.2.2.2.1
def Txt.yY:=T.cc3.1
def Txt.JW:=T.cc3.2.1
def Txt.JX:=T.cc3.2.2.1
def Txt.yZ:=T.cc3.2.2.2.1
def Txt.jW:=T.cc3.2.2.2.2.1
def Txt.VZ:=T.cc3.2.2.2.2.2.1
def Txt.V0:=T.cc3.2.2.2.2.2.2.1
def Txt.kN:=T.cc3.2.2.2.2.2.2.2
def Txt.cc4:DC K mg a:=T.2.2.2.2.1
def Txt.qh:=T.cc4.1
def Txt.vF:=T.cc4.2.1
def Txt.j3:=T.cc4.2.2.1
def Txt.Wj:=T.cc4.2.2.2.1
def Txt.qJ:=T.cc4.2.2.2.2.1
def Txt.jX:=T.cc4.2.2.2.2.2.1
def Txt.qi:=T.cc4.2.2.2.2.2.2.1
def Txt.qT:=T.cc4.2.2.2.2.2.2.2
def Txt.cc5:DD K mg a:=T.2.2.2.2.2.1
def Txt.kO:=T.cc5.1
def Txt.qU:=T.cc5.2.1
def Txt.kQ:=T.cc5.2.2.1
def Txt.qj:=T.cc5.2.2.2.1
def Txt.zl:=T.cc5.2.2.2.2.1
def Txt.kl:=T.cc5.2.2.2.2.2.1
def Txt.kR:=T.cc5.2.2.2.2.2.2.1
def Txt.jf:=T.cc5.2.2.2.2.2.2.2
def Txt.cc6:DE K mg a:=T.2.2.2.2.2.2.1
def Txt.jg:=T.cc6.1
def Txt.vX:=T.cc6.2.1
def Txt.km:=T.cc6.2.2.1
def Txt.ib:=T.cc6.2.2.2.1
def Txt.K9:=T.cc6.2.2.2.2.1
def Txt.a_:=T.cc6.2.2.2.2.2.1
def Txt.Y7:=T.cc6.2.2.2.2.2.2.1
def Txt.UL:=T.cc6.2.2.2.2.2.2.2
def Txt.cc7:DF K mg a:=T.2.2.2.2.2.2.2.1
def Txt.ic:=T.cc7.1
def Txt.K_:=T.cc7.2.1
def Txt.zM:=T.cc7.2.2.1
def Txt.wj:=T.cc7.2.2.2.1
def Txt.qu:=T.cc7.2.2.2.2.1
def Txt.yC:=T.cc7.2.2.2.2.2.1
def Txt.kS:=T.cc7.2.2.2.2.2.2.1
def Txt.qk:=T.cc7.2.2.2.2.2.2.2
def Txt.cc8:DG K mg a:=T.2.2.2.2.2.2.2.2
def Txt.yg:=T.cc8.1
def Txt.eA:=T.cc8.2.1
def Txt.Zc:=T.cc8.2.2.1
def Txt.YA:=T.cc8.2.2.2
end
def cls(a:Adr):Nat->Addr
 |1=>a.qF
 |2=>a.kB
 |3=>a.qp
 |_=>0
abbrev WW(K:Fm)(a:Adr):RC:=⟨K,cls a⟩
abbrev Wk:MS:=
  (yj (yW 3 (mC (.i 5)))
  (yj (sIf (zW (mOp pGt (zg ZJ (zb (zc 0) zr)) (mC (.i 0)))) (yW 3 (mOp QX (mOp pIx (zc 0) (mOp QX (zc 1) (zg ZJ (zb (zc 0) zr)))) (mC (.i 1000000007)))) yI)
  (kc (mOp QX (mOp fG (mOp QX (mOp ZI (mOp zJ (mOp zJ (zc 3) (mOp ZI (mC (.i 37)) (zc 1))) (mC (.i 1))) (mOp zJ (mC (.i 48271)) (mOp ZI (zc 1) (zc 1)))) (mC (.i 2147483647))) (mC (.i 7))) (zc 2)))))
def zi:List PV->Out PV:=QR false 4 Wk
abbrev YB:MG:=
  (gNm 3)
abbrev YC:MS:=
  (cf 1 (zc 3) (mC (.b true)))
abbrev YD:MG:=
  (gNm 2)
abbrev YE:MS:=
  (wR (qm 0 2) YB YC)
abbrev UM:MS:=
  (yj (yW 1 kI)
  (yj (wR (yb 0) YD YE)
  (kc (zg yX (zb (zc 1) zr)))))
def y3:List PV->Out PV:=QR true 4 UM
abbrev ZU:MG:=
  (gNm 8)
abbrev ZV:MS:=
  (yj (yW 6 (mOp dY (mOp dY (mOp pIx (zc 7) (zc 8)) (zc 5)) (mOp pIx (aQ [3] "key_prices" (zc 0)) (zc 8))))
  (sIf (Ui (zW (mOp pLt (zc 6) (mOp pIx (zc 3) (mC (.i 0))))) (zW (mOp (pIn true) (zc 8) (zc 2)))) (yW 3 (aH (zb (zc 6) (zb (zc 4) (zb (zc 8) zr))))) yI))
abbrev ZW:MG:=
  (gNm 4)
abbrev vp:MS:=
  (yj (yW 5 (mOp pIx (aQ [3] "thing_prices" (zc 0)) (zc 4)))
  (yj (yW 6 (mOp dY (mOp pIx (aQ [3] "leaving" (zc 0)) (zc 4)) (zc 5)))
  (yj (sIf (mOr (zW (mOp (VN false) (zc 3) (mC .n))) (zW (mOp pLt (zc 6) (mOp pIx (zc 3) (mC (.i 0)))))) (yW 3 (aH (zb (zc 6) (zb (zc 4) (zb (mC .n) zr))))) yI)
  (yj (yW 7 (mOp pIx (aQ [3] "costs" (zc 0)) (zc 4)))
  (wR (yb 7) ZU ZV)))))
abbrev Ju:MS:=
  (yj (yW 3 (mC .n))
  (yj (wR (wd (zc 1)) ZW vp)
  (kc (zc 3))))
def qa:List PV->Out PV:=QR false 9 Ju
abbrev qv:HMG:=
  (hgN 4)
abbrev qw:HMS:=
  (gS (λa b=>a+b) (eP [3] "thing_prices" (yn 0)) (yn 4) (yn 3))
abbrev qx:HMG:=
  (hgN 5)
abbrev qy:HMS:=
  (gS (λa b=>a-b) (eP [3] "key_prices" (yn 0)) (yn 5) (yn 3))
abbrev jx:HMS:=
  (qt (tF (yn 1) qv qw)
  (m8 2 qx qy))
def jz:List HV->AH->HX HV:=lp 6 jx
abbrev kT:HMT:=
  (hPT [] (zW (mC (.b true))))
abbrev jF:HMS:=
  (qt (wX 4 (hP [true,true] (Ar (aQ [3] "dealt" (zc 0)) (zc 1))))
  (qt (Wf (eP [3] "dealt" (yn 0)) (yn 1) (yn 2))
  (qt (hIf (hPT [false,false,true] (zW (mOp (VN true) (zc 2) (mC .n)))) (Wf (eP [3] "owners" (yn 0)) (yn 2) (yn 1)) Y1)
  (qt (hIf (hPT [false,false,false,false,true] (zW (mOp (VN false) (zc 4) (mC .n)))) s_ Y1)
  (qt (wX 1 (hP [false,false,false,true,true] (mOp pIx (zc 3) (zc 4))))
  (wX 2 (yn 4)))))))
abbrev Wl:HMS:=
  (KW kT jF)
def Wm:List HV->AH->HX HV:=lp 5 Wl
abbrev wm:MG:=
  (gNm 0)
abbrev wo:MT:=
  f9
abbrev wq:ME:=
  (mOp pGt (mOp pIx (zc 1) (zc 0)) (mC (.i 0)))
abbrev wt:MG:=
  (gNm 0)
abbrev wu:MT:=
  f9
abbrev wx:ME:=
  (mOp pGt (mOp zJ (zc 1) (mOp pIx (zc 2) (zc 0))) (mOp pIx (mOp pIx (zc 3) (zc 4)) (zc 0)))
abbrev Zd:MG:=
  (gNm 4)
abbrev Ze:MS:=
  (yj (yW 5 (mOp pIx (zc 2) (zc 4)))
  (yj (sIf (zW (mOp pGt (zc 5) (mOp pIx (zc 1) (zc 4)))) (kc (mC (.b false))) yI)
  (sIf (zW (zg pf (zb (mLC (qm 0 4) [none,some 5,some 3,some 0,some 4] wt wu wx) zr))) (kc (mC (.b false))) yI)))
abbrev Y8:MS:=
  (yj (sIf (zW (zg pf (zb (mLC (yb 3) [none,some 3] wm wo wq) zr))) (kc (mC (.b false))) yI)
  (yj (wR (yb 0) Zd Ze)
  (kc (mC (.b true)))))
def yQ:List PV->Out PV:=QR false 6 Y8
abbrev ZK:MG:=
  (gNm 0)
abbrev ZL:MT:=
  f9
abbrev ZM:ME:=
  (mIf (zW (mOp (VN false) (mOp pIx (zc 1) (zc 0)) (mC .n))) (mOp pIx (zc 2) (zc 0)) (mOp pIx (mOp pIx (zc 3) (zc 0)) (mOp pIx (zc 1) (zc 0))))
abbrev vG:MS:=
  (kc (zg uG (zb (mLC (yb 2) [none,some 2,some 1,some 0] ZK ZL ZM) zr)))
def yk:List PV->Out PV:=QR false 3 vG
abbrev Y9:MS:=
  (kc (hX (zb (zc 0) zr) (zb (zc 1) zr)))
def yh:List PV->Out PV:=QR false 2 Y9
abbrev Jv:MS:=
  (kc (mOp (j2 false) (zg tT (zb (zc 0) zr)) (zg ZJ (zb (zc 0) zr))))
def qK:List PV->Out PV:=QR false 1 Jv
abbrev Va:MS:=
  (yj (sIf (zW (mOp (j2 false) (zg ZJ (zb (zc 0) zr)) (mC (.i 0)))) (kc (mOp dY (zc 1) (mC (.i 3)))) yI)
  (kc (mOp dY (mOp QX (mOp pIx (zc 0) (mOp QX (zc 1) (zg ZJ (zb (zc 0) zr)))) (mOp ZI (mC (.i 2)) (mOp WK (mC (.i 10)) (mC (.i 30))))) (mOp WK (mC (.i 10)) (mC (.i 30))))))
def yR:List PV->Out PV:=QR false 2 Va
abbrev vY:MG:=
  (gNm 0)
abbrev vZ:MT:=
  (zW (mOp (pIn true) (zc 0) (zc 1)))
abbrev v3:ME:=
  (zc 0)
abbrev Wn:MS:=
  (kc (aI (mOp (j2 false) (zg ZJ (zb (zc 0) zr)) (zg ZJ (zb (zc 1) zr))) (mOp (j2 false) (mLC (yb 0) [none,some 1] vY vZ v3) (VO zr))))
def ym:List PV->Out PV:=QR false 2 Wn
abbrev Y_:MG:=
  (gNm 4)
abbrev Qa:MS:=
  (sIf (zW (mOp (VN false) (mOp pIx (zc 2) (zc 4)) (mC .n))) (yW 3 (mOp zJ (zc 3) (mOp pIx (zc 1) (zc 4)))) (yW 3 (mOp zJ (zc 3) (mOp pIx (mOp pIx (zc 0) (zc 4)) (mOp pIx (zc 2) (zc 4))))))
abbrev Vb:MS:=
  (yj (yW 3 (mC (.i 0)))
  (yj (wR (yb 0) Y_ Qa)
  (kc (zc 3))))
def jh:List PV->Out PV:=QR false 5 Vb
abbrev Wo:MS:=
  (yj (yW 3 (zg zi (zb (zc 0) (zb (zc 1) (zb (mC (.i 11)) zr)))))
  (yj (yW 4 (mOp zJ (zg zi (zb (zc 0) (zb (mOp zJ (zc 1) (mC (.i 1))) (zb (mOp dY (mC (.i 11)) (zc 3)) zr)))) (mOp QX (zc 2) (mC (.i 2)))))
  (kc (mOp zJ (mOp zJ (mOp ZI (mC (.s "x")) (zc 3)) (mOp pIx (mC (.s "abcdefghijklmnopqrstuvwyz0123456789")) (zc 2))) (mOp ZI (mC (.s "x")) (zc 4))))))
def j4:List PV->Out PV:=QR false 5 Wo
abbrev ji:MG:=
  (gNm 0)
abbrev jj:MT:=
  f9
abbrev jm:ME:=
  (aH (zb (zc 0) (zb (mC (.i 0)) zr)))
abbrev jn:MG:=
  (gNm 0)
abbrev jo:MT:=
  f9
abbrev jq:ME:=
  (aH (zb (zc 0) (zb (mC (.i 0)) zr)))
abbrev qV:HMS:=
  (qt (Xf [3] "costs" (yn 0) (yn 1))
  (qt (Xf [3] "leaving" (yn 0) (yn 2))
  (qt (Xf [3] "dealt" (yn 0) (hF [] kI))
  (qt (Xf [3] "owners" (yn 0) (hF [] kI))
  (qt (Xf [3] "thing_prices" (yn 0) (hF [false,true] (zg y6 (zb (mLC (yb 1) [none] ji jj jm) zr))))
  (Xf [3] "key_prices" (yn 0) (hF [false,true] (zg y6 (zb (mLC (wd (zg y3 (zb (zc 1) zr))) [none] jn jo jq) zr)))))))))
def qb:List HV->AH->HX HV:=lp 3 qV
abbrev jY:HMT:=
  (hPT [] (zW (mC (.b true))))
abbrev v5:HMS:=
  (qt (wX 4 (hP [true,false,true,true] (zg qa (zb (zc 0) (zb (zc 2) (zb (zc 3) zr))))))
  (qt (W_ (W8 jz (ya (yn 0) (ya (yn 2) (ya (yn 3) (ya (hP [false,false,false,false,true] (mOp pIx (zc 4) (mC (.i 0)))) aW))))))
  (qt (wX 5 (hP [false,false,false,false,true] (mOp pIx (zc 4) (mC (.i 2)))))
  (qt (hIf (hPT [true,false,false,false,false,true] (mOr (zW (mOp (VN false) (zc 5) (mC .n))) (zW (mOp (pIn true) (zc 5) (aQ [3] "owners" (zc 0)))))) (qt (W_ (W8 Wm (ya (yn 0) (ya (hP [false,false,false,false,true] (mOp pIx (zc 4) (mC (.i 1)))) (ya (yn 5) (ya (yn 3) aW))))))
  s_) Y1)
  (qt (Wf (yn 3) (yn 5) (hP [false,false,false,false,true] (mOp pIx (zc 4) (mC (.i 1)))))
  (BB (yn 2) (hP [true,false,false,false,false,true] (mOp pIx (aQ [3] "owners" (zc 0)) (zc 5)))))))))
abbrev v7:HMS:=
  (qt (wX 2 (hF [false,true] (VO (zb (zc 1) zr))))
  (qt (wX 3 (hF [] kI))
  (KW jY v5)))
def YF:List HV->AH->HX HV:=lp 6 v7
abbrev kU:MG:=
  (gNm 0)
abbrev kW:MT:=
  (zW (mOp (VN true) (mOp pIx (zc 1) (zc 0)) (mC .n)))
abbrev kX:ME:=
  (mOp pIx (zc 1) (zc 0))
abbrev Qb:MG:=
  (gNm 0)
abbrev Qc:MT:=
  f9
abbrev Qd:ME:=
  (uE (mOp (VN false) (mOp pIx (zc 1) (zc 0)) (mC .n)) (mOp (pIn false) (mOp pIx (zc 1) (zc 0)) (mOp pIx (zc 2) (zc 0))))
abbrev Zg:MS:=
  (yj (yW 2 (mLC (yb 1) [none,some 1] kU kW kX))
  (yj (sIf (Jm (zW (zg qK (zb (zc 2) zr)))) (kc (mC (.b false))) yI)
  (kc (zg oQ (zb (mLC (yb 1) [none,some 1,some 0] Qb Qc Qd) zr)))))
def z_:List PV->Out PV:=QR false 3 Zg
abbrev wy:MS:=
  (yj (yW 5 (zg y6 (zb (zc 2) zr)))
  (yj (yW 6 (mOp zJ (zg yX (zb (zc 2) zr)) (VO (zb (zc 3) zr))))
  (yj (yW 7 (mOp pIx (zc 6) (zg zi (zb (zc 0) (zb (zc 1) (zb (zg ZJ (zb (zc 6) zr)) zr))))))
  (yj (sIf (Ui (zW (mOp (j2 false) (zg zi (zb (zc 0) (zb (mOp zJ (zc 1) (mC (.i 1))) (zb (mC (.i 4)) zr)))) (mC (.i 0)))) (zW (mOp (pIn false) (zc 7) (zc 5)))) (d4 5 (zc 7)) (cf 5 (zc 7) (zc 4)))
  (kc (zc 5))))))
def zp:List PV->Out PV:=QR true 8 wy
abbrev ZX:MG:=
  (gNm 0)
abbrev ZY:MT:=
  (mOr (zW (mOp (pIn true) (zc 0) (zc 1))) (zW (mOp (j2 false) (zg zi (zb (zc 2) (zb (mC (.i 89)) (zb (mC (.i 3)) zr)))) (mC (.i 0)))))
abbrev ZZ:ME:=
  (zc 0)
abbrev Qe:MG:=
  (gNm 4)
abbrev Qf:MS:=
  (yj (yW 5 (mOp pIx (zg yX (zb (zc 1) zr)) (zc 4)))
  (yj (yW 6 (mOp zJ (VO (zb (mC .n) zr)) (mLC (qm 1 5) [none,some 3,some 0] ZX ZY ZZ)))
  (yj (cf 2 (zc 5) (mOp pIx (zc 6) (zg zi (zb (zc 0) (zb (mOp zJ (mC (.i 90)) (zc 4)) (zb (zg ZJ (zb (zc 6) zr)) zr))))))
  (uH 3 (mOp pIx (zc 2) (zc 5))))))
abbrev Vc:MS:=
  (yj (yW 2 kI)
  (yj (yW 3 (VO zr))
  (yj (wR (WS (zb (zg ZJ (zb (zc 1) zr)) zr)) Qe Qf)
  (kc (zc 2)))))
def qD:List PV->Out PV:=QR true 7 Vc
abbrev Qg:MG:=
  (gNm 7)
abbrev Qh:MS:=
  (yj (BE 5 (mOp pIx (zc 0) (zc 7)))
  (sIf (zW (mOp (VN true) (mOp pIx (zc 2) (zc 7)) (mC .n))) (yj (sIf (mOr (zW (mOp (pIn true) (mOp pIx (zc 2) (zc 7)) (mOp pIx (zc 0) (zc 7)))) (zW (mOp (pIn false) (mOp pIx (zc 2) (zc 7)) (zc 6)))) (kc (mC (.b false))) yI)
  (uH 6 (mOp pIx (zc 2) (zc 7)))) yI))
abbrev Qi:MG:=
  (gNm 8)
abbrev Qj:MS:=
  (sIf (mOr (zW (mOp pGt (mOp zJ (mOp pIx (zc 3) (zc 7)) (mOp pIx (zc 4) (zc 8))) (mOp pIx (mOp pIx (zc 0) (zc 7)) (zc 8)))) (zW (mOp pGt (mOp pIx (zc 4) (zc 8)) (mC (.i 0))))) (kc (mC (.b false))) yI)
abbrev Qk:MG:=
  (gNm 7)
abbrev Ql:MS:=
  (yj (sIf (zW (mOp pGt (mOp pIx (zc 3) (zc 7)) (mOp pIx (zc 1) (zc 7)))) (kc (mC (.b false))) yI)
  (wR (qm 0 7) Qi Qj))
abbrev Vd:MS:=
  (yj (sIf (mOr (Jm (zW (zg ym (zb (zc 0) (zb (zc 1) zr))))) (mOr (Jm (zW (zg ym (zb (zc 0) (zb (zc 2) zr))))) (Jm (zW (zg ym (zb (zc 0) (zb (zc 3) zr))))))) (kc (mC (.b false))) yI)
  (yj (yW 5 kI)
  (yj (yW 6 (VO zr))
  (yj (wR (yb 0) Qg Qh)
  (yj (sIf (Jm (zW (zg ym (zb (zc 5) (zb (zc 4) zr))))) (kc (mC (.b false))) yI)
  (yj (wR (yb 0) Qk Ql)
  (kc (mOp (j2 false) (zg jh (zb (zc 0) (zb (zc 1) (zb (zc 2) zr)))) (zg uG (zb (mOp zJ (g6 (zc 3)) (g6 (zc 4))) zr))))))))))
def qc:List PV->Out PV:=QR false 9 Vd
abbrev Ve:MS:=
  (yj (sIf (zW (mOp (j2 false) (zc 2) (mC (.i 1)))) (kc (UH "x" ["x","X"," "] (zg j4 (zb (zc 0) (zb (zc 1) (zb (zc 3) zr)))) (zg zi (zb (zc 0) (zb (mC (.i 8)) (zb (mC (.i 3)) zr)))))) yI)
  (kc (mOp dY (mOp ZI (zc 3) (mC (.i 3))) (mC (.i 3)))))
def zQ:List PV->Out PV:=QR false 4 Ve
abbrev Jw:MS:=
  (sIf (zW (mOp pGt (zg ZJ (zb (zc 0) zr)) (zc 1))) (cj 2 ["most"] (zb (zc 1) zr)) yI)
def qd:List PV->Out PV:=QR false 2 Jw
abbrev wz:MS:=
  (yj (sIf (mOr (zW (mOp pLt (zc 0) (zc 1))) (zW (mOp pGt (zc 0) (mC (.i 1000000000))))) (cj 1 ["value"] (zb (zc 0) zr)) yI)
  (kc (zc 0)))
def yc:List PV->Out PV:=QR false 2 wz
abbrev kr:MG:=
  (gNm 0)
abbrev ky:MT:=
  f9
abbrev kz:ME:=
  (zg yh (zb (zc 1) (zb (zc 0) zr)))
abbrev Jx:MS:=
  (yj (sIf (Jm (zW (zg oQ (zb (mLC (wd (aH (zb (zc 1) (zb (zc 2) (zb (zc 3) zr))))) [none,some 0] kr ky kz) zr)))) (kc (mC (.b false))) yI)
  (yj (sIf (mOr (Jm (zW (zg yh (zb (zg y3 (zb (zc 0) zr)) (zb (zc 4) zr))))) (Jm (zW (zg z_ (zb (zc 0) (zb (zc 2) zr)))))) (kc (mC (.b false))) yI)
  (yj (sIf (Jm (zW (zg yQ (zb (zc 0) (zb (zc 1) (zb (zc 3) (zb (zc 4) zr))))))) (kc (mC (.b false))) yI)
  (yj (yW 5 (mOp zJ (gY (zc 3)) (gY (zc 4))))
  (kc (mOp (j2 false) (zc 5) (zg yk (zb (zc 0) (zb (zc 1) (zb (zc 2) zr))))))))))
def qL:List PV->Out PV:=QR false 6 Jx
abbrev Z0:HMG:=
  (hgN 6)
abbrev Z1:HMS:=
  (qt (wX 7 (hP [true,false,false,false,true,false,true] (zg zQ (zb (zc 0) (zb (mC (.i 6)) (zb (zg zi (zb (zc 0) (zb (mC (.i 3)) (zb (mC (.i 2)) zr)))) (zb (zg zi (zb (zc 0) (zb (mOp zJ (mOp zJ (mC (.i 20)) (mOp ZI (mC (.i 5)) (zc 4))) (zc 6)) (zb (mC (.i 5)) zr)))) zr)))))))
  (Wf (hIx (yn 2) (yn 5)) (yn 7) (hP [true,true,false,false,true,false,true] (zg zi (zb (zc 0) (zb (mOp zJ (mOp zJ (mC (.i 50)) (mOp ZI (mC (.i 5)) (zc 4))) (zc 6)) (zb (zc 1) zr)))))))
abbrev Z2:HMG:=
  (hgN 4)
abbrev Z3:HMS:=
  (qt (wX 5 (hP [true,false,false,false,true] (zg zQ (zb (zc 0) (zb (mC (.i 4)) (zb (zg zi (zb (zc 0) (zb (mC (.i 2)) (zb (mC (.i 2)) zr)))) (zb (zc 4) zr)))))))
  (qt (Wf (yn 2) (yn 5) (hF [] kI))
  (qt (Ux [true,false,false,false,true] (WS (zb (zg zi (zb (zc 0) (zb (mOp zJ (mC (.i 10)) (zc 4)) (zb (mC (.i 5)) zr)))) zr)) Z0 Z1)
  (Wf (yn 3) (yn 5) (hP [true,true,false,false,true] (zg zi (zb (zc 0) (zb (mOp zJ (mC (.i 80)) (zc 4)) (zb (zc 1) zr)))))))))
abbrev kY:HMS:=
  (qt (wX 1 (hP [true] (mOp pIx (VO (zb (mC (.i 4)) (zb (mC (.i 41)) (zb (mOp zJ (mOp WK (mC (.i 10)) (mC (.i 9))) (mC (.i 1))) zr)))) (zg zi (zb (zc 0) (zb (mC (.i 0)) (zb (mC (.i 3)) zr)))))))
  (qt (wX 2 (hF [] kI))
  (qt (wX 3 (hF [] kI))
  (qt (Ux [true] (WS (zb (zg zi (zb (zc 0) (zb (mC (.i 1)) (zb (mC (.i 6)) zr)))) zr)) Z2 Z3)
  (cJ (mW (ya (yn 2) (ya (yn 3) aW))))))))
def kZ:List HV->AH->HX HV:=lp 8 kY
abbrev Zh:MG:=
  (gNm 3)
abbrev Zi:MS:=
  (Uk (zg yc (zb (mOp pIx (mOp pIx (zc 0) (zc 2)) (zc 3)) (zb (mC (.i 0)) zr))))
abbrev Zj:MG:=
  (gNm 2)
abbrev Zk:MS:=
  (yj (Uk (zg yc (zb (mOp pIx (zc 1) (zc 2)) (zb (mC (.i 0)) zr))))
  (wR (qm 0 2) Zh Zi))
abbrev Qm:MS:=
  (yj (Uk (zg qd (zb (zc 0) (zb (mC (.i 40)) zr))))
  (yj (Uk (zg qd (zb (zg y3 (zb (zc 0) zr)) (zb (mC (.i 80)) zr))))
  (wR (yb 0) Zj Zk)))
def yS:List PV->Out PV:=QR false 4 Qm
abbrev Vf:HMG:=
  (hgN 8)
abbrev Zl:HMS:=
  (qt (wX 9 (hP [true,false,false,false,false,false,false,false,true] (zg zQ (zb (zc 0) (zb (mC (.i 4)) (zb (zg zi (zb (zc 0) (zb (mC (.i 2)) (zb (mC (.i 2)) zr)))) (zb (mOp zJ (mC (.i 10)) (zc 8)) zr)))))))
  (qt (wX 10 (hP [true,false,false,false,false,false,false,false,true] (zg zi (zb (zc 0) (zb (mOp zJ (mC (.i 150)) (zc 8)) (zb (mC (.i 9)) zr))))))
  (qt (Wf (yn 2) (yn 9) (hF [false,false,false,false,false,false,false,true,false,false,true] (mD1 (zc 7) (zc 10))))
  (qt (Wf (yn 3) (yn 9) (hP [true,false,false,false,false,false,false,false,true,false,true] (mOp zJ (zc 10) (mOp ZI (zg zi (zb (zc 0) (zb (mC (.i 152)) (zb (mC (.i 3)) zr)))) (mOp dY (mC (.i 1)) (zc 8))))))
  (qt (Wf (yn 4) (yn 9) (yn 7))
  (Wf (yn 5) (yn 9) (yn 10)))))))
abbrev jZ:HMS:=
  (qt (tY 5 (wY (hgN 2) (wY (hgN 3) (wY (hgN 4) (wY (hgN 5) (wY (hgN 6) mX))))) 1)
  (qt (wX 7 (hP [true] (zg zQ (zb (zc 0) (zb (mC (.i 6)) (zb (zg zi (zb (zc 0) (zb (mC (.i 3)) (zb (mC (.i 2)) zr)))) (zb (mC (.i 10)) zr)))))))
  (qt (Ux [] (WS (zb (mC (.i 2)) zr)) Vf Zl)
  (qt (Wf (yn 6) (yn 7) (hP [] (mC (.i 0))))
  (cJ (mW (ya (yn 2) (ya (yn 3) (ya (yn 4) (ya (yn 5) (ya (yn 6) aW)))))))))))
def v8:List HV->AH->HX HV:=lp 11 jZ
abbrev Qn:MG:=
  (gNm 0)
abbrev Qo:MT:=
  f9
abbrev Qp:ME:=
  (aH (zb (zc 0) (zb (zg y6 (zb (mOp pIx (zc 1) (zc 0)) zr)) zr)))
abbrev Wq:MS:=
  (yj (By (gTp 5 (wQ (gNm 2) (wQ (gNm 3) (wQ (gNm 4) (wQ (gNm 5) (wQ (gNm 6) sC)))))) (zc 0))
  (yj (yW 7 (zg y6 (zb (mLC (yb 2) [none,some 2] Qn Qo Qp) zr)))
  (yj (yW 8 (VO (zb (zg y6 (zb (zc 3) zr)) (zb (zg y6 (zb (zc 4) zr)) (zb (zg y6 (zb (zc 5) zr)) (zb (zg y6 (zb (zc 6) zr)) zr))))))
  (yj (yW 9 (zg qL (zb (zc 2) (zb (mOp pIx (zc 8) (mC (.i 0))) (zb (mOp pIx (zc 8) (mC (.i 1))) (zb (mOp pIx (zc 8) (mC (.i 2))) (zb (mOp pIx (zc 8) (mC (.i 3))) zr)))))))
  (kc (aI (mUn (Du [(.bool,true),(.int,false)]) (zc 9)) (aI (mOp (j2 false) (zc 9) (zc 1)) (aI (mOp (uJ false) (zc 2) (zc 7)) (mOp (uJ false) (zc 8) (VO (zb (zc 3) (zb (zc 4) (zb (zc 5) (zb (zc 6) zr))))))))))))))
def yz:List PV->Out PV:=QR false 10 Wq
abbrev Zm:MS:=
  (yj (By (gTp 5 (wQ (gNm 3) (wQ (gNm 4) (wQ (gNm 5) (wQ (gNm 6) (wQ (gNm 7) sC)))))) (zc 2))
  (yj (yW 8 (zg zi (zb (zc 0) (zb (zc 1) (zb (mC (.i 9)) zr)))))
  (yj (yW 9 (mOp pIx (VO (zb (mC (.i 1)) (zb (mUn Cn (mC (.i 1))) (zb (mC (.i 3)) zr)))) (zg zi (zb (zc 0) (zb (mOp zJ (zc 1) (mC (.i 1))) (zb (mC (.i 3)) zr))))))
  (yj (yW 10 (zg zQ (zb (zc 0) (zb (mC (.i 4)) (zb (zg zi (zb (zc 0) (zb (mC (.i 2)) (zb (mC (.i 2)) zr)))) (zb (mC (.i 9)) zr))))))
  (yj (yW 11 (zg zQ (zb (zc 0) (zb (mC (.i 6)) (zb (zg zi (zb (zc 0) (zb (mC (.i 3)) (zb (mC (.i 2)) zr)))) (zb (mC (.i 9)) zr))))))
  (yj (sIf (zW (mOp (j2 false) (zc 8) (mC (.i 0)))) (yj (yW 12 (mOp zJ (VO (zb (mC .n) (zb (zc 11) zr))) (zg yX (zb (zc 7) zr))))
  (yW 5 (zg zp (zb (zc 0) (zb (mOp zJ (zc 1) (mC (.i 2))) (zb (zc 5) (zb (zc 10) (zb (mOp pIx (zc 12) (zg zi (zb (zc 0) (zb (mOp zJ (zc 1) (mC (.i 4))) (zb (zg ZJ (zb (zc 12) zr)) zr))))) zr)))))))) yI)
  (yj (sIf (Ui (zW (mOp (j2 false) (zc 8) (mC (.i 1)))) (zW (mOp (j2 true) (zc 6) kI))) (yj (yW 13 (mOp pIx (zg yX (zb (zc 6) zr)) (zg zi (zb (zc 0) (zb (mOp zJ (zc 1) (mC (.i 2))) (zb (zg ZJ (zb (zc 6) zr)) zr))))))
  (yW 6 (zg zp (zb (zc 0) (zb (mOp zJ (zc 1) (mC (.i 3))) (zb (zc 6) (zb (zc 13) (zb (mOp zJ (mOp pIx (zc 6) (zc 13)) (zc 9)) zr)))))))) yI)
  (yj (sIf (Ui (zW (mOp (j2 false) (zc 8) (mC (.i 2)))) (zW (mOp (j2 true) (zc 7) kI))) (yj (yW 14 (mOp pIx (zg yX (zb (zc 7) zr)) (zg zi (zb (zc 0) (zb (mOp zJ (zc 1) (mC (.i 2))) (zb (zg ZJ (zb (zc 7) zr)) zr))))))
  (yW 7 (zg zp (zb (zc 0) (zb (mOp zJ (zc 1) (mC (.i 3))) (zb (zc 7) (zb (zc 14) (zb (mOp zJ (mOp pIx (zc 7) (zc 14)) (zc 9)) zr)))))))) yI)
  (yj (sIf (zW (mOp (j2 false) (zc 8) (mC (.i 3)))) (yW 4 (zg zp (zb (zc 0) (zb (mOp zJ (zc 1) (mC (.i 2))) (zb (zc 4) (zb (zc 10) (zb (zg yR (zb (zc 0) (zb (zc 1) zr))) zr))))))) yI)
  (yj (sIf (Ui (zW (mOp (j2 false) (zc 8) (mC (.i 4)))) (zW (mOp (j2 true) (zc 3) kI))) (yj (yW 13 (mOp pIx (zg yX (zb (zc 3) zr)) (zg zi (zb (zc 0) (zb (mOp zJ (zc 1) (mC (.i 2))) (zb (zg ZJ (zb (zc 3) zr)) zr))))))
  (yj (yW 3 (zg y6 (zb (zc 3) zr)))
  (cf 3 (zc 13) (zg zp (zb (zc 0) (zb (mOp zJ (zc 1) (mC (.i 3))) (zb (mOp pIx (zc 3) (zc 13)) (zb (zc 11) (zb (zg yR (zb (zc 0) (zb (zc 1) zr))) zr))))))))) yI)
  (yj (sIf (zW (mOp (j2 false) (zc 8) (mC (.i 5)))) (yW 7 (zg zp (zb (zc 0) (zb (mOp zJ (zc 1) (mC (.i 2))) (zb (zc 7) (zb (zc 11) (zb (mC (.i 0)) zr))))))) yI)
  (yj (sIf (Ui (zW (mOp pGt (zc 8) (mC (.i 5)))) (Ui (zW (mOp (j2 true) (zc 7) kI)) (zW (mOp (j2 true) (zc 6) kI)))) (yj (yW 7 (zg y6 (zb (zc 7) zr)))
  (yj (yW 6 (zg y6 (zb (zc 6) zr)))
  (yj (yW 14 (mOp pIx (zg yX (zb (zc 7) zr)) (zg zi (zb (zc 0) (zb (mOp zJ (zc 1) (mC (.i 2))) (zb (zg ZJ (zb (zc 7) zr)) zr))))))
  (yj (yW 13 (mOp pIx (zg yX (zb (zc 6) zr)) (zg zi (zb (zc 0) (zb (mOp zJ (zc 1) (mC (.i 3))) (zb (zg ZJ (zb (zc 6) zr)) zr))))))
  (yj (cf 7 (zc 14) (mOp zJ (mOp pIx (zc 7) (zc 14)) (zc 9)))
  (cf 6 (zc 13) (mOp dY (mOp pIx (zc 6) (zc 13)) (zc 9)))))))) yI)
  (kc (aH (zb (zc 3) (zb (zc 4) (zb (zc 5) (zb (zc 6) (zb (zc 7) zr)))))))))))))))))))
def qM:List PV->Out PV:=QR false 15 Zm
abbrev Vg:HMG:=
  (hgN 3)
abbrev Vh:HMS:=
  (W_ (W8 YF (ya (yn 2) (ya (yn 3) aW))))
abbrev Xl:HMS:=
  (qt (W_ (hP [true,true] (zg yS (zb (zc 0) (zb (zc 1) zr)))))
  (qt (wX 2 (BD 3 qb (ya (yn 0) (ya (yn 1) aW))))
  (qt (mZ 0 Vg Vh)
  (cJ (mW (ya (eP [3] "dealt" (yn 2)) (ya (eP [3] "thing_prices" (yn 2)) (ya (eP [3] "key_prices" (yn 2)) aW))))))))
def Vi:List HV->AH->HX HV:=lp 4 Xl
abbrev nK:HMG:=
  (hgN 9)
abbrev cV:HMS:=
  (qt (wX 6 (hWm [false,false,false,false,false,false,true,false,false,false] [true,false,false,false,false,false,true,false,false,true] (zg qM (zb (zc 0) (zb (mOp zJ (mC (.i 110)) (mOp ZI (mC (.i 20)) (zc 9))) (zb (zc 6) zr))))))
  (hIf (hPT [false,false,false,false,false,false,true] (Jm (zW (zg yz (zb (zc 6) (zb (zg qc (zb (mOp pIx (zc 6) (mC (.i 0))) (zb (mOp pIx (zc 6) (mC (.i 1))) (zb (mOp pIx (zc 6) (mC (.i 2))) (zb (mOp pIx (zc 6) (mC (.i 3))) (zb (mOp pIx (zc 6) (mC (.i 4))) zr)))))) zr)))))) (cJ (hP [] (mC (.b false)))) Y1))
abbrev cW:HMS:=
  (qt (An (hgT 2 (wY (hgN 1) (wY (hgN 2) mX))) (hWm [false,false,false,false,false,false,false,false,false,false] [true] (zg (vOf kZ) (zb (zc 0) zr))))
  (qt (An (hgT 3 (wY (hgN 3) (wY (hgN 4) (wY (hgN 5) mX)))) (hWm [false,false,false,false,false,false,false,false,false,false] [false,true,true] (zg (vOf Vi) (zb (zc 1) (zb (zc 2) zr)))))
  (qt (wX 6 (mW (ya (yn 1) (ya (yn 2) (ya (yn 3) (ya (yn 4) (ya (yn 5) aW)))))))
  (qt (hIf (hPT [false,false,false,false,false,false,true] (Jm (zW (zg yz (zb (zc 6) (zb (mC (.b true)) zr)))))) (cJ (hP [] (mC (.b false)))) Y1)
  (qt (wX 7 (hF [false,false,false,false,true] (zg y6 (zb (zc 4) zr))))
  (qt (Wf (yn 7) (hP [true] (zg zQ (zb (zc 0) (zb (mC (.i 4)) (zb (zg zi (zb (zc 0) (zb (mC (.i 2)) (zb (mC (.i 2)) zr)))) (zb (mC (.i 9)) zr)))))) (hP [] (mC (.i 0))))
  (qt (hIf (hPT [false,true,true,true,false,true,false,true] (Jm (zW (zg yz (zb (aH (zb (zc 1) (zb (zc 2) (zb (zc 3) (zb (zc 7) (zb (zc 5) zr)))))) (zb (mC (.b false)) zr)))))) (cJ (hP [] (mC (.b false)))) Y1)
  (qt (wX 8 (W8 v8 (ya (yn 0) (ya (yn 6) aW))))
  (qt (hIf (hPT [false,false,false,false,false,false,false,false,true] (Jm (zW (zg yz (zb (zc 8) (zb (mC (.b false)) zr)))))) (cJ (hP [] (mC (.b false)))) Y1)
  (qt (Wf (hIx (yn 8) (hP [] (mC (.i 2)))) (hP [false,false,false,false,false,false,false,false,true] (mOp pIx (zg yX (zb (mOp pIx (zc 8) (mC (.i 0))) zr)) (mUn Cn (mC (.i 1))))) (hP [] (mC .n)))
  (qt (hIf (hPT [false,false,false,false,false,false,false,false,true] (Jm (zW (zg yz (zb (zc 8) (zb (mC (.b true)) zr)))))) (cJ (hP [] (mC (.b false)))) Y1)
  (qt (hIf (hPT [true] (zW (mOp (j2 false) (zg zi (zb (zc 0) (zb (mC (.i 100)) (zb (mC (.i 3)) zr)))) (mC (.i 0))))) (wX 6 (mW (ya (yn 1) (ya (yn 2) (ya (hW [true,true] (zg qD (zb (zc 0) (zb (zc 1) zr)))) (ya (yn 4) (ya (yn 5) aW))))))) Y1)
  (qt (hIf (hPT [false,false,false,false,false,false,true] (Jm (zW (zg yz (zb (zc 6) (zb (zg qc (zb (mOp pIx (zc 6) (mC (.i 0))) (zb (mOp pIx (zc 6) (mC (.i 1))) (zb (mOp pIx (zc 6) (mC (.i 2))) (zb (mOp pIx (zc 6) (mC (.i 3))) (zb (mOp pIx (zc 6) (mC (.i 4))) zr)))))) zr)))))) (cJ (hP [] (mC (.b false)))) Y1)
  (qt (Ux [] (WS (zb (mC (.i 2)) zr)) nK cV)
  (cJ (hP [] (mC (.b true))))))))))))))))))
def pL:List HV->AH->HX HV:=lp 10 cW
def zw(T:Txt K mg a):qY P w K mg base (CXe P w) 1 a.zi a.Wu ["_law_script","_law_k","_law_many"] (lsp (WW K a) false [true,true,true] zi):=
 z5 (ms:=Wk) (S':=[1,1,1,0]) (Sb:=[]) (Sc:=[]) T.zq.F Yv rfl rfl rfl (by decide) λc A b s H E d=>
  (zk (se 3 Yv.nd ei)
   (zk (qZ (y9 VQ VR (jB rfl T.vE (za (ev 0) zf)) ei (ql _))
    (zz (se 3 Yv.nd (zI Ym Yn (ix d (ev 0) (zI Ym Yn (ev 1) (jB rfl T.vE (za (ev 0) zf)))) ei)))
    yK)
   (zz (yt (zI Ym Yn (zI r8 r9 (zI Ym Yn (zI j8 j9 (zI zB zC (zI zB zC (ev 3) (zI j8 j9 ei (ev 1))) ei) (zI zB zC ei (zI j8 j9 (ev 1) (ev 1)))) ei) ei) (ev 2))))))
def V1(T:Txt K mg a):qY P w K mg base (CXe P w) 1 a.vv a.vx ["self","most"] (CA a.kB ["most"]):=by
 refine T.VX.okX K5 (λi H Q E h=>by obtain⟨e,d,rfl,b,_⟩:=h;rw[E4,b];rfl) λf A c s H i Q E j h=>?_;obtain⟨e,d,rfl,b,g,k⟩:=h
 match d,b with
 |[v],_=>exact⟨_,WC (fm (pv 0) (pv 1) rfl),_,rfl,_,rfl,e,a.kB,.none,rfl,T.UL,T.K_,.inl ⟨g,k⟩⟩
def Vj(T:Txt K mg a):qY P w K mg base (CXe P w) 1 a.y3 a.U5 ["costs"] (lsp (WW K a) true [true] y3):=
 z5 (ms:=UM) (S':=[1,0,0,0]) (Sb:=[]) (Sc:=[]) T.yY.F ZC rfl rfl rfl (by decide) λd A b s H E c=>
  (zk (jK (i:=1) ZC.nd rfl (.inl rfl) qQ)
   (zk (Yo rfl ⟨rfl,rfl⟩ (λE=>(pv 0)) (λE=>(gn 2 ZC.nd))
    (λE=>(zz (Xe (λE=>(yT c)) rfl ⟨rfl,rfl⟩ (λE=>(pv 0)) (λE=>(pv 2)) (λE=>(gn 3 ZC.nd))
    (λE=>(zz (Wc (yT c) (pv 1) (ev 3) (q_ q0))))))))
   (zz (sA (ju rfl rfl T.kM (za (ev 1) zf))))))
def JY(T:Txt K mg a):qY P w K mg base (CXe P w) 1 a.jP a.jQ ["self","value"] (CA a.qF ["value"]):=by
 refine T.JW.okX Jd (λi H Q E h=>by obtain⟨e,d,rfl,b,_⟩:=h;rw[E4,b];rfl) λf A c s H i Q E j h=>?_;obtain⟨e,d,rfl,b,g,k⟩:=h
 match d,b with
 |[v],_=>exact⟨_,WC (fm (pv 0) (pv 1) rfl),_,rfl,_,rfl,e,a.qF,.none,rfl,T.K9,T.Y7,.inl ⟨g,k⟩⟩
def UN(T:Txt K mg a):qY P w K mg base (CXe P w) 1 a.qa a.JE ["dealing","reached","ahead"] (lsp (WW K a) false [true,true,true] qa):=
 z5 (ms:=Ju) (S':=[1,1,1,0,0,0,0,0,0]) (Sb:=[]) (Sc:=[]) T.kN.F z8 rfl rfl rfl (by decide) λd A c s H E b=>
  (zk (se 3 z8.nd (kL kK))
   (zk (oY (yi ⟨rfl,rfl⟩) rfl (xV (xT (pv 1))) (gn 4 z8.nd)
    (zk (se 5 z8.nd (ix b (KG (ev 0) (fa ⟨T.zM,T.yg⟩ fz)) (ev 4)))
   (zk (se 6 z8.nd (zI YK YO (ix b (KG (ev 0) (fa ⟨T.zM,T.kS⟩ fz)) (ev 4)) (ev 5)))
   (zk (qZ (TWM.tm (WL (y9 V8 Wb (ev 3) (kL kK) (ql _)) (Jn (y9 rA r_ (ev 6) (ix b (ev 3) ei) (ql _)))))
    (zz (se 3 z8.nd (Jl (za (zN (pv 6)) (za (zN (pv 4)) (za (kL kK) zf))))))
    yK)
   (zk (se 7 z8.nd (ix b (KG (ev 0) (fa ⟨T.zM,T.wj⟩ fz)) (ev 4)))
   (zz (Yo rfl ⟨rfl,rfl⟩ (λE=>(pv 7)) (λE=>(gn 8 z8.nd))
    (λE=>(zk (se 6 z8.nd (zI YK YO (zI YK YO (ix b (ev 7) (ev 8)) (ev 5)) (ix b (KG (ev 0) (fa ⟨T.zM,T.yC⟩ fz)) (ev 8))))
   (zz (qZ (TWM.tm (Kz (y9 rA r_ (ev 6) (ix b (ev 3) ei) (ql _)) (QY (YS (yT b) (ev 8) (ev 2)))))
    (zz (se 3 z8.nd (Jl (za (zN (pv 6)) (za (zN (pv 4)) (za (zN (pv 8)) zf))))))
    yK)))))))))))
   (zz (yt (zN (pv 3))))))
def V2(T:Txt K mg a):qY P w K mg base (CXe P w) 1 a.Qy a.QA ["dealing","reached","ahead","more"] (hsp (WW K a) 4 jz):=
 Js (ms:=jx) T.qh.F vn rfl rfl rfl λd A b s H E c=>
  (zm (tG (yi ⟨rfl,rfl⟩) rfl (zu (pv 1)) (y_ (i:=4) vn.nd rfl (.inl rfl))
    (z7 (gT (yT c) (KU (zu (pv 0)) (fa ⟨T.zM,T.yg⟩ fz)) (zu (pv 4)) (zu (pv 3)) tI)))
   (z7 (tK rfl ⟨rfl,rfl⟩ (λE=>(pv 2)) (λE=>(y_ (i:=5) vn.nd rfl (.inl rfl)))
    (λE=>(z7 (gT (yT c) (KU (zu (pv 0)) (fa ⟨T.zM,T.yC⟩ fz)) (zu (pv 5)) (zu (pv 3)) tJ))))))
def eB(T:Txt K mg a):qY P w K mg base (CXe P w) 1 a.U4 a.U6 ["dealing","thing","key","ahead"] (hsp (WW K a) 4 Wm):=
 Js (ms:=Wl) T.vF.F ZD rfl rfl rfl λd A c s H E b=>
  (z7 (cL (yi ⟨rfl,rfl⟩) (eO (S:=[0,0,0,0,0]) (fr:=false) [] (qO (q_ q0)))
    (zm (hse 4 ZD.nd (hp (As (yT b) (KG (ev 0) (fa ⟨T.zM,T.qu⟩ fz)) (ev 1) ⟨rfl,rfl,rfl,rfl⟩)))
   (zm (vD (yT b) (KU (zu (pv 0)) (fa ⟨T.zM,T.qu⟩ fz)) (zu (pv 1)) (zu (pv 2)))
   (zm (VT (eO (S:=[0,0,0,0,0]) (fr:=false) [false,false,true] (y9 ah aF (ev 2) (kL kK) (ql _)))
    (z7 (vD (yT b) (KU (zu (pv 0)) (fa ⟨T.zM,T.qk⟩ fz)) (zu (pv 2)) (zu (pv 1))))
    vi)
   (zm (VT (eO (S:=[0,0,0,0,0]) (fr:=false) [false,false,false,false,true] (y9 V8 Wb (ev 4) (kL kK) (ql _)))
    (z7 gJ)
    vi)
   (zm (hse 1 ZD.nd (hp (ix b (ev 3) (ev 4))))
   (z7 (hse 2 ZD.nd (zu (pv 4)))))))))))
def Xm(T:Txt K mg a):qY P w K mg base (CXe P w) 1 a.yQ a.QB ["costs","leaving","thing_prices","key_prices"] (lsp (WW K a) false [true,true,true,true] yQ):=
 z5 (ms:=Y8) (S':=[1,1,1,1,0,0]) (Sb:=[]) (Sc:=[]) T.jX.F vo rfl rfl rfl (by decide) λd A c s H E b=>
  (zk (qZ (qO (ph rfl rfl T.nI (za (FM.em (Wd ["key","key_prices"] [none,some 3] [0,1] rfl (by kernel_rfl) (pv 3) (λ_=>(qP (i:=0) (show List.Nodup (["key","key_prices"]:List Str)from by decide +kernel) rfl (.inl rfl))) (λ_=>Jp) (λ_=>(Ug VQ VR (ix b (ev 1) (ev 0)) ei (ql _))))) zf)))
    (zz (yt (q_ q0)))
    yK)
   (zk (Yo rfl ⟨rfl,rfl⟩ (λE=>(pv 0)) (λE=>(qP (i:=4) vo.nd rfl (by first|exact .inl rfl|exact .inr rfl)))
    (λE=>(zk (oU (i:=5) vo.nd rfl (by first|exact .inl rfl|exact .inr rfl) (ix b (ev 2) (ev 4)))
   (zk (qZ (y9 VQ VR (ev 5) (ix b (ev 1) (ev 4)) (ql _))
    (zz (yt (q_ q0)))
    yK)
   (zz (qZ (qO (ph rfl rfl T.nI (za (FM.em (h9 (yT b) ["key","price","key_prices","costs","thing"] [none,some 5,some 3,some 0,some 4] [0,0,1,1,0] rfl (by kernel_rfl) (pv 0) (pv 4) (λ_=>(qP (i:=0) (show List.Nodup (["key","price","key_prices","costs","thing"]:List Str)from by decide +kernel) rfl (.inl rfl))) (λ_=>Jp) (λ_=>(Ug VQ VR (zI zB zC (ev 1) (ix b (ev 2) (ev 0))) (ix b (ix b (ev 3) (ev 4)) (ev 0)) (ql _))))) zf)))
    (zz (yt (q_ q0)))
    yK))))))
   (zz (yt (q_ q0)))))
def Jf(T:Txt K mg a):qY P w K mg base (CXe P w) 1 a.yk a.vL ["costs","leaving","dealt"] (lsp (WW K a) false [true,true,true] yk):=
 z5 (ms:=vG) (S':=[1,1,1]) (Sb:=[]) (Sc:=[]) T.qi.F Y5 rfl rfl rfl (by decide) λd A c s H E b=>
  (zz (yt (oR rfl rfl T.eh (za (FM.em (Wd ["thing","dealt","leaving","costs"] [none,some 2,some 1,some 0] [0,1,1,1] rfl (by kernel_rfl) (pv 2) (λ_=>(qP (i:=0) (show List.Nodup (["thing","dealt","leaving","costs"]:List Str)from by decide +kernel) rfl (.inl rfl))) (λ_=>Jp) (λ_=>(Cp (y9 V8 Wb (ix b (ev 1) (ev 0)) (kL kK) (ql _)) (ix b (ev 2) (ev 0)) (ix b (ix b (ev 3) (ev 0)) (ix b (ev 1) (ev 0))))))) zf))))
def Qq(T:Txt K mg a):qY P w K mg base (CXe P w) 1 a.yh a.QC ["costs","things"] (lsp (WW K a) false [true,true] yh):=
 z5 (ms:=Y9) (S':=[1,1]) (Sb:=[]) (Sc:=[]) T.qT.F VW rfl rfl rfl (by decide) λc A b s H E d=>
  (zz (yt (nE d.units rfl rfl T.nJ (za (ev 0) zf) (za (ev 1) zf))))
def UO(T:Txt K mg a):qY P w K mg base (CXe P w) 1 a.qK a.JG ["things"] (lsp (WW K a) false [true] qK):=
 z5 (ms:=Jv) (S':=[1]) (Sb:=[]) (Sc:=[]) T.kO.F Xk rfl rfl rfl (by decide) λc A b s H E d=>
  (zz (yt (d3 d.units (tV rfl rfl T.vE rfl T.nJ (za (ev 0) zf)) (jB rfl T.vE (za (ev 0) zf)))))
def Vk(T:Txt K mg a):qY P w K mg base (CXe P w) 1 a.yR a.VC ["_law_script","_law_k"] (lsp (WW K a) false [true,true] yR):=
 z5 (ms:=Va) (S':=[1,1]) (Sb:=[]) (Sc:=[]) T.kl.F UK rfl rfl rfl (by decide) λd A b s H E c=>
  (zk (qZ (VS c.units (jB rfl T.vE (za (ev 0) zf)) ei)
    (zz (yt (zI YK YO (ev 1) ei)))
    yK)
   (zz (yt (zI YK YO (zI Ym Yn (ix c (ev 0) (zI Ym Yn (ev 1) (jB rfl T.vE (za (ev 0) zf)))) (zI j8 j9 ei (zI eY aE ei ei))) (zI eY aE ei ei)))))
def ZF(T:Txt K mg a):qY P w K mg base (CXe P w) 1 a.ym a.Wy ["_law_one","_law_other"] (lsp (WW K a) false [true,true] ym):=
 z5 (ms:=Wn) (S':=[1,1]) (Sb:=[]) (Sc:=[]) T.jg.F a8 rfl rfl rfl (by decide) λd A c s H E b=>
  (zz (yt (bZ (d3 b.units (jB rfl T.vE (za (ev 0) zf)) (jB rfl T.vE (za (ev 1) zf))) (fH (d3 b.units (FM.em (Wd ["_law_thing_here","_law_other"] [none,some 1] [0,1] rfl (by kernel_rfl) (pv 0) (λ_=>(qP (i:=0) (show List.Nodup (["_law_thing_here","_law_other"]:List Str)from by decide +kernel) rfl (.inl rfl))) (λ_=>(gb (YS (yT b) (ev 0) (ev 1)))) (λ_=>(zN (pv 0))))) (FM.em (ZO zf)))))))
def ba(T:Txt K mg a):qY P w K mg base (CXe P w) 1 a.jh a.VE ["_law_costs_here","_law_leaving","_law_given"] (lsp (WW K a) false [true,true,true] jh):=
 z5 (ms:=Vb) (S':=[1,1,1,0,0]) (Sb:=[]) (Sc:=[]) T.vX.F jD rfl rfl rfl (by decide) λd A c s H E b=>
  (zk (se 3 jD.nd ei)
   (zk (Yo rfl ⟨rfl,rfl⟩ (λE=>(pv 0)) (λE=>(gn 4 jD.nd))
    (λE=>(zz (qZ (y9 V8 Wb (ix b (ev 2) (ev 4)) (kL kK) (ql _))
    (zz (se 3 jD.nd (zI zB zC (ev 3) (ix b (ev 1) (ev 4)))))
    (zz (se 3 jD.nd (zI zB zC (ev 3) (ix b (ix b (ev 0) (ev 4)) (ix b (ev 2) (ev 4))))))))))
   (zz (yt (zN (pv 3))))))
def eC(T:Txt K mg a):qY P w K mg base (CXe P w) 2 a.j4 a.Wv ["_law_script","_law_k","_law_number"] (lsp (WW K a) false [true,true,true] j4):=
 z5 (ms:=Wo) (S':=[1,1,1,0,0]) (Sb:=[]) (Sc:=[]) T.ZE.F Yw rfl rfl rfl (by decide) λd A c s H E b=>
  (zk (se 3 Yw.nd (ec (zw T) b T.zq zE (za (ev 0) (za (ev 1) (za (EM.weak ei) zf)))))
   (zk (se 4 Yw.nd (zI zB zC (ec (zw T) b T.zq zE (za (ev 0) (za (EM.weak (zI zB zC (ev 1) ei)) (za (EM.weak (zI YK YO ei (ev 3))) zf)))) (zI Ym Yn (ev 2) ei)))
   (zz (yt (zI zB zC (zI zB zC (zI j8 j9 (fD eR) (ev 3)) (ix b (fD eR) (ev 2))) (zI j8 j9 (fD eR) (ev 4)))))))
def Vl(T:Txt K mg a):qY P w K mg base (CXe P w) 2 a.vw a.vy ["self","costs","leaving"] (hsp (WW K a) 3 qb):=
 Js (ms:=qV) T.VZ K6 rfl rfl rfl λc A b s H E d=>
  (zm (Wi (zu (pv 0)) (zu (pv 1)) (fa ⟨T.zM,T.wj⟩ fz))
   (zm (Wi (zu (pv 0)) (zu (pv 2)) (fa ⟨T.zM,T.kS⟩ fz))
   (zm (Wi (zu (pv 0)) (hf qQ) (fa ⟨T.zM,T.qu⟩ fz))
   (zm (Wi (zu (pv 0)) (hf qQ) (fa ⟨T.zM,T.qk⟩ fz))
   (zm (Wi (zu (pv 0)) (hf (qe rfl rfl T.jS (za (FM.em (Wd ["thing"] [none] [0] rfl (by kernel_rfl) (pv 1) (λ_=>(qP (i:=0) (show List.Nodup (["thing"]:List Str)from by decide +kernel) rfl (.inl rfl))) (λ_=>Jp) (λ_=>(Jl (za (zN (pv 0)) (za ei zf)))))) zf))) (fa ⟨T.zM,T.yg⟩ fz))
   (z7 (Wi (zu (pv 0)) (hf (qe rfl rfl T.jS (za (FM.em (xX ["key"] [none] [0] rfl (by kernel_rfl) (f6 (FM.em (vg (Vj T) (rm d) rfl T.yY.g T.yY.k T.yY.b zE (za (ev 1) zf)))) (λ_=>(qP (i:=0) (show List.Nodup (["key"]:List Str)from by decide +kernel) rfl (.inl rfl))) (λ_=>Jp) (λ_=>(Jl (za (zN (pv 0)) (za ei zf)))))) zf))) (fa ⟨T.zM,T.yC⟩ fz))))))))
def bc(T:Txt K mg a):qY P w K mg base (CXe P w) 2 a.Wt a.Ww ["dealing","first"] (hsp (WW K a) 2 YF):=
 Js (ms:=v7) T.j3.F kj rfl rfl rfl λd A c s H E b=>
  (zm (hse 2 kj.nd (hf (ZO (za (zN (pv 1)) zf))))
   (zm (hse 3 kj.nd (hf qQ))
   (z7 (cL (yi ⟨rfl,rfl⟩) (eO (S:=[0,0,0,0,0,0]) (fr:=false) [] (qO (q_ q0)))
    (zm (hse 4 kj.nd (hp (ec (UN T) b T.kN zE (za (ev 0) (za (ev 2) (za (ev 3) zf))))))
   (zm (Xa (W9 (V2 T) (rm b) rfl T.qh.g T.qh.k T.qh.b zE (zO (zu (pv 0)) (zO (zu (pv 2)) (zO (zu (pv 3)) (zO (hp (ix b (ev 4) ei)) ZR)))) (qS (qS (qS (qS Uw))))))
   (zm (hse 5 kj.nd (hp (ix b (ev 4) ei)))
   (zm (VT (eO (S:=[0,0,0,0,0,0]) (fr:=false) [true,false,false,false,false,true] (TWM.tm (WL (y9 V8 Wb (ev 5) (kL kK) (ql _)) (Jn (YS (yT b) (ev 5) (KG (ev 0) (fa ⟨T.zM,T.qk⟩ fz)))))))
    (zm (Xa (W9 (eB T) (rm b) rfl T.vF.g T.vF.k T.vF.b zE (zO (zu (pv 0)) (zO (hp (ix b (ev 4) ei)) (zO (zu (pv 5)) (zO (zu (pv 3)) ZR)))) (qS (qS (qS (qS Uw))))))
   (z7 gJ))
    vi)
   (zm (vD (yT b) (zu (pv 3)) (zu (pv 5)) (hp (ix b (ev 4) ei)))
   (z7 (gK (zu (pv 2)) (hp (ix b (KG (ev 0) (fa ⟨T.zM,T.qk⟩ fz)) (ev 5))))))))))))))
def Vm(T:Txt K mg a):qY P w K mg base (CXe P w) 2 a.z_ a.Zn ["costs","dealt"] (lsp (WW K a) false [true,true] z_):=
 z5 (ms:=Zg) (S':=[1,1,0]) (Sb:=[]) (Sc:=[]) T.qU.F we rfl rfl rfl (by decide) λd A c s H E b=>
  (zk (tE (j:=2) ["thing","dealt"] [none,some 1] [0,1] we.nd rfl rfl rfl (by kernel_rfl) (pv 1) (λ_=>(qP (i:=0) (show List.Nodup (["thing","dealt"]:List Str)from by decide +kernel) rfl (.inl rfl))) (λ_=>(gb (y9 ah aF (ix b (ev 1) (ev 0)) (kL kK) (ql _)))) (λ_=>(ix b (ev 1) (ev 0))))
   (zk (qZ (j_ (qO (ec (UO T) b T.kO zE (za (ev 2) zf))))
    (zz (yt (q_ q0)))
    yK)
   (zz (yt (oS rfl rfl T.nH (za (FM.em (Wd ["thing","dealt","costs"] [none,some 1,some 0] [0,1,1] rfl (by kernel_rfl) (pv 1) (λ_=>(qP (i:=0) (show List.Nodup (["thing","dealt","costs"]:List Str)from by decide +kernel) rfl (.inl rfl))) (λ_=>Jp) (λ_=>(Co (Ug V8 Wb (ix b (ev 1) (ev 0)) (kL kK) (ql _)) (fH (Cv (yT b) (ix b (ev 1) (ev 0)) (ix b (ev 2) (ev 0)))))))) zf))))))
def yA(T:Txt K mg a):qY P w K mg base (CXe P w) 2 a.zp a.wC ["_law_script","_law_k","_law_old","_law_strange","_law_value"] (lsp (WW K a) true [true,true,true,false,false] zp):=
 z5 (ms:=wy) (S':=[1,1,1,0,0,0,0,0]) (Sb:=[]) (Sc:=[]) T.zl.F qg rfl rfl rfl (by decide) λd A c s H E b=>
  (zk (jK (i:=5) qg.nd rfl (.inl rfl) (qe rfl rfl T.jS (za (ev 2) zf)))
   (zk (se 6 qg.nd (zI zB zC (FM.em (ju rfl rfl T.kM (za (ev 2) zf))) (FM.em (ZO (za (zN (pv 3)) zf)))))
   (zk (se 7 qg.nd (ix b (ev 6) (ec (zw T) b T.zq zE (za (ev 0) (za (ev 1) (za (EM.weak (jB rfl T.vE (za (ev 6) zf))) zf))))))
   (zk (qZ (TWM.tm (Kz (VS b.units (ec (zw T) b T.zq zE (za (ev 0) (za (EM.weak (zI zB zC (ev 1) ei)) (za (EM.weak ei) zf)))) ei) (QY (xG (yT b) (ev 7) (ev 5)))))
    (zz (sJ (pv 5) (ev 7) ⟨rfl,rfl,rfl,rfl⟩))
    (zz (Wc (yT b) (pv 5) (ev 7) (zN (pv 4)))))
   (zz (fX (pv 5)))))))
def bg(T:Txt K mg a):qY P w K mg base (CXe P w) 2 a.qD a.VD ["_law_script","_law_costs_here"] (lsp (WW K a) true [true,true] qD):=
 z5 (ms:=Vc) (S':=[1,1,0,0,0,0,0]) (Sb:=[]) (Sc:=[]) T.jf.F qH rfl rfl rfl (by decide) λd A c s H E b=>
  (zk (jK (i:=2) qH.nd rfl (.inl rfl) qQ)
   (zk (jK (i:=3) qH.nd rfl (by first|exact .inl rfl|exact .inr rfl) (ZO zf))
   (zk (oY (yi ⟨rfl,rfl⟩) rfl (KH rfl T.Yz (za (jB rfl T.vE (za (ev 1) zf)) zf)) (gn 4 qH.nd)
    (zk (se 5 qH.nd (ix b (FM.em (ju rfl rfl T.kM (za (ev 1) zf))) (ev 4)))
   (zk (se 6 qH.nd (zI zB zC (FM.em (ZO (za (kL kK) zf))) (FM.em (h9 (yT b) ["_law_key","_law_had","_law_script"] [none,some 3,some 0] [0,1,1] rfl (by kernel_rfl) (pv 1) (pv 5) (λ_=>(qP (i:=0) (show List.Nodup (["_law_key","_law_had","_law_script"]:List Str)from by decide +kernel) rfl (.inl rfl))) (λ_=>(gb (TWM.tm (WL (YS (yT b) (ev 0) (ev 1)) (Jn (VS b.units (ec (zw T) b T.zq oJ (za (ev 2) (za (EM.weak ei) (za (EM.weak ei) zf)))) ei)))))) (λ_=>(zN (pv 0)))))))
   (zk (Wc (yT b) (pv 2) (ev 5) (ix b (ev 6) (ec (zw T) b T.zq zE (za (ev 0) (za (EM.weak (zI zB zC ei (ev 4))) (za (EM.weak (jB rfl T.vE (za (ev 6) zf))) zf))))))
   (zz (Ul (pv 3) (ix b (ev 2) (ev 5))))))))
   (zz (fX (pv 2))))))
def Vn(T:Txt K mg a):qY P w K mg base (CXe P w) 2 a.qc a.VF ["_law_costs_here","_law_leaving","_law_given","_law_things","_law_keys"] (lsp (WW K a) false [true,true,true,true,true] qc):=
 z5 (ms:=Vd) (S':=[1,1,1,1,1,0,0,0,0]) (Sb:=[]) (Sc:=[]) T.km.F qI rfl rfl rfl (by decide) λd A c s H E b=>
  (zk (qZ (TWM.tm (WL (j_ (qO (ec (ZF T) b T.jg zE (za (ev 0) (za (ev 1) zf))))) (WL (j_ (qO (ec (ZF T) b T.jg zE (za (ev 0) (za (ev 2) zf))))) (Jn (j_ (qO (ec (ZF T) b T.jg zE (za (ev 0) (za (ev 3) zf)))))))))
    (zz (yt (q_ q0)))
    yK)
   (zk (jK (i:=5) qI.nd rfl (.inl rfl) qQ)
   (zk (jK (i:=6) qI.nd rfl (.inl rfl) (ZO zf))
   (zk (Yo rfl ⟨rfl,rfl⟩ (λE=>(pv 0)) (λE=>(gn 7 qI.nd))
    (λE=>(zk (gW (pv 5) (ix b (ev 0) (ev 7)))
   (zz (qZ (y9 ah aF (ix b (ev 2) (ev 7)) (kL kK) (ql _))
    (zk (qZ (TWM.tm (WL (YS (yT b) (ix b (ev 2) (ev 7)) (ix b (ev 0) (ev 7))) (Jn (xG (yT b) (ix b (ev 2) (ev 7)) (ev 6)))))
    (zz (yt (q_ q0)))
    yK)
   (zz (Ul (pv 6) (ix b (ev 2) (ev 7)))))
    yK)))))
   (zk (qZ (j_ (qO (ec (ZF T) b T.jg zE (za (ev 5) (za (ev 4) zf)))))
    (zz (yt (q_ q0)))
    yK)
   (zk (Yo rfl ⟨rfl,rfl⟩ (λE=>(pv 0)) (λE=>(gn 7 qI.nd))
    (λE=>(zk (qZ (y9 VQ VR (ix b (ev 3) (ev 7)) (ix b (ev 1) (ev 7)) (ql _))
    (zz (yt (q_ q0)))
    yK)
   (zz (Xe (λE=>(yT b)) rfl ⟨rfl,rfl⟩ (λE=>(pv 0)) (λE=>(pv 7)) (λE=>(gn 8 qI.nd))
    (λE=>(zz (qZ (TWM.tm (WL (y9 VQ VR (zI zB zC (ix b (ev 3) (ev 7)) (ix b (ev 4) (ev 8))) (ix b (ix b (ev 0) (ev 7)) (ev 8)) (ql _)) (Jn (y9 VQ VR (ix b (ev 4) (ev 8)) ei (ql _)))))
    (zz (yt (q_ q0)))
    yK))))))))
   (zz (yt (d3 b.units (ec (ba T) b T.vX zE (za (ev 0) (za (ev 1) (za (ev 2) zf)))) (oR rfl rfl T.eh (za (zI zB zC (FM.em (cT rfl rfl T.kM (ev 3))) (FM.em (cT rfl rfl T.kM (ev 4)))) zf)))))))))))
def qE(T:Txt K mg a):qY P w K mg base (CXe P w) 3 a.zQ a.VA ["_law_script","_law_k","_law_named","_law_number"] (lsp (WW K a) false [true,true,true,true] zQ):=
 z5 (ms:=Ve) (S':=[1,1,1,1]) (Sb:=[]) (Sc:=[]) T.yE.F UJ rfl rfl rfl (by decide) λd A c s H E b=>
  (zk (ee b.units T.st (ev 2) (ec (eC T) b T.ZE zE (za (ev 0) (za (ev 1) (za (ev 3) zf)))) (ec (zw T) b T.zq zE (za (ev 0) (za (EM.weak ei) (za (EM.weak ei) zf)))))
   (zz (yt (zI YK YO (zI j8 j9 (ev 3) ei) ei))))
def Jy(T:Txt K mg a):qY P w K mg base (CXe P w) 3 a.qd a.JD ["things","most"] (lsp (WW K a) false [true,false] qd):=
 z5 (ms:=Jw) (S':=[1,0]) (Sb:=[]) (Sc:=[]) T.jE.F Xj rfl rfl rfl (by decide) λd A b s H E e=>
  (zz (qZ (y9 VQ VR (jB rfl T.vE (za (ev 0) zf)) (ev 1) (ql _))
    (zz (ck (c:=2) rfl T.ic T.UL (V1 T) (rm e) rfl T.K7 T.VY (za (zN (pv 1)) zf)))
    yK))
def wA(T:Txt K mg a):qY P w K mg base (CXe P w) 3 a.yc a.wB ["value","least"] (lsp (WW K a) false [false,true] yc):=
 z5 (ms:=wz) (S':=[0,1]) (Sb:=[]) (Sc:=[]) T.yZ.F Je rfl rfl rfl (by decide) λd A b s H E e=>
  (zk (qZ (TWM.tm (WL (y9 rA r_ (ev 0) (ev 1) (ql _)) (Jn (y9 VQ VR (ev 0) (bY (ae (v:=.int 1000000000) rfl T.a9 ⟨_,rfl⟩)) (ql _)))))
    (zz (ck (c:=1) rfl T.a_ T.K9 (JY T) (rm e) rfl T.Yy T.JX (za (zN (pv 0)) zf)))
    yK)
   (zz (yt (zN (pv 0)))))
def UP(T:Txt K mg a):qY P w K mg base (CXe P w) 3 a.qL a.JH ["costs","leaving","dealt","thing_prices","key_prices"] (lsp (WW K a) false [true,false,false,false,true] qL):=
 z5 (ms:=Jx) (S':=[1,0,0,0,1,0]) (Sb:=[]) (Sc:=[]) T.kQ.F Y6 rfl rfl rfl (by decide) λd A c s H E b=>
  (zk (qZ (j_ (qO (oS rfl rfl T.nH (za (FM.em (xX ["things","costs"] [none,some 0] [0,1] rfl (by kernel_rfl) (f6 (Jl (za (zN (pv 1)) (za (zN (pv 2)) (za (zN (pv 3)) zf))))) (λ_=>(qP (i:=0) (show List.Nodup (["things","costs"]:List Str)from by decide +kernel) rfl (.inl rfl))) (λ_=>Jp) (λ_=>(ec (Qq T) b T.qT oJ (za (ev 1) (za (ev 0) zf)))))) zf))))
    (zz (yt (q_ q0)))
    yK)
   (zk (qZ (TWM.tm (WL (j_ (qO (ec (Qq T) b T.qT zE (za (EM.weak (FM.em (vg (Vj T) (rm b) rfl T.yY.g T.yY.k T.yY.b zE (za (ev 0) zf)))) (za (ev 4) zf))))) (Jn (j_ (qO (ec (Vm T) b T.qU zE (za (ev 0) (za (ev 2) zf))))))))
    (zz (yt (q_ q0)))
    yK)
   (zk (qZ (j_ (qO (ec (Xm T) b T.jX zE (za (ev 0) (za (ev 1) (za (ev 3) (za (ev 4) zf)))))))
    (zz (yt (q_ q0)))
    yK)
   (zk (se 5 Y6.nd (zI zB zC (gZ rfl rfl T.eh (ev 3)) (gZ rfl rfl T.eh (ev 4))))
   (zz (yt (d3 b.units (ev 5) (ec (Jf T) b T.qi zE (za (ev 0) (za (ev 1) (za (ev 2) zf)))))))))))
def UQ(T:Txt K mg a):qY P w K mg base (CXe P w) 4 a.Vz a.VB ["_law_script"] (hsp (WW K a) 1 kZ):=
 Js (ms:=kY) T.je.F yL rfl rfl rfl λd A c s H E b=>
  (zm (hse 1 yL.nd (hp (ix b (FM.em (ZO (za ei (za ei (za (zI zB zC (zI eY aE ei ei) ei) zf))))) (ec (zw T) b T.zq zE (za (ev 0) (za (EM.weak ei) (za (EM.weak ei) zf)))))))
   (zm (hse 2 yL.nd (hf qQ))
   (zm (hse 3 yL.nd (hf qQ))
   (zm (Xb (S:=[0,0,0,0,0,0,0,0]) (fr:=false) [true] (yi ⟨rfl,rfl⟩) rfl (KH rfl T.Yz (za (ec (zw T) b T.zq zE (za (ev 0) (za (EM.weak ei) (za (EM.weak ei) zf)))) zf)) (y_ (i:=4) yL.nd rfl (.inl rfl))
    (zm (hse 5 yL.nd (hp (ec (qE T) b T.yE zE (za (ev 0) (za (EM.weak ei) (za (EM.weak (ec (zw T) b T.zq zE (za (ev 0) (za (EM.weak ei) (za (EM.weak ei) zf))))) (za (ev 4) zf)))))))
   (zm (vD (yT b) (zu (pv 2)) (zu (pv 5)) (hf qQ))
   (zm (Xb (S:=[0,0,0,0,0,0,0,0]) (fr:=false) [true,false,false,false,true] (yi ⟨rfl,rfl⟩) rfl (KH rfl T.Yz (za (ec (zw T) b T.zq zE (za (ev 0) (za (EM.weak (zI zB zC ei (ev 4))) (za (EM.weak ei) zf)))) zf)) (y_ (i:=6) yL.nd rfl (.inl rfl))
    (zm (hse 7 yL.nd (hp (ec (qE T) b T.yE zE (za (ev 0) (za (EM.weak ei) (za (EM.weak (ec (zw T) b T.zq zE (za (ev 0) (za (EM.weak ei) (za (EM.weak ei) zf))))) (za (EM.weak (ec (zw T) b T.zq zE (za (ev 0) (za (EM.weak (zI zB zC (zI zB zC ei (zI j8 j9 ei (ev 4))) (ev 6))) (za (EM.weak ei) zf))))) zf)))))))
   (z7 (vD (yT b) (Aj (yT b) (zu (pv 2)) (zu (pv 5))) (zu (pv 7)) (hp (ec (zw T) b T.zq zE (za (ev 0) (za (EM.weak (zI zB zC (zI zB zC ei (zI j8 j9 ei (ev 4))) (ev 6))) (za (ev 1) zf)))))))))
   (z7 (vD (yT b) (zu (pv 3)) (zu (pv 5)) (hp (ec (zw T) b T.zq zE (za (ev 0) (za (EM.weak (zI zB zC ei (ev 4))) (za (ev 1) zf)))))))))))
   (z7 (ZS (Uv (zO (zu (pv 2)) (zO (zu (pv 3)) ZR)))))))))
def Xn(T:Txt K mg a):qY P w K mg base (CXe P w) 4 a.yS a.Qz ["costs","leaving"] (lsp (WW K a) false [true,true] yS):=
 z5 (ms:=Qm) (S':=[1,1,0,0]) (Sb:=[]) (Sc:=[]) T.jW.F vm rfl rfl rfl (by decide) λd A c s H E b=>
  (zk (WQ (ec (Jy T) b T.jE zE (za (ev 0) (za (bY (ae (v:=.int 40) rfl T.vW ⟨_,rfl⟩)) zf))))
   (zk (WQ (ec (Jy T) b T.jE zE (za (EM.weak (FM.em (vg (Vj T) (rm b) rfl T.yY.g T.yY.k T.yY.b zE (za (ev 0) zf)))) (za (bY (ae (v:=.int 80) rfl T.Yx ⟨_,rfl⟩)) zf))))
   (zz (Yo rfl ⟨rfl,rfl⟩ (λE=>(pv 0)) (λE=>(gn 2 vm.nd))
    (λE=>(zk (WQ (ec (wA T) b T.yZ zE (za (ix b (ev 1) (ev 2)) (za (EM.weak ei) zf))))
   (zz (Xe (λE=>(yT b)) rfl ⟨rfl,rfl⟩ (λE=>(pv 0)) (λE=>(pv 2)) (λE=>(gn 3 vm.nd))
    (λE=>(zz (WQ (ec (wA T) b T.yZ zE (za (ix b (ix b (ev 0) (ev 2)) (ev 3)) (za (EM.weak ei) zf))))))))))))))
def Xo(T:Txt K mg a):qY P w K mg base (CXe P w) 4 a.JC a.JF ["_law_script","_law_papers"] (hsp (WW K a) 2 v8):=
 Js (ms:=jZ) T.qJ.F z9 rfl rfl rfl λd A c s H E b=>
  (zm (nG (n:=5) rfl (by kernel_rfl) (pv 1) (λ_ _ _ _ _=>ag (i:=0) (show List.Nodup (["_law_one"]:List Str)from by decide +kernel) rfl (.inl rfl)) (λ_ _ _ _ _=>wL We rfl T.jS a2w (ve (pv 0) YL)) (jw (y_ (i:=2) z9.nd rfl (.inl rfl)) (jw (y_ (i:=3) z9.nd rfl (.inl rfl)) (jw (y_ (i:=4) z9.nd rfl (.inl rfl)) (jw (y_ (i:=5) z9.nd rfl (.inl rfl)) (jw (y_ (i:=6) z9.nd rfl (.inl rfl)) aX))))))
   (zm (hse 7 z9.nd (hp (ec (qE T) b T.yE zE (za (ev 0) (za (EM.weak ei) (za (EM.weak (ec (zw T) b T.zq zE (za (ev 0) (za (EM.weak ei) (za (EM.weak ei) zf))))) (za (EM.weak ei) zf)))))))
   (zm (Xb (S:=[0,0,0,0,0,0,0,0,0,0,0]) (fr:=false) [] (yi ⟨rfl,rfl⟩) rfl (KH rfl T.Yz (za ei zf)) (y_ (i:=8) z9.nd rfl (.inl rfl))
    (zm (hse 9 z9.nd (hp (ec (qE T) b T.yE zE (za (ev 0) (za (EM.weak ei) (za (EM.weak (ec (zw T) b T.zq zE (za (ev 0) (za (EM.weak ei) (za (EM.weak ei) zf))))) (za (EM.weak (zI zB zC ei (ev 8))) zf)))))))
   (zm (hse 10 z9.nd (hp (ec (zw T) b T.zq zE (za (ev 0) (za (EM.weak (zI zB zC ei (ev 8))) (za (EM.weak ei) zf))))))
   (zm (vD (yT b) (zu (pv 2)) (zu (pv 9)) (hf (CQ (ev 7) (ev 10))))
   (zm (vD (yT b) (zu (pv 3)) (zu (pv 9)) (hp (zI zB zC (ev 10) (zI j8 j9 (ec (zw T) b T.zq zE (za (ev 0) (za (EM.weak ei) (za (EM.weak ei) zf)))) (zI YK YO ei (ev 8))))))
   (zm (vD (yT b) (zu (pv 4)) (zu (pv 9)) (zu (pv 7)))
   (z7 (vD (yT b) (zu (pv 5)) (zu (pv 9)) (zu (pv 10))))))))))
   (zm (vD (yT b) (zu (pv 6)) (zu (pv 7)) (hp ei))
   (z7 (ZS (Uv (zO (zu (pv 2)) (zO (zu (pv 3)) (zO (zu (pv 4)) (zO (zu (pv 5)) (zO (zu (pv 6)) ZR))))))))))))
def j5(T:Txt K mg a):qY P w K mg base (CXe P w) 4 a.yz a.Wx ["_law_papers","_law_due"] (lsp (WW K a) false [false,true] yz):=
 z5 (ms:=Wq) (S':=[0,1,0,0,0,0,0,0,0,0]) (Sb:=[]) (Sc:=[]) T.qj.F yP rfl rfl rfl (by decide) λcdv A outer s H E hr=>
  (zk (oX (zN (pv 0)) (oW (n:=5) rfl (vh (qP (i:=2) yP.nd rfl (by first|exact .inl rfl|exact .inr rfl)) (vh (gn 3 yP.nd) (vh (gn 4 yP.nd) (vh (gn 5 yP.nd) (vh (gn 6 yP.nd) oV ZP) ZP) ZP) ZP) ZP)))
   (zk (se 7 yP.nd (FM.em (qe rfl rfl T.jS (za (FM.em (Wd ["_law_thing_here","_law_costs_here"] [none,some 2] [0,0] rfl (by kernel_rfl) (pv 2) (λ_=>(qP (i:=0) (show List.Nodup (["_law_thing_here","_law_costs_here"]:List Str)from by decide +kernel) rfl (.inl rfl))) (λ_=>Jp) (λ_=>(Jl (za (zN (pv 0)) (za (FM.em (qe rfl rfl T.jS (za (ix hr (ev 1) (ev 0)) zf))) zf)))))) zf))))
   (zk (se 8 yP.nd (FM.em (ZO (za (FM.em (qe rfl rfl T.jS (za (ev 3) zf))) (za (FM.em (qe rfl rfl T.jS (za (ev 4) zf))) (za (FM.em (qe rfl rfl T.jS (za (ev 5) zf))) (za (FM.em (qe rfl rfl T.jS (za (ev 6) zf))) zf)))))))
   (zk (se 9 yP.nd (ec (UP T) hr T.kQ zE (za (ev 2) (za (ix hr (ev 8) ei) (za (ix hr (ev 8) ei) (za (ix hr (ev 8) ei) (za (EM.weak (ix hr (ev 8) ei)) zf)))))))
   (zz (yt (bZ (xP rfl T.Zb (ev 9) (ri rfl T.ia PyProof.Rows.Boot.«bool» (v:=.ty "bool") rfl) rfl ⟨⟨trivial,T.Zc⟩,⟨⟨trivial,T.YA⟩,trivial⟩⟩) (bZ (d3 hr.units (ev 9) (ev 1)) (bZ (pJ hr.units (aU (ev 2)) (aU (ev 7))) (fH (pJ hr.units (aU (ev 8)) (Aa (W0 (aU (ev 3)) (W0 (aU (ev 4)) (W0 (aU (ev 5)) (W0 (aU (ev 6)) x_))))))))))))))))
def UR(T:Txt K mg a):qY P w K mg base (CXe P w) 4 a.qM a.JI ["_law_script","_law_k","_law_papers"] (lsp (WW K a) false [true,true,false] qM):=
 z5 (ms:=Zm) (S':=[1,1,0,0,0,0,0,0,0,0,0,0,0,0,0]) (Sb:=[]) (Sc:=[]) T.kR.F zo rfl rfl rfl (by decide) λd A c s H E b=>
  (zk (oX (zN (pv 2)) (oW (n:=5) rfl (vh (gn 3 zo.nd) (vh (gn 4 zo.nd) (vh (gn 5 zo.nd) (vh (gn 6 zo.nd) (vh (gn 7 zo.nd) oV ZP) ZP) ZP) ZP) ZP)))
   (zk (se 8 zo.nd (ec (zw T) b T.zq zE (za (ev 0) (za (ev 1) (za (EM.weak ei) zf)))))
   (zk (se 9 zo.nd (ix b (FM.em (ZO (za ei (za (xw ot oK ei) (za ei zf))))) (ec (zw T) b T.zq zE (za (ev 0) (za (EM.weak (zI zB zC (ev 1) ei)) (za (EM.weak ei) zf))))))
   (zk (se 10 zo.nd (ec (qE T) b T.yE zE (za (ev 0) (za (EM.weak ei) (za (EM.weak (ec (zw T) b T.zq zE (za (ev 0) (za (EM.weak ei) (za (EM.weak ei) zf))))) (za (EM.weak ei) zf))))))
   (zk (se 11 zo.nd (ec (qE T) b T.yE zE (za (ev 0) (za (EM.weak ei) (za (EM.weak (ec (zw T) b T.zq zE (za (ev 0) (za (EM.weak ei) (za (EM.weak ei) zf))))) (za (EM.weak ei) zf))))))
   (zk (qZ (VS b.units (ev 8) ei)
    (zk (se 12 zo.nd (zI zB zC (FM.em (ZO (za (kL kK) (za (zN (pv 11)) zf)))) (FM.em (ju rfl rfl T.kM (za (ev 7) zf)))))
   (zz (se 5 zo.nd (FM.em (vg (yA T) (rm b) rfl T.zl.g T.zl.k T.zl.b zE (za (ev 0) (za (EM.weak (zI zB zC (ev 1) ei)) (za (ev 5) (za (zN (pv 10)) (za (ix b (ev 12) (ec (zw T) b T.zq zE (za (ev 0) (za (EM.weak (zI zB zC (ev 1) ei)) (za (EM.weak (jB rfl T.vE (za (ev 12) zf))) zf))))) zf))))))))))
    yK)
   (zk (qZ (TWM.tm (Kz (VS b.units (ev 8) ei) (QY (fL b.units (ev 6) (FM.em qQ)))))
    (QZ (S1:=[1,1,0,0,0,0,2,0,0,0,0,0,0,0,0]) 6 (zk (se 13 zo.nd (ix b (FM.em (ju rfl rfl T.kM (za (ev 6) zf))) (ec (zw T) b T.zq zE (za (ev 0) (za (EM.weak (zI zB zC (ev 1) ei)) (za (EM.weak (jB rfl T.vE (za (ev 6) zf))) zf))))))
   (zz (jK (i:=6) zo.nd rfl (.inl rfl) (vg (yA T) (rm b) rfl T.zl.g T.zl.k T.zl.b zE (za (ev 0) (za (EM.weak (zI zB zC (ev 1) ei)) (za (ev 6) (za (zN (pv 13)) (za (zI zB zC (ix b (ev 6) (ev 13)) (ev 9)) zf))))))))))
    yK)
   (zk (qZ (TWM.tm (Kz (VS b.units (ev 8) ei) (QY (fL b.units (ev 7) (FM.em qQ)))))
    (QZ (S1:=[1,1,0,0,0,0,0,2,0,0,0,0,0,0,0]) 7 (zk (se 14 zo.nd (ix b (FM.em (ju rfl rfl T.kM (za (ev 7) zf))) (ec (zw T) b T.zq zE (za (ev 0) (za (EM.weak (zI zB zC (ev 1) ei)) (za (EM.weak (jB rfl T.vE (za (ev 7) zf))) zf))))))
   (zz (jK (i:=7) zo.nd rfl (.inl rfl) (vg (yA T) (rm b) rfl T.zl.g T.zl.k T.zl.b zE (za (ev 0) (za (EM.weak (zI zB zC (ev 1) ei)) (za (ev 7) (za (zN (pv 14)) (za (zI zB zC (ix b (ev 7) (ev 14)) (ev 9)) zf))))))))))
    yK)
   (zk (qZ (VS b.units (ev 8) ei)
    (zz (se 4 zo.nd (FM.em (vg (yA T) (rm b) rfl T.zl.g T.zl.k T.zl.b zE (za (ev 0) (za (EM.weak (zI zB zC (ev 1) ei)) (za (ev 4) (za (zN (pv 10)) (za (ec (Vk T) b T.kl zE (za (ev 0) (za (ev 1) zf))) zf)))))))))
    yK)
   (zk (qZ (TWM.tm (Kz (VS b.units (ev 8) ei) (QY (fL b.units (ev 3) (FM.em qQ)))))
    (QZ (S1:=[1,1,0,2,0,0,0,0,0,0,0,0,0,0,0]) 3 (zk (se 13 zo.nd (ix b (FM.em (ju rfl rfl T.kM (za (ev 3) zf))) (ec (zw T) b T.zq zE (za (ev 0) (za (EM.weak (zI zB zC (ev 1) ei)) (za (EM.weak (jB rfl T.vE (za (ev 3) zf))) zf))))))
   (zk (jK (i:=3) zo.nd rfl (.inl rfl) (qe rfl rfl T.jS (za (ev 3) zf)))
   (zz (Wc (yT b) (pv 3) (ev 13) (FM.em (vg (yA T) (rm b) rfl T.zl.g T.zl.k T.zl.b zE (za (ev 0) (za (EM.weak (zI zB zC (ev 1) ei)) (za (EM.weak (ix b (ev 3) (ev 13))) (za (zN (pv 11)) (za (ec (Vk T) b T.kl zE (za (ev 0) (za (ev 1) zf))) zf))))))))))))
    yK)
   (zk (qZ (VS b.units (ev 8) ei)
    (QZ (S1:=[1,1,0,0,0,0,0,2,0,0,0,0,0,0,0]) 7 (zz (jK (i:=7) zo.nd rfl (.inl rfl) (vg (yA T) (rm b) rfl T.zl.g T.zl.k T.zl.b zE (za (ev 0) (za (EM.weak (zI zB zC (ev 1) ei)) (za (ev 7) (za (zN (pv 11)) (za ei zf)))))))))
    yK)
   (zk (qZ (TWM.tm (Kz (y9 VQ VR (ev 8) ei (ql _)) (Kz (fL b.units (ev 7) (FM.em qQ)) (QY (fL b.units (ev 6) (FM.em qQ))))))
    (QZ (S1:=[1,1,0,0,0,0,0,2,0,0,0,0,0,0,0]) 7 (QZ (S1:=[1,1,0,0,0,0,2,2,0,0,0,0,0,0,0]) 6 (zk (jK (i:=7) zo.nd rfl (.inl rfl) (qe rfl rfl T.jS (za (ev 7) zf)))
   (zk (jK (i:=6) zo.nd rfl (.inl rfl) (qe rfl rfl T.jS (za (ev 6) zf)))
   (zk (se 14 zo.nd (ix b (FM.em (ju rfl rfl T.kM (za (ev 7) zf))) (ec (zw T) b T.zq zE (za (ev 0) (za (EM.weak (zI zB zC (ev 1) ei)) (za (EM.weak (jB rfl T.vE (za (ev 7) zf))) zf))))))
   (zk (se 13 zo.nd (ix b (FM.em (ju rfl rfl T.kM (za (ev 6) zf))) (ec (zw T) b T.zq zE (za (ev 0) (za (EM.weak (zI zB zC (ev 1) ei)) (za (EM.weak (jB rfl T.vE (za (ev 6) zf))) zf))))))
   (zk (Wc (yT b) (pv 7) (ev 14) (zI zB zC (ix b (ev 7) (ev 14)) (ev 9)))
   (zz (Wc (yT b) (pv 6) (ev 13) (zI YK YO (ix b (ev 6) (ev 13)) (ev 9)))))))))))
    yK)
   (zz (yt (Jl (za (zN (pv 3)) (za (zN (pv 4)) (za (zN (pv 5)) (za (zN (pv 6)) (za (zN (pv 7)) zf))))))))))))))))))))
def t6(T:Txt K mg a):qY P w K mg base (CXe P w) 5 a.p_ a.rg ["costs","leaving"] (hsp (WW K a) 2 Vi):=
 Js (ms:=Xl) T.Wj.F a7 rfl rfl rfl λf A d s H E b=>
  (zm (Xa (hp (ec (Xn T) b T.jW zE (za (ev 0) (za (ev 1) zf)))))
   (zm (hse 2 a7.nd (m7 (c:=3) T.eA (Vl T) (rm b) rfl T.K8 T.V0 zE (zO (zu (pv 0)) (zO (zu (pv 1)) ZR)) (λj G g h e=>G8 (·+1) ((qS (qS Uw)) j G g h e))))
   (zm (tD rfl ⟨rfl,rfl⟩ (λE=>(pv 0)) (λE=>(y_ (i:=3) a7.nd rfl (.inl rfl)))
    (λE=>(z7 (Xa (W9 (bc T) (rm b) rfl T.j3.g T.j3.k T.j3.b zE (zO (zu (pv 2)) (zO (zu (pv 3)) ZR)) (qS (qS Uw)))))))
   (z7 (ZS (Uv (zO (KU (zu (pv 2)) (fa ⟨T.zM,T.qu⟩ fz)) (zO (KU (zu (pv 2)) (fa ⟨T.zM,T.yg⟩ fz)) (zO (KU (zu (pv 2)) (fa ⟨T.zM,T.yC⟩ fz)) ZR)))))))))
def AJ(T:Txt K mg a):qY P w K mg base (CXe P w) 6 a.Bm a.Bn ["_law_script"] (hsp (WW K a) 1 pL):=
 Js (ms:=cW) T.ib.F wg rfl rfl rfl λd A c s H E b=>
  (zm (pE (tP (fr:=false) [false,false,false,false,false,false,false,false,false,false] [true] (aP (fr:=false) (gO (ws:=[true]) (UQ T) rfl) (rm b) rfl T.je.g T.je.k T.je.b zE (za (ev 0) zf))) (pD (n:=2) rfl (jw (y_ (i:=1) wg.nd rfl (.inl rfl)) (jw (y_ (i:=2) wg.nd rfl (.inl rfl)) aX))))
   (zm (pE (tP (fr:=false) [false,false,false,false,false,false,false,false,false,false] [false,true,true] (aP (fr:=false) (gO (ws:=[true,true]) (t6 T) rfl) (rm b) rfl T.Wj.g T.Wj.k T.Wj.b zE (za (ev 1) (za (ev 2) zf)))) (pD (n:=3) rfl (jw (y_ (i:=3) wg.nd rfl (.inl rfl)) (jw (y_ (i:=4) wg.nd rfl (.inl rfl)) (jw (y_ (i:=5) wg.nd rfl (.inl rfl)) aX)))))
   (zm (hse 6 wg.nd (Uv (zO (zu (pv 1)) (zO (zu (pv 2)) (zO (zu (pv 3)) (zO (zu (pv 4)) (zO (zu (pv 5)) ZR)))))))
   (zm (VT (eO (S:=FJ) (fr:=false) [false,false,false,false,false,false,true] (j_ (qO (ec (j5 T) b T.qj zE (za (zN (pv 6)) (za (EM.weak (q_ q0)) zf))))))
    (z7 (ZS (hp (q_ q0))))
    vi)
   (zm (hse 7 wg.nd (hf (qe rfl rfl T.jS (za (ev 4) zf))))
   (zm (vD (yT b) (zu (pv 7)) (hp (ec (qE T) b T.yE zE (za (ev 0) (za (EM.weak ei) (za (EM.weak (ec (zw T) b T.zq zE (za (ev 0) (za (EM.weak ei) (za (EM.weak ei) zf))))) (za (EM.weak ei) zf)))))) (hp ei))
   (zm (VT (eO (S:=FJ) (fr:=false) [false,true,true,true,false,true,false,true] (j_ (qO (ec (j5 T) b T.qj zE (za (Jl (za (zN (pv 1)) (za (zN (pv 2)) (za (zN (pv 3)) (za (zN (pv 7)) (za (zN (pv 5)) zf)))))) (za (EM.weak (q_ q0)) zf))))))
    (z7 (ZS (hp (q_ q0))))
    vi)
   (zm (hse 8 wg.nd (W9 (Xo T) (rm b) rfl T.qJ.g T.qJ.k T.qJ.b zE (zO (zu (pv 0)) (zO (zu (pv 6)) ZR)) (qS (qS Uw))))
   (zm (VT (eO (S:=FJ) (fr:=false) [false,false,false,false,false,false,false,false,true] (j_ (qO (ec (j5 T) b T.qj zE (za (zN (pv 8)) (za (EM.weak (q_ q0)) zf))))))
    (z7 (ZS (hp (q_ q0))))
    vi)
   (zm (vD (yT b) (Aj (yT b) (zu (pv 8)) (hp ei)) (hp (ix b (FM.em (ju rfl rfl T.kM (za (ix b (ev 8) ei) zf))) (xw ot oK ei))) (hp (kL kK)))
   (zm (VT (eO (S:=FJ) (fr:=false) [false,false,false,false,false,false,false,false,true] (j_ (qO (ec (j5 T) b T.qj zE (za (zN (pv 8)) (za (EM.weak (q_ q0)) zf))))))
    (z7 (ZS (hp (q_ q0))))
    vi)
   (zm (VT (eO (S:=FJ) (fr:=false) [true] (VS b.units (ec (zw T) b T.zq zE (za (ev 0) (za (EM.weak ei) (za (EM.weak ei) zf)))) ei))
    (z7 (hse 6 wg.nd (Uv (zO (zu (pv 1)) (zO (zu (pv 2)) (zO (Ec (S:=[1,1,1,1,1,1,1,1,1,1]) (fr:=false) [true,true] (FM.em (vg (bg T) (rm b) rfl T.jf.g T.jf.k T.jf.b zE (za (ev 0) (za (ev 1) zf))))) (zO (zu (pv 4)) (zO (zu (pv 5)) ZR))))))))
    vi)
   (zm (VT (eO (S:=FJ) (fr:=false) [false,false,false,false,false,false,true] (j_ (qO (ec (j5 T) b T.qj zE (za (zN (pv 6)) (za (EM.weak (ec (Vn T) b T.km zE (za (EM.weak (ix b (ev 6) ei)) (za (EM.weak (ix b (ev 6) ei)) (za (EM.weak (ix b (ev 6) ei)) (za (EM.weak (ix b (ev 6) ei)) (za (EM.weak (ix b (ev 6) ei)) zf))))))) zf))))))
    (z7 (ZS (hp (q_ q0))))
    vi)
   (zm (Xb (S:=FJ) (fr:=false) [] (yi ⟨rfl,rfl⟩) rfl (KH rfl T.Yz (za ei zf)) (y_ (i:=9) wg.nd rfl (.inl rfl))
    (zm (hse 6 wg.nd (tP (fr:=false) [false,false,false,false,false,false,true,false,false,false] [true,false,false,false,false,false,true,false,false,true] (ec (UR T) b T.kR zE (za (ev 0) (za (EM.weak (zI zB zC ei (zI j8 j9 ei (ev 9)))) (za (zN (pv 6)) zf))))))
   (z7 (VT (eO (S:=FJ) (fr:=false) [false,false,false,false,false,false,true] (j_ (qO (ec (j5 T) b T.qj zE (za (zN (pv 6)) (za (EM.weak (ec (Vn T) b T.km zE (za (EM.weak (ix b (ev 6) ei)) (za (EM.weak (ix b (ev 6) ei)) (za (EM.weak (ix b (ev 6) ei)) (za (EM.weak (ix b (ev 6) ei)) (za (EM.weak (ix b (ev 6) ei)) zf))))))) zf))))))
    (z7 (ZS (hp (q_ q0))))
    vi))))
   (z7 (ZS (hp (q_ q0))))))))))))))))))
def zj(d:a ρ=.ok x)(c:b ρ=.ok y)(h:f x y=.ok z):mOp f a b ρ=.ok z:=by unfold mOp;rw[d,okb,c,okb,h]
def zy(h:ms ρ=.ok xs)(a:f xs=.ok x):zg f ms ρ=.ok x:=by unfold zg;rw[h,okb,a]
def zx(b:a ρ=.ok x)(h:ms ρ=.ok xs):zb a ms ρ=.ok (x::xs):=by unfold zb;rw[b,okb,h,okb]
def Xp(h:ms ρ=.ok xs)(a:xs.length<=sizeLine):VO ms ρ=.ok (.l xs):=by unfold VO;rw[h,okb,if_pos a]
def t7(b:a ρ=.ok (.i x))(hn:0<n):mOp QX a (mC (.i n)) ρ=.ok (.i (x % n)):=zj b rfl (Uo hn)
def CV(b:a ρ=.ok (.i x))(hn:0<n)(c:n<1073741824):mOp fG a (mC (.i n)) ρ=.ok (.i (x / n)):=zj b rfl (xY hn c)
def vH(b:a ρ=.ok (.i x)):zW (mOp (j2 false) a (mC (.i n))) ρ=.ok (decide (x=n)):=by unfold zW;rw[zj (z:=.b (decide (x=n))) b rfl (gj.trans (by rw[P1]))];rfl
def cX(b:a ρ=.ok (.i x)):zW (mOp pGt a (mC (.i n))) ρ=.ok (decide (x>n)):=by unfold zW;rw[zj (z:=.b (decide (x>n))) b rfl rfl];rfl
def Vo(d:a ρ=.ok x)(c:b ρ=.ok y):Ui a b ρ=.ok (x&&y):=by
 unfold Ui;rw[d,okb];cases x
 .rfl
 .rw[if_pos rfl,c];rfl
def zY(h:c ρ=.ok x):sIf c a b ρ=if x=true then a ρ else b ρ:=by unfold sIf;rw[h,okb]
def vq(h:m ρ=.ok x):kc m ρ=.ok (.rt x):=by unfold kc;rw[h,okb]
def zP(h:m ρ=.ok (.b b)):zW m ρ=.ok b:=by unfold zW;rw[h];rfl
def V3(d:a ρ=.ok x)(c:b ρ=.ok y):mOr a b ρ=.ok (x||y):=by
 unfold mOr;rw[d,okb];cases x
 .rw[if_neg F6,c];rfl
 .rfl
def jT(b:a ρ=.ok x):Jm a ρ=.ok (!x):=by unfold Jm;rw[b,okb]
def Xq(d:a ρ=.ok (.b x))(c:b ρ=.ok (.b y)):aI a b ρ=.ok (.b (x&&y)):=by
 unfold aI;rw[d,okb];show(Out.ok x).bind _=_;rw[okb];cases x
 .rfl
 .rw[if_pos rfl,c];rfl
def bj(h:ms ρ=.ok xs)(a:xs.length<=sizeLine):aH ms ρ=.ok (.t xs):=by unfold aH;rw[h,okb,if_pos a]
def zv(h:p ρ G=.nx ρ' G')(a:q ρ' G'=o):qt p q ρ G=o:=by unfold qt;rw[h];exact a
def ie(h:p ρ G=.rt x G'):qt p q ρ G=.rt x G':=by unfold qt;rw[h]
def eD(h:c ρ G=.ok false G'):hIf c p q ρ G=q ρ G':=by unfold hIf;rw[h];rfl
def nM(h:c ρ G=.ok true G'):hIf c p q ρ G=p ρ G':=by unfold hIf;rw[h];rfl
def Qr(a:Q5 bs ρ=some r)(c:m r=.ok b):hPT bs m ρ G=.ok b G:=by unfold hPT;rw[a];dsimp only;rw[c]
def Vp(a:Q5 bs ρ=none)(d:QS G bs ρ=some r)(c:m r=.ok b):hPT bs m ρ G=.ok b G:=by unfold hPT;rw[a,d];dsimp only;rw[c]
def bo(a:Q5 bs ρ=some r)(b:m r=.ok x):hP bs m ρ G=.ok (.v x) G:=by unfold hP;rw[a];dsimp only;rw[b]
def yF(h:m ρ G=.ok x G'):wX i m ρ G=.nx (ρ.set i (some x)) G':=by unfold wX;rw[h];rfl
def ig(h:m ρ G=.ok x G'):cJ m ρ G=.rt x G':=by unfold cJ;rw[h];rfl
def uK:QS G bs []=some []:=by cases bs<;>rfl
def AK(h:QS G [] ρ=some r):QS G [] (a::ρ)=some (none::r):=by show(QS G [] ρ).map _=_;rw[h];rfl
def vt(h:QS G bs ρ=some r):QS G (false::bs) (a::ρ)=some (none::r):=by show(QS G bs ρ).map _=_;rw[h];rfl
def V4(a:kG G 8 x=some y)(h:QS G bs ρ=some r):QS G (true::bs) (some x::ρ)=some (some y::r):=by show(kG G 8 x).bind _=_;rw[a,h];rfl
def DH(h:a.length+b.length<=n)(hn:n<=100000):zJ (.s a) (.s b)=.ok (.s (a++b)):=by have:a.length+b.length<=sizeLine:=F9 (F9 h hn) (by decide);unfold zJ;simp only[this,if_true]
def ij(a:0<=i)(b:i<xs.length):pIx (.l xs) (.i i)=.ok (xs[i.toNat]'(by omega)):=by rw[xZ,cm a,E1 (by omega)];rfl
def AL{xs:EW}{i:Int}(a:0<=i)(b:i<xs.length):∃y∈xs,pIx (.l (xs.map .i)) (.i i)=.ok (.i y):=
 ⟨xs[i.toNat]'(by omega),O4 _,by rw[ij a (by rw[u8];exact b),a0m]⟩
section Pure
variable {κ:Type}[DecidableEq κ]
structure Pb(κ:Type)where
 T:List κ
 row:κ->List κ
 c:κ->κ->Int
 L:κ->Int
structure Fe(p:Pb κ)(f g:κ->Int)(ow:List (κ×κ)):Prop where
 le:∀t∈p.T,f t<=p.L t
 pr:∀t∈p.T,∀k∈p.row t,f t+g k<=p.c t k
 np:∀k,g k<=0
 un:∀k,zK ow k=none->g k=0
structure De(p:Pb κ)(f g:κ->Int)(D:List κ)(dt:List (κ×Option κ))(ow:List (κ×κ)):Prop where
 keys:dt.map (·.1)=D
 a:∀t k,zK dt t=some (some k)->k∈p.row t/\f t+g k=p.c t k/\zK ow k=some t
 b:∀t,zK dt t=some none->f t=p.L t
 c:∀k t,zK ow k=some t->zK dt t=some (some k)
 ob:∀q∈ow,q.2∈p.T/\q.1∈p.row q.2
 on:(ow.map (·.1)).Nodup
structure Lp(p:Pb κ)(f g:κ->Int)(fs:κ)(D:List κ)(dt:List (κ×Option κ))(ow:List (κ×κ))(R:List κ)(Ah:List (κ×κ)):Prop where
 fe:Fe p f g ow
 de:De p f g D dt ow
 nd:R.Nodup
 hd:R[0]?=some fs
 len:R.length=Ah.length+1
 own:∀(i:Nat) q,Ah[i]?=some q->∃t,R[i+1]?=some t/\zK ow q.1=some t
 sub:∀t∈R,t∈p.T
 fst:fs∉D
 kn:(Ah.map (·.1)).Nodup
 tg:∀(i:Nat) q,Ah[i]?=some q->q.1∈p.row q.2/\f q.2+g q.1=p.c q.2 q.1/\∃j,j<=i/\R[j]?=some q.2
def Qs{b:Type}{a:List (κ×b)}{k:κ}:zK a k=none↔k∉a.map (·.1):=by rw[<- zZ];cases zK a k<;>simp
theorem Lp.at{p:Pb κ}{f g:κ->Int}{fs:κ}{D:List κ}{dt:List (κ×Option κ)}{ow:List (κ×κ)}{R:List κ}{Ah:List (κ×κ)}(h:Lp p f g fs D dt ow R Ah){t:κ}(d:t∈R):t=fs\/∃q∈Ah,zK ow q.1=some t:=by
 obtain⟨i,c,rfl⟩:=O9.mp d;cases i with
 |zero=>have:=h.hd;rw[E1 c]at this;exact .inl (L5 this)
 |succ i=>
  have j:=h.len;have a:i<Ah.length:=by omega
  obtain⟨t,b,e⟩:=h.own i _ (E1 a);rw[E1 c]at b;cases b;exact .inr ⟨_,O4 _,e⟩
def Lp.inR{p:Pb κ}{f g:κ->Int}{fs:κ}{D:List κ}{dt:List (κ×Option κ)}{ow:List (κ×κ)}{R:List κ}{Ah:List (κ×κ)}(h:Lp p f g fs D dt ow R Ah){k t:κ}(b:k∈Ah.map (·.1))(e:zK ow k=some t):t∈R:=by obtain⟨q,j,rfl⟩:=M6.mp b;obtain⟨i,d,rfl⟩:=O9.mp j;obtain⟨l,c,a⟩:=h.own i _ (E1 d);rw[e]at a;cases a;exact O2 c
def upF(f:κ->Int)(R:List κ)(r:Int):κ->Int:=λt=>if t∈R then f t+r else f t
def dnF(g:κ->Int)(R:List κ)(r:Int):κ->Int:=λt=>if t∈R then g t-r else g t
def Lp.move{p:Pb κ}{f g:κ->Int}{fs:κ}{D:List κ}{dt:List (κ×Option κ)}{ow:List (κ×κ)}{R:List κ}{Ah:List (κ×κ)}(h:Lp p f g fs D dt ow R Ah)(E:0<=r)
  (A:∀t∈R,r<=p.L t-f t) (u:∀t∈R,∀k∈p.row t,k∉Ah.map (·.1)->r<=p.c t k-f t-g k):Lp p (upF f R r) (dnF g (Ah.map (·.1)) r) fs D dt ow R Ah:=by
 have c:∀t k,k∈p.row t->zK ow k=some t->zK dt t=some (some k)->f t+g k=p.c t k->upF f R r t+dnF g (Ah.map (·.1)) r k=p.c t k:=λt k _ v o x=>by
  unfold upF dnF;by_cases b:k∈Ah.map (·.1)
  .rw[if_pos b,if_pos (h.inR b v)];omega
  .have:t∉R:=λl=>by
    rcases h.at l with rfl|⟨q,n,e⟩
    .exact h.fst (h.de.keys▸zZ.mp (by rw[o];rfl))
    .have:=h.de.c _ _ e;rw[o]at this;cases this;exact b (N4 n)
   rw[if_neg b,if_neg this];exact x
 refine⟨⟨λt l=>?_,λt l k b=>?_,λk=>?_,λk b=>?_⟩,⟨h.de.keys,λt k e=>?_,λt e=>?_,h.de.c,h.de.ob,h.de.on⟩,h.nd,h.hd,h.len,h.own,h.sub,h.fst,h.kn,λi q e=>?_⟩
 .unfold upF;split
  .rename_i z;have:=A t z;omega
  .exact h.fe.le t l
 .have a:=h.fe.pr t l k b;unfold upF dnF;split
  .rename_i z;split
   .omega
   .rename_i y;have:=u t z k b y;omega
  .split<;>omega
 .have:=h.fe.np k;unfold dnF;split<;>omega
 .unfold dnF;rw[if_neg λz=>?_]
  .exact h.fe.un k b
  .obtain⟨q,n,rfl⟩:=M6.mp z;obtain⟨i,B,rfl⟩:=O9.mp n;obtain⟨t,_,e⟩:=h.own i _ (E1 B);rw[b]at e;cases e
 .obtain⟨m,s,d⟩:=h.de.a t k e;exact⟨m,c t k m d e s,d⟩
 .have:=h.de.b t e;unfold upF;rw[if_neg λz=>?_]
  .exact this
  .rcases h.at z with rfl|⟨q,n,C⟩
   .exact h.fst (h.de.keys▸zZ.mp (by rw[e];rfl))
   .have:=h.de.c _ _ C;rw[e]at this;cases this
 .obtain⟨m,s,j,w,d⟩:=h.tg i q e;refine⟨m,?_,j,w,d⟩;unfold upF dnF;rw[if_pos (O2 d),if_pos (N4 (O2 e))];omega
def Lp.more{p:Pb κ}{f g:κ->Int}{fs t k t':κ}{D:List κ}{dt:List (κ×Option κ)}{ow:List (κ×κ)}{R:List κ}{Ah:List (κ×κ)}(h:Lp p f g fs D dt ow R Ah)(y:∀x∈D,x∈p.T)(A:t∈R)(F:k∈p.row t)(hn:k∉Ah.map (·.1))(he:f t+g k=p.c t k)(n:zK ow k=some t'):Lp p f g fs D dt ow (R++[t']) (Ah++[(k,t)]):=by
 have o:=h.de.c k t' n;have s:t'∈D:=h.de.keys▸zZ.mp (by rw[o];rfl);have B:t'∉R:=λz=>by
  rcases h.at z with rfl|⟨q,C,e⟩
  .exact h.fst s
  .have:=h.de.c _ _ e;rw[o]at this;cases this;exact hn (N4 C)
 refine⟨h.fe,h.de,?_,?_,by rw[F7,F7,h.len];rfl,λi q e=>?_,λx E=>?_,h.fst,?_,λi q e=>?_⟩
 .exact a0h.mpr ⟨h.nd,(I0.mpr ⟨S8,M9⟩),λa l b m e=>B (by rw[<- E8.mp m,<- e];exact l)⟩
 .rw[M8 (by rw[h.len];omega)];exact h.hd
 .by_cases c:i<Ah.length
  .rw[M8 c]at e;obtain⟨x,G,u⟩:=h.own i q e;exact⟨x,by rw[M8 (by rw[h.len];omega)];exact G,u⟩
  .have:i=Ah.length:=by have:=(E7.mp e).1;rw[F7]at this;simp at this;omega
   subst this;rw[N7 (E5 _),a0d]at e;cases e;exact⟨t',by rw[<- h.len,N7 (E5 _),a0d];rfl,n⟩
 .rcases N3.mp E with z|z
  .exact h.sub x z
  .rw[E8.mp z];exact y _ s
 .rw[F8];exact a0h.mpr ⟨h.kn,(I0.mpr ⟨S8,M9⟩),λa l b m e=>hn (by rw[<- show b=k from E8.mp m,<- e];exact l)⟩
 .by_cases c:i<Ah.length
  .rw[M8 c]at e;obtain⟨v,w,j,d,r⟩:=h.tg i q e;exact⟨v,w,j,d,by rw[M8 (E7.mp r).1];exact r⟩
  .have:i=Ah.length:=by have:=(E7.mp e).1;rw[F7]at this;simp at this;omega
   subst this;rw[N7 (E5 _),a0d]at e;cases e;obtain⟨j,d,rfl⟩:=O9.mp A;exact⟨F,he,j,by rw[h.len]at d;omega,by rw[M8 d];exact E1 d⟩
structure Hn(p:Pb κ)(f g:κ->Int)(fs:κ)(D:List κ)(R:List κ)(Ah:List (κ×κ))(j:Nat)(th:κ)(key:Option κ)(dt:List (κ×Option κ))(ow:List (κ×κ)):Prop where
 at':R[j]?=some th
 keys:dt.map (·.1)=D
 a:∀t k,zK dt t=some (some k)->some k≠key/\k∈p.row t/\f t+g k=p.c t k/\zK ow k=some t
 b:∀t,zK dt t=some none->f t=p.L t
 c:∀k t,some k≠key->zK ow k=some t->zK dt t=some (some k)
 d0:key=none->f th=p.L th
 d1:∀k,key=some k->k∈p.row th/\f th+g k=p.c th k
 e:∀(i:Nat) q t,i<j->Ah[i]?=some q->R[i+1]?=some t->zK dt t=some (some q.1)
 ob:∀q∈ow,q.2∈p.T/\q.1∈p.row q.2
 on:(ow.map (·.1)).Nodup
def eE(ow:List (κ×κ))(key:Option κ)(t:κ):List (κ×κ):=match key with
 |none=>ow
 |some k=>dput ow k t
def Xr{ow:List (κ×κ)}{key:Option κ}{t j:κ}:zK (eE ow key t) j=if key=some j then some t else zK ow j:=by
 cases key with
 |none=>rfl
 |some k=>show zK (dput ow k t) j=_;rw[jv];simp
def ik{ow:List (κ×κ)}{key:Option κ}{t:κ}(h:(ow.map (·.1)).Nodup):((eE ow key t).map (·.1)).Nodup:=by
 cases key with
 |none=>exact h
 |some k=>exact zU h
def cY{b:Type}{a:List (κ×b)}{k:κ}{v:b}{q:κ×b}(h:q∈dput a k v):q=(k,v)\/q∈a:=by
 unfold dput at h;split at h
 .obtain⟨x,c,rfl⟩:=M6.mp h;split
  .rename_i e;exact .inl (by rw[e])
  .exact .inr c
 .rcases N3.mp h with z|z
  .exact .inr z
  .exact .inl (E8.mp z)
section
variable {p:Pb κ}{f g:κ->Int}{fs th:κ}{D R:List κ}{Ah:List (κ×κ)}{key:Option κ}{dt:List (κ×Option κ)}{ow:List (κ×κ)}
def Hn.core(h:Hn p f g fs D R Ah j th key dt ow)(m:th∈p.T):(∀t k,zK (dput dt th key) t=some (some k)->(zK dt th=some (some k)->False)->k∈p.row t/\f t+g k=p.c t k/\zK (eE ow key th) k=some t)/\(∀t,zK (dput dt th key) t=some none->f t=p.L t)/\(∀k t,(zK dt th=some (some k)->False)->zK (eE ow key th) k=some t->zK (dput dt th key) t=some (some k))/\(∀q∈eE ow key th,q.2∈p.T/\q.1∈p.row q.2):=by
 refine⟨λt k e a=>?_,λt e=>?_,λk t a e=>?_,λq b=>?_⟩
 .rw[jv]at e;rw[Xr];by_cases c:th=t
  .subst c;rw[if_pos rfl]at e;have e:key=some k:=L5 e;rw[if_pos e];exact⟨(h.d1 k e).1,(h.d1 k e).2,rfl⟩
  .rw[if_neg c]at e;obtain⟨n,i,l,o⟩:=h.a t k e;rw[if_neg (Ne.symm n)];exact⟨i,l,o⟩
 .rw[jv]at e;by_cases c:th=t
  .subst c;rw[if_pos rfl]at e;exact h.d0 (L5 e)
  .rw[if_neg c]at e;exact h.b t e
 .rw[Xr]at e;rw[jv];by_cases c:key=some k
  .rw[if_pos c]at e;cases e;rw[if_pos rfl,c]
  .rw[if_neg c]at e;have:=h.c k t (Ne.symm c) e;by_cases d:th=t
   .subst d;exact(a this).elim
   .rw[if_neg d];exact this
 .cases key with
  |none=>exact h.ob q b
  |some k=>
   rcases cY b with rfl|b
   .exact⟨m,(h.d1 k rfl).1⟩
   .exact h.ob q b
def Hn.last(h:Hn p f g fs D R Ah j th key dt ow)(d:th∈p.T)(hn:zK dt th=none):De p f g (D++[th]) (dput dt th key) (eE ow key th):=by
 obtain⟨i,b,c,l⟩:=h.core d;have a:∀{k},zK dt th=some (some k)->False:=λe=>by rw[hn]at e;cases e
 exact⟨by rw[vC,hn,if_neg (λz=>by cases z),h.keys],λt k e=>i t k e a,b,λk t e=>c k t a e,l,ik h.on⟩
def Hn.next{q:κ×κ}(h:Hn p f g fs D R Ah j th key dt ow)(w:th∈p.T)(hn:zK dt th=some (some q.1))(G:j'<j)(s:R.Nodup)(y:R[j']?=some q.2)(A:q.1∈p.row q.2/\f q.2+g q.1=p.c q.2 q.1):Hn p f g fs D R Ah j' q.2 (some q.1) (dput dt th key) (eE ow key th):=by
 obtain⟨o,u,v,r⟩:=h.core w;have l:∀{t k},zK (dput dt th key) t=some (some k)->k≠q.1:=λ{t k} e z=>by
  subst z;rw[jv]at e;by_cases c:th=t
  .rw[if_pos c]at e;exact(h.a _ _ hn).1 (L5 e).symm
  .rw[if_neg c]at e;have a:=(h.a _ _ e).2.2.2;have d:=(h.a _ _ hn).2.2.2;rw[a]at d;exact c (L5 d).symm
 refine⟨y,by(rw[vC,hn];exact(if_pos rfl).trans h.keys),λt k e=>⟨λz=>l e (L5 z),o t k e λz=>?_⟩,u,λk t B e=>v k t (λz=>?_) e,λz=>by(cases z),λk e=>by(cases e;exact A),λi x t H C b=>?_,r,ik h.on⟩
 .rw[hn]at z;exact l e (L5 (L5 z)).symm
 .rw[hn]at z;exact B (by rw[<- L5 (L5 z)])
 .rw[jv,if_neg λc=>?_]
  .exact h.e i x t (by omega) C b
  .subst c;have a:=h.at';obtain⟨F,n⟩:=E7.mp a;obtain⟨E,m⟩:=E7.mp b;have:=(a0T s).mp (n.trans m.symm);omega
end
def nN{a b:EW}(h:a.Perm b):a.sum=b.sum:=by
 induction h with
 |nil=>rfl
 |cons x _ d=>rw[a0J,a0J,d]
 |swap x y l=>simp only[List.sum_cons];omega
 |trans _ _ e c=>exact e.trans c
theorem Kf{g:κ->Int}:∀{K ks:List κ},K.Nodup->ks.Nodup->(∀k∈ks,k∈K)->(∀k∈K,k∉ks->g k=0)->(K.map g).sum=(ks.map g).sum
 |[],ks,_,_,h,_=>by
  cases ks with
  |nil=>rfl
  |cons a r=>cases h a E9
 |a::K,ks,f,i,h,z=>by
  obtain⟨na,f⟩:=I0.mp f;rw[F3,a0J];by_cases c:a∈ks
  .have:=Kf (g:=g) f (i.erase a) (λk e=>by
    obtain⟨b,d⟩:=(i.mem_erase_iff).mp e;exact(F0.mp (h k d)).resolve_left b) λk b d=>z k (E3 _ b) λy=>d ((i.mem_erase_iff).mpr ⟨λw=>na (w▸b),y⟩)
   rw[this,nN ((List.perm_cons_erase c).map g),F3,a0J]
  .have:=Kf (g:=g) f i (λk e=>(F0.mp (h k e)).resolve_left λw=>c (w▸e)) λk b d=>z k (E3 _ b) d;rw[this,z a E9 c];omega
end Pure
def any_map{κ b c:Type}[DecidableEq κ]{f:b->c}{kvs:List (κ×b)}{k:κ}:(kvs.map λp=>(p.1,f p.2)).any (λa=>decide (a.1=k))=kvs.any (λa=>decide (a.1=k)):=by rw[a3a];rfl
def ZG{κ a b:Type}[DecidableEq κ]{f:a->b}{kvs:List (κ×a)}{k:κ}{x:a}:dput (kvs.map λp=>(p.1,f p.2)) k (f x)=(dput kvs k x).map λp=>(p.1,f p.2):=by
 unfold dput;rw[any_map];split
 .rw[F4,F4];refine S4 λp _=>?_;show(if p.1=k then(p.1,f x)else(p.1,f p.2))=((if p.1=k then(p.1,x)else p).1,f (if p.1=k then(p.1,x)else p).2);split<;>rfl
 .rw[F8];rfl
theorem jG{κ b c:Type}[DecidableEq κ]{f:b->c}:∀{a:List (κ×b)}{k:κ},zK (a.map λp=>(p.1,f p.2)) k=(zK a k).map f
 |[],_=>rfl
 | (j,u)::a,k=>by rw[F3,yq,yq,jG];split<;>rfl
def Vq(k:Fg):pk (kP k)=some k:=by cases k<;>rfl
def ip:pIn true (kP r) (.d kvs)=.ok (.b (!(zK kvs r).isSome)):=by cases r<;>exact G8 (λb=>Out.ok (PV.b b)) (a1d _)
def pM:pIn false (kP r) (.d kvs)=.ok (.b (zK kvs r).isSome):=by cases r<;>exact G8 (λb=>Out.ok (PV.b b)) (P1 _)
def ixD(h:zK kvs r=some x):pIx (.d kvs) (kP r)=.ok x:=by
 have:pIx (.d kvs) (kP r)=wJ (zK kvs r):=by cases r<;>rfl
 rw[this,h];rfl
def US(k:Fg):imm (kP k)=true:=by cases k<;>rfl
def Jz(h:m ρ=.ok (.o c fs))(b:c∈cs)(a:fs.lookup fn=some x):aQ cs fn m ρ=.ok x:=by unfold aQ;rw[h,okb];dsimp only;rw[if_pos b,a];rfl
def pN(c:a ρ=.ok true):mOr a b ρ=.ok true:=by unfold mOr;rw[c,okb];rfl
def yO(h:ρ[i]?=some (some (.d kvs)))(a:kvs.map (·.1)=ks):yb i ρ=.ok (ks.map kP):=by unfold yb;rw[h];dsimp only;rw[<- a,List.map_map];rfl
def v9(h:ρ[i]?=some (some (.d kvs)))(b:ρ[j]?=some (some (kP k)))(a:zK kvs k=some (.d q))(c:q.map (·.1)=ks):qm i j ρ=.ok (ks.map kP):=by unfold qm;rw[h];dsimp only;rw[b];dsimp only;unfold cQ;rw[Vq];dsimp only;rw[a];dsimp only;rw[<- c,List.map_map];rfl
def jH{a:Type}{xs:List a}(h:k<xs.length){t:a}:t∈xs.take (k+1)↔t∈xs.take k\/t=xs[k]:=by rw[a0x,E1 h,N3];simp
abbrev Row:=List (Key×Int)
abbrev Cs:=List (Key×Row)
def iK(r:Row):List (Key×PV):=r.map λq=>(q.1,.i q.2)
def cK(R:Cs):List (Key×PV):=R.map λp=>(p.1,.d (iK p.2))
def rw'(R:Cs)(t:Fg):Row:=(zK R t).getD []
def pb(R:Cs)(L:Row):Pb Key:=⟨R.map (·.1),λt=>(rw' R t).map (·.1),λt k=>(zK (rw' R t) k).getD 0,λt=>(zK L t).getD 0⟩
def yw:(iK r).map (·.1)=r.map (·.1):=by unfold iK;rw[F4];rfl
def yH:(cK R).map (·.1)=R.map (·.1):=by unfold cK;rw[F4];rfl
def UT(h:k∈r.map (·.1)):zK (iK r) k=some (.i ((zK r k).getD 0)):=by unfold iK;rw[jG];obtain⟨x,e⟩:=L4.mp (zZ.mpr h);rw[e];rfl
def Z4(h:t∈R.map (·.1)):zK (cK R) t=some (.d (iK (rw' R t))):=by unfold cK rw';rw[jG (f:=λr:Row=>PV.d (iK r))];obtain⟨x,e⟩:=L4.mp (zZ.mpr h);rw[e];rfl
def fK{a:Type}(K:EG)(v:Key->a):List (Key×a):=K.map λk=>(k,v k)
theorem Vr{a:Type}{v:Key->a}:∀{K:EG}{k:Fg},k∈K->zK (fK K v) k=some (v k)
 |j::K,k,h=>by
  show zK ((j,v j)::fK K v) k=_;rw[yq];by_cases e:j=k
  .rw[if_pos e,e]
  .rw[if_neg e];exact Vr ((F0.mp h).resolve_left λz=>e z.symm)
def Xs{a:Type}{v:Key->a}:(fK K v).map (·.1)=K:=by unfold fK;rw[F4];exact List.map_id _
def ir{a:Type}{v w:Key->a}{x:a}(b:k∈K)(d:w k=x)(c:∀j,j≠k->w j=v j):dput (fK K v) k x=fK K w:=by
 unfold dput;refine(if_pos (by rw[jU,Vr b];rfl)).trans ?_;unfold fK;rw[F4];refine S4 λj _=>?_;show(if j=k then(j,x)else(j,v j))=_;split
 .rename_i e;subst e;rw[d]
 .rename_i e;rw[c j e]
def oP:Option Key->PV
 |none=>.n
 |some k=>kP k
def dtP(dt:ES):List (Key×PV):=dt.map λq=>(q.1,oP q.2)
def owP(ow:EU):List (Key×PV):=ow.map λq=>(q.1,kP q.2)
def Xt:zK (owP ow) k=(zK ow k).map kP:=jG
def iu:zK (dtP ow) k=(zK ow k).map oP:=jG
abbrev dlF(R:Cs)(L:Row)(dt:ES)(ow:EU)(Ks:EG)(f g:Fi):List (Str×PV):=[("costs",.d (cK R)),("leaving",.d (iK L)),("dealt",.d (dtP dt)),("owners",.d (owP ow)),("thing_prices",.d (fK (R.map (·.1)) λt=>.i (f t))),("key_prices",.d (fK Ks λk=>.i (g k)))]
structure Mn(p:Pb Key)(f g:Fi)(A S:EG)(r:Int)(t:Fg)(ko:Fs):Prop where
 mem:t∈S
 n:ko=none->r=p.L t-f t
 s:∀k,ko=some k->k∈p.row t/\k∉A/\r=p.c t k-f t-g k
 m1:∀x∈S,r<=p.L x-f x
 m2:∀x∈S,∀k∈p.row x,k∉A->r<=p.c x k-f x-g k
def Mo(p:Pb Key)(f g:Fi)(A S:EG):Option (Int×Key×Option Key)->Prop
 |none=>S=[]
 |some u=>Mn p f g A S u.1 u.2.1 u.2.2
def lsP:Option (Int×Key×Option Key)->PV
 |none=>.n
 |some u=>.t [.i u.1,kP u.2.1,oP u.2.2]
def t8(hL:L.map (·.1)=R.map (·.1))(ht:t∈R.map (·.1))(hk:∀k∈(pb R L).row t,k∈Ks)(hu:Mo (pb R L) f g (Ah.map (·.1)) S u):
  ∃u' x5 x6 x7 x8,Mn (pb R L) f g (Ah.map (·.1)) (S++[t]) u'.1 u'.2.1 u'.2.2/\vp [some (.o 3 (dlF R L dt ow Ks f g)),s1,some (.d (owP Ah)),some (lsP u),some (kP t),o5,o6,o7,o8]=.ok (.nx [some (.o 3 (dlF R L dt ow Ks f g)),s1,some (.d (owP Ah)),some (lsP (some u')),some (kP t),x5,x6,x7,x8]):=by
 have e1:pIx (.d (fK (R.map (·.1)) λt=>.i (f t))) (kP t)=.ok (.i (f t)):=ixD (Vr ht);have e2:pIx (.d (iK L)) (kP t)=.ok (.i ((pb R L).L t)):=ixD (UT (hL▸ht));have e3:pIx (.d (cK R)) (kP t)=.ok (.d (iK (rw' R t))):=ixD (Z4 ht)
 -- what the thing itself gives
 have key:∃u0:Int×Key×Option Key,(u0.2.1∈S++[t]/\(u0.2.2=none->u0.1=(pb R L).L u0.2.1-f u0.2.1)/\(∀k,u0.2.2=some k->k∈(pb R L).row u0.2.1/\k∉Ah.map (·.1)/\u0.1=(pb R L).c u0.2.1 k-f u0.2.1-g k)/\(∀x∈S++[t],u0.1<=(pb R L).L x-f x)/\(∀x∈S,∀k∈(pb R L).row x,k∉Ah.map (·.1)->u0.1<=(pb R L).c x k-f x-g k))/\
   sIf (mOr (zW (mOp (VN false) (zc 3) (mC .n))) (zW (mOp pLt (zc 6) (mOp pIx (zc 3) (mC (.i 0)))))) (yW 3 (aH (zb (zc 6) (zb (zc 4) (zb (mC .n) zr))))) yI [some (.o 3 (dlF R L dt ow Ks f g)),s1,some (.d (owP Ah)),some (lsP u),some (kP t),some (.i (f t)),some (.i ((pb R L).L t-f t)),o7,o8]=.ok (.nx [some (.o 3 (dlF R L dt ow Ks f g)),s1,some (.d (owP Ah)),some (lsP (some u0)),some (kP t),some (.i (f t)),some (.i ((pb R L).L t-f t)),o7,o8]):=by
  have hs:∀{ls},yW 3 (aH (zb (zc 6) (zb (zc 4) (zb (mC .n) zr)))) [some (.o 3 (dlF R L dt ow Ks f g)),s1,some (.d (owP Ah)),ls,some (kP t),some (.i (f t)),some (.i ((pb R L).L t-f t)),o7,o8]=.ok (.nx [some (.o 3 (dlF R L dt ow Ks f g)),s1,some (.d (owP Ah)),some (lsP (some ((pb R L).L t-f t,t,none))),some (kP t),some (.i (f t)),some (.i ((pb R L).L t-f t)),o7,o8]):=zG (bj rfl (show 3<=sizeLine by decide));cases u with
  |none=>cases(show S=[]from hu);exact⟨((pb R L).L t-f t,t,none),⟨E8.mpr rfl,λ_=>rfl,λk z=>(by cases z),λx hx=>by rw[E8.mp hx];exact a1w _,λx hx=>(by cases hx)⟩,(zY (pN (zP rfl))).trans hs⟩
  |some u=>
   have hu:Mn (pb R L) f g (Ah.map (·.1)) S u.1 u.2.1 u.2.2:=hu;have hc:mOr (zW (mOp (VN false) (zc 3) (mC .n))) (zW (mOp pLt (zc 6) (mOp pIx (zc 3) (mC (.i 0))))) [some (.o 3 (dlF R L dt ow Ks f g)),s1,some (.d (owP Ah)),some (lsP (some u)),some (kP t),some (.i (f t)),some (.i ((pb R L).L t-f t)),o7,o8]=.ok (decide ((pb R L).L t-f t<u.1)):=V3 (x:=false) (zP rfl) (zP (zj rfl rfl rfl));by_cases c:(pb R L).L t-f t<u.1
   .refine⟨((pb R L).L t-f t,t,none),⟨M4 _ (E8.mpr rfl),λ_=>rfl,λk z=>(by cases z),λx hx=>?_,λx hx k hk h=>?_⟩,(zY hc).trans (by rw[L9 c,if_pos rfl];exact hs)⟩
    .rcases N3.mp hx with z|z
     .have:=hu.m1 x z;show(pb R L).L t-f t<=_;omega
     .rw[E8.mp z];exact a1w _
    .have:=hu.m2 x hx k hk h;show(pb R L).L t-f t<=_;omega
   .refine⟨u,⟨a0a _ hu.mem,hu.n,hu.s,λx hx=>?_,hu.m2⟩,(zY hc).trans (by rw[G6 c];rfl)⟩;rcases N3.mp hx with z|z
    .exact hu.m1 x z
    .rw[E8.mp z];omega
 obtain⟨u0,⟨a1,a2,a3,a4,a5⟩,e4⟩:=key
 -- its keys
 obtain⟨ρ',⟨u',o6,o8',b1,b2,b3,b4,b5,b6,rfl⟩,e5⟩:=Q3 (g:=ZU) (b:=ZV) kP (λj ρ=>∃(u':Int×Key×Option Key)(o6 o8:Fn),u'.2.1∈S++[t]/\(u'.2.2=none->u'.1=(pb R L).L u'.2.1-f u'.2.1)/\(∀k,u'.2.2=some k->k∈(pb R L).row u'.2.1/\k∉Ah.map (·.1)/\u'.1=(pb R L).c u'.2.1 k-f u'.2.1-g k)/\(∀x∈S++[t],u'.1<=(pb R L).L x-f x)/\(∀x∈S,∀k∈(pb R L).row x,k∉Ah.map (·.1)->u'.1<=(pb R L).c x k-f x-g k)/\(∀k∈((pb R L).row t).take j,k∉Ah.map (·.1)->u'.1<=(pb R L).c t k-f t-g k)/\
   ρ=[some (.o 3 (dlF R L dt ow Ks f g)),s1,some (.d (owP Ah)),some (lsP (some u')),some (kP t),some (.i (f t)),o6,some (.d (iK (rw' R t))),o8]) ((pb R L).row t) [some (.o 3 (dlF R L dt ow Ks f g)),s1,some (.d (owP Ah)),some (lsP (some u0)),some (kP t),some (.i (f t)),some (.i ((pb R L).L t-f t)),some (.d (iK (rw' R t))),o8] ⟨u0,_,o8,a1,a2,a3,a4,a5,λk z=>(by rw[List.take_zero]at z;cases z),rfl⟩ (λj hj ρ ⟨u',o6,o8,b1,b2,b3,b4,b5,b6,hρ⟩=>by
  subst hρ;have hm:((pb R L).row t)[j]∈(pb R L).row t:=O4 _;generalize ek:((pb R L).row t)[j]=k at hm;have g1:pIx (.d (iK (rw' R t))) (kP k)=.ok (.i ((pb R L).c t k)):=ixD (UT hm);have g2:pIx (.d (fK Ks λk=>.i (g k))) (kP k)=.ok (.i (g k)):=ixD (Vr (hk k hm));have s6:yW 6 (mOp dY (mOp dY (mOp pIx (zc 7) (zc 8)) (zc 5)) (mOp pIx (aQ [3] "key_prices" (zc 0)) (zc 8))) [some (.o 3 (dlF R L dt ow Ks f g)),s1,some (.d (owP Ah)),some (lsP (some u')),some (kP t),some (.i (f t)),o6,some (.d (iK (rw' R t))),some (kP k)]=.ok (.nx [some (.o 3 (dlF R L dt ow Ks f g)),s1,some (.d (owP Ah)),some (lsP (some u')),some (kP t),some (.i (f t)),some (.i ((pb R L).c t k-f t-g k)),some (.d (iK (rw' R t))),some (kP k)]):=
   zG (zj (zj (zj rfl rfl g1) rfl rfl) (zj (Jz rfl (by decide) rfl) rfl g2) rfl)
  have hc:Ui (zW (mOp pLt (zc 6) (mOp pIx (zc 3) (mC (.i 0))))) (zW (mOp (pIn true) (zc 8) (zc 2))) [some (.o 3 (dlF R L dt ow Ks f g)),s1,some (.d (owP Ah)),some (lsP (some u')),some (kP t),some (.i (f t)),some (.i ((pb R L).c t k-f t-g k)),some (.d (iK (rw' R t))),some (kP k)]=.ok (decide ((pb R L).c t k-f t-g k<u'.1) && !(zK (owP Ah) k).isSome):=
   Vo (zP (zj rfl rfl rfl)) (zP (zj rfl rfl ip))
  have hin:(zK (owP Ah) k).isSome=true↔k∈Ah.map (·.1):=by rw[zZ];unfold owP;rw[F4];exact a1t
  refine⟨_,rfl,?_⟩;by_cases c:(pb R L).c t k-f t-g k<u'.1/\k∉Ah.map (·.1)
  .refine⟨_,⟨((pb R L).c t k-f t-g k,t,some k),some (.i ((pb R L).c t k-f t-g k)),some (kP k),M4 _ (E8.mpr rfl),λz=>(by cases z),λj z=>(by cases z;exact⟨hm,c.2,rfl⟩),λx hx=>?_,λx hx j hj h=>?_,λj hj h=>?_,rfl⟩,.inl (ze ⟨_,s6,?_⟩)⟩
   .have:=b4 x hx;show(pb R L).c t k-f t-g k<=_;omega
   .have:=b5 x hx j hj h;show(pb R L).c t k-f t-g k<=_;omega
   .rcases(jH ‹_›).mp hj with z|z
    .have:=b6 j z h;show(pb R L).c t k-f t-g k<=_;omega
    .rw[z,ek];exact a1w _
   .refine(zY hc).trans ?_;have:(zK (owP Ah) k).isSome=false:=by rw[a1G];exact λz=>c.2 (hin.mp z)
    rw[this,L9 c.1];exact zG (bj rfl (show 3<=sizeLine by decide))
  .refine⟨_,⟨u',some (.i ((pb R L).c t k-f t-g k)),some (kP k),b1,b2,b3,b4,b5,λj hj h=>?_,rfl⟩,.inl (ze ⟨_,s6,?_⟩)⟩
   .rcases(jH ‹_›).mp hj with z|z
    .exact b6 j z h
    .rw[z,ek];rw[z,ek]at h;have:¬(pb R L).c t k-f t-g k<u'.1:=λw=>c ⟨w,h⟩;omega
   .refine(zY hc).trans ?_;have:(decide ((pb R L).c t k-f t-g k<u'.1) && !(zK (owP Ah) k).isSome)=false:=by rw[a1G];intro z;rw[O8,a1y,a0z]at z;exact c ⟨z.1,λw=>by rw[hin.mpr w]at z;cases z.2⟩
    rw[this];rfl)
 refine⟨u',some (.i (f t)),o6,some (.d (iK (rw' R t))),o8',⟨b1,b2,b3,b4,λx hx k hk h=>?_⟩,ze ⟨_,zG (zj (Jz rfl (by decide) rfl) rfl e1),ze ⟨_,zG (zj (zj (Jz rfl (by decide) rfl) rfl e2) rfl rfl),ze ⟨_,e4,ze ⟨_,zG (zj (Jz rfl (by decide) rfl) rfl e3),qG (yO rfl yw) e5⟩⟩⟩⟩⟩;rcases N3.mp hx with z|z
 .exact b5 x z k hk h
 .rw[E8.mp z]at hk ⊢;exact b6 k (by rw[O6 (E5 _)];exact hk) h
def nO{Rd:EG}(hL:L.map (·.1)=R.map (·.1))(hr:∀t∈Rd,t∈R.map (·.1))(hne:Rd≠[])(hk:∀t∈R.map (·.1),∀k∈(pb R L).row t,k∈Ks):
  ∃r t ko,Mn (pb R L) f g (Ah.map (·.1)) Rd r t ko/\qa [.o 3 (dlF R L dt ow Ks f g),.l (Rd.map kP),.d (owP Ah)]=.ok (.t [.i r,kP t,oP ko]):=by
 obtain⟨ρ',⟨u,o4,o5,o6,o7,o8,hu,rfl⟩,e⟩:=Q3 (g:=ZW) (b:=vp) kP (λj ρ=>∃(u:Option (Int×Key×Option Key)) (o4 o5 o6 o7 o8:Fn),Mo (pb R L) f g (Ah.map (·.1)) (Rd.take j) u/\ρ=[some (.o 3 (dlF R L dt ow Ks f g)),some (.l (Rd.map kP)),some (.d (owP Ah)),some (lsP u),o4,o5,o6,o7,o8]) Rd [some (.o 3 (dlF R L dt ow Ks f g)),some (.l (Rd.map kP)),some (.d (owP Ah)),some .n,none,none,none,none,none] ⟨none,none,none,none,none,none,rfl,rfl⟩ (λj hj ρ ⟨u,o4,o5,o6,o7,o8,hu,hρ⟩=>by
  subst hρ;have hm:=O4 hj;obtain⟨u',o5,o6,o7,o8,h1,h2⟩:=t8 (R:=R) (L:=L) (dt:=dt) (ow:=ow) (Ah:=Ah) (Ks:=Ks) (S:=Rd.take j) (f:=f) (g:=g) (s1:=some (.l (Rd.map kP))) (u:=u) (t:=Rd[j]) (o5:=o5) (o6:=o6) (o7:=o7) (o8:=o8) hL (hr _ hm) (hk _ (hr _ hm)) hu;refine⟨_,rfl,_,⟨some u',_,_,_,_,_,?_,rfl⟩,.inl h2⟩;show Mn _ f g _ (Rd.take (j+1)) _ _ _;rw[a0x,E1 hj];exact h1)
 rw[O6 (E5 _)]at hu;cases u with
 |none=>exact absurd hu hne
 |some u=>exact⟨u.1,u.2.1,u.2.2,hu,z3 (ze ⟨_,zG rfl,ze ⟨_,qG (cz rfl) e,vq rfl⟩⟩)⟩
def set_same{a:Type}{l:List a}{x:a}(h:l[i]?=some x):l.set i x=l:=by obtain⟨b,e⟩:=E7.mp h;rw[<- e];exact List.set_getElem_self b
section
variable {α:Type}{gg:HMG}{bb:HMS}
theorem cZ(f:α->HV)(J:Nat->kJ->AH->Prop):∀(d:List α)(j:Nat)(a:kJ)(G:AH),J j a G->(∀(k:Nat)(h:k<d.length) a G,J (j+k) a G->∃c,gg (f d[k]) a=some c/\∃b g,J (j+k+1) b g/\bb c G=.nx b g)->∃e n,J (j+d.length) e n/\Wg gg bb (d.map f) a G=.nx e n
 |[],j,a,G,h,_=>⟨a,G,h,rfl⟩
 |x::d,j,a,G,h,m=>by
  obtain⟨c,p,b,g,r,s⟩:=m 0 (a1X _) a G h;obtain⟨l,o,q,u⟩:=cZ f J d (j+1) b g r λk t a G i=>by have:=m (k+1) (a1g t) a G (by rw[show j+(k+1)=j+1+k by omega];exact i);rw[show j+(k+1)+1=j+1+k+1 by omega]at this;exact this
  refine⟨l,o,by rw[E4,show j+(d.length+1)=j+1+d.length by omega];exact q,?_⟩;rw[F3,Wg,show gg (f x) a=some c from p];dsimp only;rw[s];exact u
def bp(d:α->HV)(J:Nat->kJ->AH->Prop)(xs:List α)(ρ:kJ)(G:AH)(h:J 0 ρ G)(j:∀(k:Nat)(h:k<xs.length) ρ G,J k ρ G->∃a,gg (d xs[k]) ρ=some a/\∃b f,J (k+1) b f/\bb a G=.nx b f):∃c g,J xs.length c g/\Wg gg bb (xs.map d) ρ G=.nx c g:=by
 have:=cZ (gg:=gg) (bb:=bb) d J xs 0 ρ G h λk i ρ G e=>by have:=j k i ρ G (by rwa [a0R]at e);rwa [a0R]
 rwa [a0R]at this
theorem UU{q:Nat}(J:Nat->kJ->AH->Prop)(xs:List HV)(g:∀k a G,J k a G->G[q]?=some (.l xs))(l:∀(k:Nat)(h:k<xs.length) a G,J k a G->∃c,gg xs[k] a=some c/\∃b f,J (k+1) b f/\bb c G=.nx b f):∀(r j:Nat)(a:kJ)(G:AH),J j a G->j+r=xs.length->∃d m,J xs.length d m/\JV q gg bb r j a G=.nx d m
 |0,j,a,G,h,e=>by refine⟨a,G,by rw[<- e];exact h,?_⟩;rw[JV,g _ _ _ h];dsimp only;rw[List.getElem?_eq_none (by omega)]
 |r+1,j,a,G,h,e=>by obtain⟨c,o,b,f,s,t⟩:=l j (by omega) a G h;obtain⟨i,n,p,u⟩:=UU J xs g l r (j+1) b f s (by omega);refine⟨i,n,p,?_⟩;rw[JV,g _ _ _ h];dsimp only;rw[List.getElem?_eq_getElem (by omega)];dsimp only;rw[o];dsimp only;rw[t];exact u
end
section
variable {G:AH}{ρ:kJ}{mo mk mv:HME}{k:Nat}{q:Fg}{kvs:EA}
def AN{κ:Type}[DecidableEq κ]{kvs:List (κ×PV)}{q:κ}:zK (vK kvs) q=(zK kvs q).map .v:=jG
def pO{κ:Type}[DecidableEq κ]{kvs:List (κ×PV)}{q:κ}:dput (vK kvs) q (.v x)=vK (dput kvs q x):=ZG (f:=HV.v)
theorem pP{κ:Type}{G:AH}{n:Nat}:∀{kvs:List (κ×PV)},Q6 (kG G (n+1)) (vK kvs)=some kvs
 |[]=>rfl
 | (k,x)::kvs=>by show((kG G (n+1) (.v x)).bind λy=>(Q6 (kG G (n+1)) (vK kvs)).map ((k,y)::·))=_;rw[pP];rfl
def Jg(h:G[k]?=some (.d (vK kvs))):kG G (n+2) (.g k)=some (.d kvs):=by unfold kG;rw[h];show(Q6 (kG G (n+1)) (vK kvs)).map PV.d=_;rw[pP];rfl
theorem pQ{n:Nat}:∀{a:EO},cF (kG G (n+1)) (a.map .v)=some a
 |[]=>rfl
 |x::a=>by show((kG G (n+1) (.v x)).bind λy=>(cF (kG G (n+1)) (a.map .v)).map (y::·))=_;rw[pQ];rfl
def CW(h:G[k]?=some (.l (xs.map .v))):kG G (n+2) (.g k)=some (.l xs):=by unfold kG;rw[h];show(cF (kG G (n+1)) (xs.map .v)).map PV.l=_;rw[pQ];rfl
def iw(f:mo ρ G=.ok (.g k) G)(e:mk ρ G=.ok (.v (kP q)) G)(c:G[k]?=some (.d (vK kvs)))(h:zK kvs q=some (.i a))(g:mv ρ G=.ok (.v (.i b)) G)(d:kvs.length<sizeLine):gS fn mo mk mv ρ G=.nx ρ (G.set k (.d (vK (dput kvs q (.i (fn a b)))))):=by unfold gS;rw[f];show((mk ρ G).fw _)=_;rw[e];show(match G[k]?,pk (kP q)with|some (.d kvs),some q=>_|_,_=>_)=_;rw[c,Vq];dsimp only;rw[AN,h];show((mv ρ G).fw _)=_;rw[g];show(match G[k]? with|some (.d kvs)=>_|_=>_)=_;rw[c];dsimp only;rw[if_pos (by unfold vK;rw[u8];exact d),pO]
def kA(e:mv ρ G=.ok (.v y) G)(d:mo ρ G=.ok (.g k) G)(b:mk ρ G=.ok (.v (kP q)) G)(c:G[k]?=some (.d (vK kvs)))(a:kvs.length<sizeLine):Wf mo mk mv ρ G=.nx ρ (G.set k (.d (vK (dput kvs q y)))):=by unfold Wf;rw[e];show((mo ρ G).fw _)=_;rw[d];show((mk ρ G).fw _)=_;rw[b];show(match G[k]?,pk (kP q)with|some (.d kvs),some q=>_|_,_=>_)=_;rw[c,Vq];dsimp only;rw[if_pos (by unfold vK;rw[u8];exact a),pO]
def Xu(h:mo ρ G=.ok (.g k) G)(b:G[k]?=some (.o c fs))(d:c∈cs)(a:fs.lookup fn=some x):eP cs fn mo ρ G=.ok x G:=by unfold eP;rw[h];show(match G[k]? with|some (.o c fs)=>_|_=>_)=_;rw[b];dsimp only;rw[if_pos d,a]
def Kg(h:m ρ G=.ok x G'):W_ m ρ G=.nx ρ G':=by unfold W_;rw[h];rfl
def Kh(h:ms ρ G=.ok xs G)(a:f xs G=.ok x G'):W8 f ms ρ G=.ok x G':=by unfold W8;rw[h];exact a
def vI(h:m ρ G=.ok x G)(a:ms ρ G=.ok xs G):ya m ms ρ G=.ok (x::xs) G:=by unfold ya;rw[h];show((ms ρ G).bind _)=_;rw[a];rfl
end
abbrev dO(R:Cs)(L:Row):Cell:=.o 3 [("costs",.v (.d (cK R))),("leaving",.v (.d (iK L))),("dealt",.g 1),("owners",.g 2),("thing_prices",.g 3),("key_prices",.g 4)]
abbrev hG(R:Cs)(L:Row)(dt:ES)(ow:EU)(Ks:EG)(f g:Fi)(X:AH):AH:=
 dO R L :: .d (vK (dtP dt)) :: .d (vK (owP ow)) :: .d (vK (fK (R.map (·.1)) λt=>.i (f t))) :: .d (vK (fK Ks λk=>.i (g k)))::X
def hY(Rd:EG)(Ah:EU)(X:AH):AH:=X++[.l ((Rd.map kP).map .v),.d (vK (owP Ah))]
def hY0{Rd:EG}{Ah:EU}{X:AH}:(hY Rd Ah X)[X.length]?=some (.l ((Rd.map kP).map .v)):=by unfold hY;rw[N7 (E5 _),a0d];rfl
def hY1{Rd:EG}{Ah:EU}{X:AH}:(hY Rd Ah X)[X.length+1]?=some (.d (vK (owP Ah))):=by unfold hY;rw[N7 (a1e _ 1),a19];rfl
section
variable {R:Cs}{L:Row}{dt:ES}{ow Ah:EU}{Ks Rd:EG}{f g:Fi}{X Z:AH}{r:Int}
def UW:kG (hG R L dt ow Ks f g Z) 8 (.g 0)=some (.o 3 (dlF R L dt ow Ks f g)):=by have c:=Jg (G:=hG R L dt ow Ks f g Z) (k:=1) (n:=5) rfl;have a:=Jg (G:=hG R L dt ow Ks f g Z) (k:=2) (n:=5) rfl;have b:=Jg (G:=hG R L dt ow Ks f g Z) (k:=3) (n:=5) rfl;have d:=Jg (G:=hG R L dt ow Ks f g Z) (k:=4) (n:=5) rfl;show Option.map (PV.o 3) (Q6 (kG (hG R L dt ow Ks f g Z) 7) _)=_;show Option.map (PV.o 3) ((some (.d (cK R))).bind λy=>(((some (.d (iK L))).bind λy=>(((kG (hG R L dt ow Ks f g Z) 7 (.g 1)).bind λy=>(((kG (hG R L dt ow Ks f g Z) 7 (.g 2)).bind λy=>(((kG (hG R L dt ow Ks f g Z) 7 (.g 3)).bind λy=>(((kG (hG R L dt ow Ks f g Z) 7 (.g 4)).bind λy=>(some []).map ((("key_prices":Str),y)::·))).map ((("thing_prices":Str),y)::·))).map ((("owners":Str),y)::·))).map ((("dealt":Str),y)::·))).map ((("leaving":Str),y)::·))).map ((("costs":Str),y)::·))=_;rw[c,a,b,d];rfl
def Wr{a:Type}{v:Key->a}:(fK K v).length=K.length:=u8 _
def t9(nd:Rd.Nodup)(sub:∀t∈Rd,t∈R.map (·.1))(J:(Ah.map (·.1)).Nodup)(N:∀k∈Ah.map (·.1),k∈Ks)(I:R.length<=1000)(K:Ks.length<=1000):
  jz [.g 0,.g (X.length+5),.g (X.length+6),.v (.i r)] (hG R L dt ow Ks f g (hY Rd Ah X))=.ok (.v .n) (hG R L dt ow Ks (upF f Rd r) (dnF g (Ah.map (·.1)) r) (hY Rd Ah X)):=by
 have lt:∀{n:Nat},n<=1000->n<sizeLine:=λh=>L8 h (by decide);obtain⟨E,o,⟨d,s,p⟩,A⟩:=UU (gg:=qv) (bb:=qw) (q:=X.length+5) (λj y G=>∃d:Option HV,y=[some (.g 0),some (.g (X.length+5)),some (.g (X.length+6)),some (.v (.i r)),d,none]/\G=hG R L dt ow Ks (upF f (Rd.take j) r) g (hY Rd Ah X)) ((Rd.map kP).map .v) (λj y G ⟨d,_,e⟩=>by subst e;exact hY0) (λj v y G ⟨d,A,u⟩=>by
  subst A u;have m:j<Rd.length:=by rwa [u8,u8]at v
  rw[a0m,a0m];have B:=sub _ (O4 m);have hn:Rd[j]∉Rd.take j:=λz=>by obtain⟨i,H,e⟩:=O9.mp z;rw[a1b]at e;have:=(a0T nd).mp e;rw[a0l]at H;omega
  refine⟨_,rfl,_,_,⟨_,rfl,?_⟩,iw (k:=3) (q:=Rd[j]) (a:=f Rd[j]) (b:=r) (Xu (k:=0) rfl rfl (by decide) rfl) rfl rfl (by rw[Vr B];unfold upF;rw[if_neg hn]) rfl (by rw[Wr,u8];exact lt I)⟩;show dO R L::_::_::Cell.d (vK (dput (fK (R.map (·.1)) λt=>PV.i (upF f (Rd.take j) r t)) Rd[j] (.i (f Rd[j]+r))))::_::_=_;rw[ir (w:=λt=>PV.i (upF f (Rd.take (j+1)) r t)) B]
  .unfold upF;rw[if_pos ((jH m).mpr (.inr rfl))]
  .intro t F;unfold upF;by_cases c:t∈Rd.take j
   .rw[if_pos c,if_pos ((jH m).mpr (.inl c))]
   .rw[if_neg c,if_neg λz=>((jH m).mp z).elim c F]) ((Rd.map kP).map HV.v).length 0 [some (.g 0),some (.g (X.length+5)),some (.g (X.length+6)),some (.v (.i r)),none,none] (hG R L dt ow Ks f g (hY Rd Ah X)) ⟨none,rfl,by
   rw[show upF f (Rd.take 0) r=f from funext λt=>if_neg S8]⟩ (a0R _)
 subst s p;rw[u8,u8,O6 (E5 _)]at A;obtain⟨E,o,⟨C,s,p⟩,u⟩:=bp (gg:=qx) (bb:=qy) (λk=>HV.v (kP k)) (λj y G=>∃C:Option HV,y=[some (.g 0),some (.g (X.length+5)),some (.g (X.length+6)),some (.v (.i r)),d,C]/\G=hG R L dt ow Ks (upF f Rd r) (dnF g ((Ah.map (·.1)).take j) r) ((hY Rd Ah X).set (X.length+1) (.z (vK (owP Ah))))) (Ah.map (·.1)) [some (.g 0),some (.g (X.length+5)),some (.g (X.length+6)),some (.v (.i r)),d,none] (hG R L dt ow Ks (upF f Rd r) g ((hY Rd Ah X).set (X.length+1) (.z (vK (owP Ah))))) ⟨none,rfl,by
   rw[show dnF g ((Ah.map (·.1)).take 0) r=g from funext λt=>if_neg S8]⟩ (λj v y G ⟨C,A,u⟩=>by
  subst A u;have B:=N _ (O4 v);generalize ek:(Ah.map (·.1))[j]=k at B;have hn:k∉(Ah.map (·.1)).take j:=λz=>by obtain⟨i,H,e⟩:=O9.mp z;rw[a1b,<- ek]at e;have:=(a0T J).mp e;rw[a0l]at H;omega
  refine⟨_,rfl,_,_,⟨_,rfl,?_⟩,iw (k:=4) (q:=k) (a:=g k) (b:=r) (Xu (k:=0) rfl rfl (by decide) rfl) rfl rfl (by rw[Vr B];unfold dnF;rw[if_neg hn]) rfl (by rw[Wr];exact lt K)⟩;show dO R L::_::_::_::Cell.d (vK (dput (fK Ks λt=>PV.i (dnF g ((Ah.map (·.1)).take j) r t)) k (.i (g k-r))))::_=_;rw[ir (w:=λt=>PV.i (dnF g ((Ah.map (·.1)).take (j+1)) r t)) B]
  .unfold dnF;rw[if_pos ((jH v).mpr (.inr ek.symm))]
  .intro t F;unfold dnF;by_cases c:t∈(Ah.map (·.1)).take j
   .rw[if_pos c,if_pos ((jH v).mpr (.inl c))]
   .rw[if_neg c,if_neg λz=>((jH v).mp z).elim c λw=>F (w.trans ek)])
 subst s p;rw[O6 (E5 _)]at u;have M:tF (yn 1) qv qw [some (.g 0),some (.g (X.length+5)),some (.g (X.length+6)),some (.v (.i r)),none,none] (hG R L dt ow Ks f g (hY Rd Ah X))=.nx [some (.g 0),some (.g (X.length+5)),some (.g (X.length+6)),some (.v (.i r)),d,none] (hG R L dt ow Ks (upF f Rd r) g (hY Rd Ah X)):=by show(match(hY Rd Ah X)[X.length]? with|some (.l P)=>JV (X.length+5) qv qw P.length 0 _ _|_=>HFw.wall)=_;rw[hY0];dsimp only;rw[u8,u8];exact A
 have O:m8 2 qx qy [some (.g 0),some (.g (X.length+5)),some (.g (X.length+6)),some (.v (.i r)),d,none] (hG R L dt ow Ks (upF f Rd r) g (hY Rd Ah X))=.nx [some (.g 0),some (.g (X.length+5)),some (.g (X.length+6)),some (.v (.i r)),d,C] (hG R L dt ow Ks (upF f Rd r) (dnF g (Ah.map (·.1)) r) (hY Rd Ah X)):=by
  show(match(hY Rd Ah X)[X.length+1]? with|some (.d l)=>thw (X.length+6) (Wg qx qy ((l.map λ(D:Key×HV)=>kP D.1).map HV.v) _ (hG R L dt ow Ks (upF f Rd r) g ((hY Rd Ah X).set (X.length+1) (.z l))))|_=>HFw.wall)=_;rw[hY1];dsimp only;have:(((vK (owP Ah)).map λD=>kP D.1).map HV.v)=(Ah.map (·.1)).map λk=>HV.v (kP k):=by unfold vK owP;rw[F4,F4,F4,F4];rfl
  rw[this,u];show(match((hY Rd Ah X).set (X.length+1) (.z (vK (owP Ah))))[X.length+1]? with|some (.z l)=>HFw.nx _ (hG R L dt ow Ks (upF f Rd r) (dnF g (Ah.map λ(x:Key×Key)=>x.1) r) (((hY Rd Ah X).set (X.length+1) (.z (vK (owP Ah)))).set (X.length+1) (.d l)))|_=>HFw.wall)=_;rw[M7 (by unfold hY;rw[F7];exact N9 _)];dsimp only;rw[List.set_set,set_same hY1]
 show(match jx [some (.g 0),some (.g (X.length+5)),some (.g (X.length+6)),some (.v (.i r)),none,none] (hG R L dt ow Ks f g (hY Rd Ah X))with | .nx _ o=>HX.ok (HV.v .n) o | .rt x o=>.ok x o | .exc c fs o=>.exc c fs o|_=>.wall)=_;rw[show jx [some (.g 0),some (.g (X.length+5)),some (.g (X.length+6)),some (.v (.i r)),none,none] (hG R L dt ow Ks f g (hY Rd Ah X))=_ from zv M O]
end
theorem Xv{c:HMT}{b:HMS}:∀{n:Nat}{e:kJ}{G:AH},z4 c b n e G≠.wall->z4 c b (n+1) e G=z4 c b n e G
 |0,e,G,h=>absurd (by rw[z4]) h
 |n+1,e,G,h=>by
  rw[z4.eq_2]at h;rw[z4.eq_2,z4.eq_2 _ _ _ _ n];revert h;cases c e G with
  |wall=>exact λh=>absurd rfl h
  |exc c fs f=>exact λ_=>rfl
  |ok t f=>
   cases t with
   |false=>exact λ_=>rfl
   |true=>
    show(match b e f with | .nx a d=>z4 c b n a d | .ct a d=>z4 c b n a d | .bk a d=>.nx a d | .rt v d=>.rt v d | .exc c fs d=>.exc c fs d | .wall=>.wall)≠HFw.wall->(match b e f with | .nx a d=>z4 c b (n+1) a d | .ct a d=>z4 c b (n+1) a d | .bk a d=>.nx a d | .rt v d=>.rt v d | .exc c fs d=>.exc c fs d | .wall=>.wall)=(match b e f with | .nx a d=>z4 c b n a d | .ct a d=>z4 c b n a d | .bk a d=>.nx a d | .rt v d=>.rt v d | .exc c fs d=>.exc c fs d | .wall=>.wall);cases b e f with
    |nx a d=>exact λh=>Xv h
    |ct a d=>exact λh=>Xv h
    |bk a d=>exact λ_=>rfl
    |rt v d=>exact λ_=>rfl
    |exc c fs d=>exact λ_=>rfl
    |wall=>exact λ_=>rfl
def c4(h:z4 c b n ρ G≠.wall)(d:n<=m):z4 c b m ρ G=z4 c b n ρ G:=by
 induction d with
 |refl=>rfl
 |step _ a=>rw[Xv (by rw[a];exact h),a]
def UX(h:z4 c b n ρ G=o)(d:o≠.wall):KW c b ρ G=o:=by
 have a:∃n,z4 c b n ρ G≠.wall:=⟨n,by rw[h];exact d⟩;unfold KW;rw[dif_pos a];have e:=S6 a;generalize Classical.choose a=m at e;rcases Nat.le_total n m with q|q
 .rw[c4 (by rw[h];exact d) q,h]
 .rw[<- c4 e q,h]
def c5(f:c ρ G=.ok true G)(e:b ρ G=.rt x G'):z4 c b (n+1) ρ G=.rt x G':=by rw[z4,f];show(match b ρ G with | .nx a d=>z4 c b n a d | .ct a d=>z4 c b n a d | .bk a d=>.nx a d | .rt v d=>.rt v d | .exc c fs d=>.exc c fs d | .wall=>HFw.wall)=_;rw[e]
def c6(f:c ρ G=.ok true G)(e:b ρ G=.nx ρ' G'):z4 c b (n+1) ρ G=z4 c b n ρ' G':=by rw[z4,f];show(match b ρ G with | .nx a d=>z4 c b n a d | .ct a d=>z4 c b n a d | .bk a d=>.nx a d | .rt v d=>.rt v d | .exc c fs d=>.exc c fs d | .wall=>HFw.wall)=_;rw[e]
def AO(a:Q5 bs ρ=none)(d:QS G bs ρ=some r)(b:m r=.ok x)(c:imm x=true):hP bs m ρ G=.ok (.v x) G:=by unfold hP;rw[a,d];dsimp only;rw[b];dsimp only;rw[if_pos c]
def iy(o:Fs):imm (oP o)=true:=by
 cases o with
 |none=>rfl
 |some k=>exact US k
def Qt(o:Fs):isN (oP o)=o.isNone:=by
 cases o with
 |none=>rfl
 |some k=>cases k<;>rfl
def Xw:dput (dtP dt) t (oP o)=dtP (dput dt t o):=ZG (f:=oP)
def iz:dput (owP ow) t (kP o)=owP (dput ow t o):=ZG (f:=kP)
section
variable {R:Cs}{L:Row}{dt:ES}{ow Ah:EU}{Ks Rd D:EG}{f g:Fi}{X:AH}{th fs:Fg}{key:Fs}{b4:Option HV}
def c7(c:dt.length<=1000)(b:ow.length<=1000)(a:K [some (.g 0),some (.v (kP th)),some (.v (oP key)),some (.g (X.length+6)),some (.v (oP (zK dt th).join))] (hG R L (dput dt th key) (eE ow key th) Ks f g (hY Rd Ah X))=o):
  qt (wX 4 (hP [true,true] (Ar (aQ [3] "dealt" (zc 0)) (zc 1)))) (qt (Wf (eP [3] "dealt" (yn 0)) (yn 1) (yn 2)) (qt (hIf (hPT [false,false,true] (zW (mOp (VN true) (zc 2) (mC .n)))) (Wf (eP [3] "owners" (yn 0)) (yn 2) (yn 1)) Y1) K)) [some (.g 0),some (.v (kP th)),some (.v (oP key)),some (.g (X.length+6)),b4] (hG R L dt ow Ks f g (hY Rd Ah X))=o:=by
 have lt:∀{n:Nat},n<=1000->n<sizeLine:=λh=>L8 h (by decide);have d:wX 4 (hP [true,true] (Ar (aQ [3] "dealt" (zc 0)) (zc 1))) [some (.g 0),some (.v (kP th)),some (.v (oP key)),some (.g (X.length+6)),b4] (hG R L dt ow Ks f g (hY Rd Ah X))=.nx [some (.g 0),some (.v (kP th)),some (.v (oP key)),some (.g (X.length+6)),some (.v (oP (zK dt th).join))] (hG R L dt ow Ks f g (hY Rd Ah X)):=by refine yF (AO rfl (V4 UW (V4 rfl (AK (AK (AK uK))))) ?_ (iy _));unfold Ar;rw[show aQ [3] "dealt" (zc 0) [some (.o 3 (dlF R L dt ow Ks f g)),some (kP th),none,none,none]=.ok (.d (dtP dt))from Jz rfl (by decide) rfl,okb];show pG (dtP dt) (kP th)=_;unfold pG;rw[Vq];dsimp only;rw[iu];cases zK dt th<;>rfl
 refine zv d (zv (ρ':=[some (.g 0),some (.v (kP th)),some (.v (oP key)),some (.g (X.length+6)),some (.v (oP (zK dt th).join))]) (G':=hG R L (dput dt th key) ow Ks f g (hY Rd Ah X)) ?_ (zv (ρ':=[some (.g 0),some (.v (kP th)),some (.v (oP key)),some (.g (X.length+6)),some (.v (oP (zK dt th).join))]) ?_ a))
 .refine(kA (k:=1) (q:=th) (y:=oP key) rfl (Xu (k:=0) rfl rfl (by decide) rfl) rfl rfl (by unfold dtP;rw[u8];exact lt c)).trans ?_;rw[Xw];rfl
 .cases key with
  |none=>exact eD (Qr rfl (zP (zj rfl rfl rfl)))
  |some k=>refine(nM (Qr rfl (zP (zj (z:=.b true) rfl rfl (by show Out.ok (PV.b (xor true (isN (oP (some k)))))=_;rw[Qt];rfl))))).trans ?_;refine(kA (k:=2) (q:=k) (y:=kP th) rfl (Xu (k:=0) rfl rfl (by decide) rfl) rfl rfl (by unfold owP;rw[u8];exact lt b)).trans ?_;rw[iz];rfl
def iA(a:dt.length<=1000)(b:ow.length<=1000)(hn:(zK dt th).join=none):jF [some (.g 0),some (.v (kP th)),some (.v (oP key)),some (.g (X.length+6)),b4] (hG R L dt ow Ks f g (hY Rd Ah X))=.rt (.v .n) (hG R L (dput dt th key) (eE ow key th) Ks f g (hY Rd Ah X)):=by refine c7 a b (ie ?_);rw[hn];exact nM (Qr rfl (zP (zj rfl rfl rfl)))
def t_(a:dt.length<=1000)(b:ow.length<=1000)(hn:(zK dt th).join=some k)(c:zK Ah k=some t'):jF [some (.g 0),some (.v (kP th)),some (.v (oP key)),some (.g (X.length+6)),b4] (hG R L dt ow Ks f g (hY Rd Ah X))=.nx [some (.g 0),some (.v (kP t')),some (.v (kP k)),some (.g (X.length+6)),some (.v (kP k))] (hG R L (dput dt th key) (eE ow key th) Ks f g (hY Rd Ah X)):=by
 refine c7 a b (zv (ρ':=[some (.g 0),some (.v (kP th)),some (.v (oP key)),some (.g (X.length+6)),some (.v (kP k))]) (G':=hG R L (dput dt th key) (eE ow key th) Ks f g (hY Rd Ah X)) ?_ (zv (ρ':=[some (.g 0),some (.v (kP t')),some (.v (oP key)),some (.g (X.length+6)),some (.v (kP k))]) (G':=hG R L (dput dt th key) (eE ow key th) Ks f g (hY Rd Ah X)) ?_ ?_))
 .rw[hn];exact eD (Qr rfl (zP (zj (z:=.b false) rfl rfl (by show Out.ok (PV.b (xor false (isN (oP (some k)))))=_;rw[Qt];rfl))))
 .exact yF (AO rfl (vt (vt (vt (V4 (Jg (kvs:=owP Ah) hY1) (V4 rfl uK))))) (zj rfl rfl (ixD (by rw[Xt,c];rfl))) (US _))
 .exact yF rfl
theorem iB(nd:Rd.Nodup)(l:Rd[0]?=some fs)(len:Rd.length=Ah.length+1)(sub:∀t∈Rd,t∈(pb R L).T)(d:fs∉D)(o:(Ah.map (·.1)).Nodup)(H:D.length<=1000)(x:∀ow:List (Key×Key),(ow.map (·.1)).Nodup->(∀q∈ow,q.2∈(pb R L).T/\q.1∈(pb R L).row q.2)->ow.length<=1000)
  (w:∀(i:Nat) q,Ah[i]?=some q->q.1∈(pb R L).row q.2/\f q.2+g q.1=(pb R L).c q.2 q.1/\∃j,j<=i/\Rd[j]?=some q.2):∀(m j:Nat),j<m->∀(th:Fg)(key:Fs)(dt:ES)(ow:EU)(b4:Option HV),Hn (pb R L) f g fs D Rd Ah j th key dt ow->
  ∃b a,z4 kT jF m [some (.g 0),some (.v (kP th)),some (.v (oP key)),some (.g (X.length+6)),b4] (hG R L dt ow Ks f g (hY Rd Ah X))=.rt (.v .n) (hG R L b a Ks f g (hY Rd Ah X))/\De (pb R L) f g (D++[fs]) b a/\∀k,zK a k=none->zK ow k=none
 |0,j,h,_,_,_,_,_,_=>absurd h (T4 _)
 |m+1,j,K,th,key,dt,ow,b4,h=>by
  have n:dt.length<=1000:=by have:=G8 List.length h.keys;rw[u8]at this;omega
  have c:=x ow h.on h.ob;have r:=sub _ (O2 h.at');have p:kT [some (.g 0),some (.v (kP th)),some (.v (oP key)),some (.g (X.length+6)),b4] (hG R L dt ow Ks f g (hY Rd Ah X))=.ok true (hG R L dt ow Ks f g (hY Rd Ah X)):=rfl;have ext:∀k,zK (eE ow key th) k=none->zK ow k=none:=λk e=>by
   rw[Xr]at e;split at e
   .cases e
   .exact e
  cases j with
  |zero=>have u:=h.at';rw[l]at u;cases u;have hn:zK dt fs=none:=Qs.mpr (h.keys▸d);exact⟨_,_,c5 p (iA n c (by rw[hn];rfl)),h.last r hn,ext⟩
  |succ i=>
   have v:i<Ah.length:=by have:=(E7.mp h.at').1;omega
   have s:=E1 v;have hn:=h.e i _ _ (N9 _) s h.at';obtain⟨z,F,E,J,I⟩:=w i _ s;have G:zK Ah Ah[i].1=some Ah[i].2:=qC o (O4 v);have y:=h.next r hn (by omega) nd I ⟨z,F⟩;obtain⟨b,a,C,A,B⟩:=iB nd l len sub d o H x w m E (by omega) _ _ _ _ (some (.v (kP Ah[i].1))) y;exact⟨b,a,(c6 p (t_ n c (by rw[hn];rfl) G)).trans C,A,λk e=>ext k (B k e)⟩
end
theorem Lp.hn{κ:Type}[DecidableEq κ]{p:Pb κ}{f g:κ->Int}{fs t:κ}{d:Option κ}{D:List κ}{dt:List (κ×Option κ)}{ow:List (κ×κ)}{R:List κ}{Ah:List (κ×κ)}(h:Lp p f g fs D dt ow R Ah){j:Nat}(n:R[j]?=some t)(r:d=none->f t=p.L t)(s:∀k,d=some k->k∈p.row t/\f t+g k=p.c t k)(hn:∀k,d=some k->zK ow k=none):Hn p f g fs D R Ah j t d dt ow where
 at':=n
 keys:=h.de.keys
 a:=λt k e=>⟨λz=>by(have:=(h.de.a t k e).2.2;rw[hn k z.symm]at this;cases this),h.de.a t k e⟩
 b:=h.de.b
 c:=λk t _ e=>h.de.c k t e
 d0:=r
 d1:=s
 e:=λi q t w o u=>by obtain⟨v,l,m⟩:=h.own i q o;rw[u]at l;cases l;exact h.de.c _ _ m
 ob:=h.de.ob
 on:=h.de.on
def ua(h1:mo ρ G=.ok (.g k) G)(h2:G[k]?=some (.l xs))(h3:ma ρ G=.ok y G)(hl:xs.length<sizeLine):BB mo ma ρ G=.nx ρ (G.set k (.l (xs++[y]))):=by unfold BB;rw[h1];show(match G[k]? with|some (.l _)=>_|_=>_)=_;rw[h2];show((ma ρ G).fw _)=_;rw[h3];show(match G[k]? with|some (.l xs)=>_|_=>_)=_;rw[h2];dsimp only;rw[if_pos hl]
def AQ:imm (.t [.i r,kP t,oP ko])=true:=by show(imm (.i r)&&(imm (kP t)&&(imm (oP ko)&&true)))=true;rw[US,iy];rfl
def AR{Rd:EG}{Ah:EU}{X:AH}{k t:Fg}(hn:k∉Ah.map (·.1)):(hY Rd Ah X).set (X.length+1) (.d (vK (dput (owP Ah) k (kP t))))=hY Rd (Ah++[(k,t)]) X:=by
 have:dput Ah k t=Ah++[(k,t)]:=by unfold dput;rw[jU,Qs.mpr hn];exact if_neg (λz=>by cases z)
 rw[iz,this];unfold hY;rw[a1l _ _ (a1e _ 1),a19];rfl
def AS{Rd:EG}{Ah:EU}{X:AH}{t:Fg}:(hY Rd Ah X).set X.length (.l ((Rd.map kP).map .v++[.v (kP t)]))=hY (Rd++[t]) Ah X:=by unfold hY;rw[a1l _ _ (E5 _),a0d,F8,F8];rfl
def lq(a:Q5 bs ρ=some r)(b:m r=.ok x)(d:mU x=some c):hF bs m ρ G=.ok (.g G.length) (G++[c]):=by unfold hF;rw[a];dsimp only;rw[b];dsimp only;rw[d]
section
variable {R:Cs}{L:Row}{Ks D:EG}{X:AH}{fs:Fg}{dt:ES}{ow:EU}
theorem c8(hL:L.map (·.1)=R.map (·.1))(hR:R.length<=1000)(hK:Ks.length<=1000)(hk:∀t∈R.map (·.1),∀k∈(pb R L).row t,k∈Ks)(hD:D.length<=1000)(hT:∀x∈D,x∈R.map (·.1)):
  ∀(m:Nat)(f g:Fi)(Rd:EG)(Ah:EU)(o4 o5:Option HV),Ks.length+1<=m+Ah.length->Lp (pb R L) f g fs D dt ow Rd Ah->
  ∃f' g' dt' ow' X',z4 jY v5 m [some (.g 0),some (.v (kP fs)),some (.g (X.length+5)),some (.g (X.length+6)),o4,o5] (hG R L dt ow Ks f g (hY Rd Ah X))=.rt (.v .n) (hG R L dt' ow' Ks f' g' X')/\Fe (pb R L) f' g' ow'/\De (pb R L) f' g' (D++[fs]) dt' ow'
 |0,f,g,Rd,Ah,o4,o5,hm,h=>by
  have ha:∀k∈Ah.map (·.1),k∈Ks:=λk z=>by obtain⟨q,hq,rfl⟩:=M6.mp z;obtain⟨i,hi,rfl⟩:=O9.mp hq;obtain⟨h1,_,j,_,h3⟩:=h.tg i _ (E1 hi);exact hk _ (h.sub _ (O2 h3)) _ h1
  have:=jC h.kn ha;rw[u8]at this;omega
 |m+1,f,g,Rd,Ah,o4,o5,hm,h=>by
  have hne:Rd≠[]:=λz=>by have:=h.hd;rw[z]at this;cases this
  have ha:∀k∈Ah.map (·.1),k∈Ks:=λk z=>by obtain⟨q,hq,rfl⟩:=M6.mp z;obtain⟨i,hi,rfl⟩:=O9.mp hq;obtain⟨h1,_,j,_,h3⟩:=h.tg i _ (E1 hi);exact hk _ (h.sub _ (O2 h3)) _ h1
  have hO:∀ow:List (Key×Key),(ow.map (·.1)).Nodup->(∀q∈ow,q.2∈(pb R L).T/\q.1∈(pb R L).row q.2)->ow.length<=1000:=λow h1 h2=>by
   have:=jC h1 (b:=Ks) λk z=>by obtain⟨q,hq,rfl⟩:=M6.mp z;exact hk _ (h2 q hq).1 _ (h2 q hq).2
   rw[u8]at this;omega
  obtain⟨r,t,ko,M,e1⟩:=nO (R:=R) (L:=L) (dt:=dt) (ow:=ow) (Ah:=Ah) (Ks:=Ks) (f:=f) (g:=g) (Rd:=Rd) hL h.sub hne hk;have r0:0<=r:=by
   have ht:=h.sub _ M.mem;cases ko with
   |none=>have:=M.n rfl;have:=h.fe.le t ht;omega
   |some k=>obtain⟨a1,a2,a3⟩:=M.s k rfl;have:=h.fe.pr t ht k a1;omega
  have h':=h.move r0 M.m1 M.m2;have g0:ko=none->upF f Rd r t=(pb R L).L t:=λz=>by have:=M.n z;unfold upF;rw[if_pos M.mem];omega
  have g1:∀k,ko=some k->k∈(pb R L).row t/\upF f Rd r t+dnF g (Ah.map (·.1)) r k=(pb R L).c t k:=λk z=>by obtain⟨a1,a2,a3⟩:=M.s k z;refine⟨a1,?_⟩;unfold upF dnF;rw[if_pos M.mem,if_neg a2];omega
  have mv:=t9 (R:=R) (L:=L) (dt:=dt) (ow:=ow) (Ks:=Ks) (f:=f) (g:=g) (X:=X) (r:=r) h.nd h.sub h.kn ha hR hK;generalize upF f Rd r=f' at h' g0 g1 mv;generalize dnF g (Ah.map (·.1)) r=g' at h' g1 mv;have hc:∀{ρ G},jY ρ G=.ok true G:=λ{ρ G}=>by
   refine Qr (r:=List.replicate ρ.length none) ?_ rfl
   induction ρ with
   |nil=>rfl
   |cons a ρ ih=>show(Q5 [] ρ).map _=_;rw[ih];rfl
  have s1:wX 4 (hP [true,false,true,true] (zg qa (zb (zc 0) (zb (zc 2) (zb (zc 3) zr))))) [some (.g 0),some (.v (kP fs)),some (.g (X.length+5)),some (.g (X.length+6)),o4,o5] (hG R L dt ow Ks f g (hY Rd Ah X))=.nx [some (.g 0),some (.v (kP fs)),some (.g (X.length+5)),some (.g (X.length+6)),some (.v (.t [.i r,kP t,oP ko])),o5] (hG R L dt ow Ks f g (hY Rd Ah X)):=
   yF (AO rfl (V4 UW (vt (V4 (CW (xs:=Rd.map kP) hY0) (V4 (Jg (kvs:=owP Ah) hY1) (AK (AK uK)))))) (zy rfl e1) AQ)
  have s2:W_ (W8 jz (ya (yn 0) (ya (yn 2) (ya (yn 3) (ya (hP [false,false,false,false,true] (mOp pIx (zc 4) (mC (.i 0)))) aW))))) [some (.g 0),some (.v (kP fs)),some (.g (X.length+5)),some (.g (X.length+6)),some (.v (.t [.i r,kP t,oP ko])),o5] (hG R L dt ow Ks f g (hY Rd Ah X))=.nx [some (.g 0),some (.v (kP fs)),some (.g (X.length+5)),some (.g (X.length+6)),some (.v (.t [.i r,kP t,oP ko])),o5] (hG R L dt ow Ks f' g' (hY Rd Ah X)):=
   Kg (Kh (vI rfl (vI rfl (vI rfl (vI (bo rfl rfl) rfl)))) mv)
  have s3:wX 5 (hP [false,false,false,false,true] (mOp pIx (zc 4) (mC (.i 2)))) [some (.g 0),some (.v (kP fs)),some (.g (X.length+5)),some (.g (X.length+6)),some (.v (.t [.i r,kP t,oP ko])),o5] (hG R L dt ow Ks f' g' (hY Rd Ah X))=.nx [some (.g 0),some (.v (kP fs)),some (.g (X.length+5)),some (.g (X.length+6)),some (.v (.t [.i r,kP t,oP ko])),some (.v (oP ko))] (hG R L dt ow Ks f' g' (hY Rd Ah X)):=yF (bo rfl rfl)
  -- is it handed on
  have hand:(∀k,ko=some k->zK ow k=none)->∃f' g' dt' ow' X',z4 jY v5 (m+1) [some (.g 0),some (.v (kP fs)),some (.g (X.length+5)),some (.g (X.length+6)),o4,o5] (hG R L dt ow Ks f g (hY Rd Ah X))=.rt (.v .n) (hG R L dt' ow' Ks f' g' X')/\Fe (pb R L) f' g' ow'/\De (pb R L) f' g' (D++[fs]) dt' ow':=λhn=>by
   obtain⟨j,hj,ej⟩:=O9.mp M.mem;have hh:=h'.hn (j:=j) (by rw[<- ej];exact E1 hj) g0 g1 hn;obtain⟨dt',ow',q1,q2,q3⟩:=iB (X:=X) (Ks:=Ks) h'.nd h'.hd h'.len h'.sub h'.fst h'.kn hD hO h'.tg (j+1) j (N9 _) t ko dt ow none hh;refine⟨f',g',dt',ow',hY Rd Ah X,c5 hc (zv s1 (zv s2 (zv s3 (ie ?_)))),⟨h'.fe.le,h'.fe.pr,h'.fe.np,λk e=>h'.fe.un k (q3 k e)⟩,q2⟩;have tt:hPT [true,false,false,false,false,true] (mOr (zW (mOp (VN false) (zc 5) (mC .n))) (zW (mOp (pIn true) (zc 5) (aQ [3] "owners" (zc 0))))) [some (.g 0),some (.v (kP fs)),some (.g (X.length+5)),some (.g (X.length+6)),some (.v (.t [.i r,kP t,oP ko])),some (.v (oP ko))] (hG R L dt ow Ks f' g' (hY Rd Ah X))=.ok true (hG R L dt ow Ks f' g' (hY Rd Ah X)):=by
    refine Vp rfl (V4 UW (vt (vt (vt (vt (V4 rfl uK)))))) ?_;cases ko with
    |none=>exact pN (zP rfl)
    |some k=>refine V3 (x:=false) (y:=true) (zP (zj rfl rfl (by show Out.ok (PV.b (xor false (isN (oP (some k)))))=_;rw[Qt];rfl))) (zP (zj (x:=kP k) rfl (Jz rfl (by decide) rfl) (ip.trans ?_)));rw[Xt,hn k rfl];rfl
   refine(nM tt).trans (zv (Kg (Kh (vI rfl (vI (bo rfl rfl) (vI rfl (vI rfl rfl)))) (G':=hG R L dt' ow' Ks f' g' (hY Rd Ah X)) (x:=.v .n) ?_)) rfl);show(match KW kT jF [some (.g 0),some (.v (kP t)),some (.v (oP ko)),some (.g (X.length+6)),none] (hG R L dt ow Ks f' g' (hY Rd Ah X))with | .nx _ G'=>HX.ok (HV.v .n) G' | .rt x G'=>.ok x G' | .exc c fs G'=>.exc c fs G'|_=>.wall)=_;rw[UX q1 (λz=>by cases z)]
  cases ko with
  |none=>exact hand λk z=>by cases z
  |some k=>
   cases ek:zK ow k with
   |none=>exact hand λj z=>by cases z;exact ek
   |some t'=>
    obtain⟨a1,a2,a3⟩:=M.s k rfl;have h2:=h'.more hT M.mem a1 a2 (g1 k rfl).2 ek;obtain⟨f2,g2,dt',ow',X',q1,q2,q3⟩:=c8 hL hR hK hk hD hT m f' g' (Rd++[t']) (Ah++[(k,t)]) (some (.v (.t [.i r,kP t,kP k]))) (some (.v (kP k))) (by rw[F7];show _<=m+(Ah.length+1);omega) h2;refine⟨f2,g2,dt',ow',X',(c6 hc (zv s1 (zv s2 (zv s3 (zv (ρ':=[some (.g 0),some (.v (kP fs)),some (.g (X.length+5)),some (.g (X.length+6)),some (.v (.t [.i r,kP t,kP k])),some (.v (kP k))]) (G':=hG R L dt ow Ks f' g' (hY Rd Ah X)) ?_ (zv (ρ':=[some (.g 0),some (.v (kP fs)),some (.g (X.length+5)),some (.g (X.length+6)),some (.v (.t [.i r,kP t,kP k])),some (.v (kP k))]) (G':=hG R L dt ow Ks f' g' (hY Rd (Ah++[(k,t)]) X)) ?_ ?_)))))).trans q1,q2,q3⟩
    .refine eD (Vp rfl (V4 UW (vt (vt (vt (vt (V4 rfl uK)))))) ?_);refine V3 (x:=false) (y:=false) (zP (zj rfl rfl (by show Out.ok (PV.b (xor false (isN (oP (some k)))))=_;rw[Qt];rfl))) (zP (zj (x:=kP k) rfl (Jz rfl (by decide) rfl) (ip.trans ?_)));rw[Xt,ek];rfl
    .refine(kA (k:=X.length+6) (q:=k) (y:=kP t) (kvs:=owP Ah) (bo rfl rfl) rfl rfl hY1 (L8 (show(owP Ah).length<=1000 from ?_) (by decide))).trans ?_
     .have:=jC h.kn ha;unfold owP;rw[u8]at this ⊢;omega
     .show HFw.nx _ (hG R L dt ow Ks f' g' ((hY Rd Ah X).set (X.length+1) (.d (vK (dput (owP Ah) k (kP t))))))=_;rw[AR a2]
    .refine(ua (k:=X.length+5) (y:=.v (kP t')) (xs:=(Rd.map kP).map .v) rfl hY0 (AO rfl (V4 UW (vt (vt (vt (vt (V4 rfl uK)))))) (zj (Jz rfl (by decide) rfl) rfl (ixD (by rw[Xt,ek];rfl))) (US _)) (L8 (show _<=1000 from ?_) (by decide))).trans ?_
     .have:=jC h.nd h.sub;have e:(pb R L).T.length=R.length:=u8 _;rw[u8,u8];omega
     .show HFw.nx _ (hG R L dt ow Ks f' g' ((hY Rd (Ah++[(k,t)]) X).set X.length (.l ((Rd.map kP).map .v++[.v (kP t')]))))=_;rw[AS]
def AU(v:L.map (·.1)=R.map (·.1))(n:R.length<=1000)(u:Ks.length<=1000)(B:∀t∈R.map (·.1),∀k∈(pb R L).row t,k∈Ks)(A:D.length<=1000)(w:∀x∈D,x∈R.map (·.1))(hf:fs∉D)(m:fs∈R.map (·.1))(F:Fe (pb R L) f g ow)(C:De (pb R L) f g D dt ow):
  ∃h j b a l,YF [.g 0,.v (kP fs)] (hG R L dt ow Ks f g X)=.ok (.v .n) (hG R L b a Ks h j l)/\Fe (pb R L) h j a/\De (pb R L) h j (D++[fs]) b a:=by
 obtain⟨h,j,b,a,l,s,o,p⟩:=c8 (X:=X) (fs:=fs) v n u B A w (Ks.length+1) f g [fs] [] none none (E5 _) ⟨F,C,I0.mpr ⟨S8,M9⟩,rfl,rfl,λi q e=>(by cases e),λt y=>by rw[E8.mp y];exact m,hf,M9,λi q e=>(by cases e)⟩;refine⟨h,j,b,a,l,?_,o,p⟩;have E:wX 2 (hF [false,true] (VO (zb (zc 1) zr))) [some (.g 0),some (.v (kP fs)),none,none,none,none] (hG R L dt ow Ks f g X)=.nx [some (.g 0),some (.v (kP fs)),some (.g (X.length+5)),none,none,none] (hG R L dt ow Ks f g (X++[.l [.v (kP fs)]])):=by exact yF (lq rfl (Xp rfl (show 1<=sizeLine by decide)) rfl)
 have r:wX 3 (hF [] kI) [some (.g 0),some (.v (kP fs)),some (.g (X.length+5)),none,none,none] (hG R L dt ow Ks f g (X++[.l [.v (kP fs)]]))=.nx [some (.g 0),some (.v (kP fs)),some (.g (X.length+5)),some (.g (X.length+6)),none,none] (hG R L dt ow Ks f g (hY [fs] [] X)):=by refine(yF (x:=.g ((X++[Cell.l [.v (kP fs)]]).length+5)) (G':=hG R L dt ow Ks f g ((X++[.l [.v (kP fs)]])++[.d []])) rfl).trans ?_;rw[F7,T3];rfl
 show(match v7 [some (.g 0),some (.v (kP fs)),none,none,none,none] (hG R L dt ow Ks f g X)with | .nx _ d=>HX.ok (HV.v .n) d | .rt x d=>.ok x d | .exc c fs d=>.exc c fs d|_=>.wall)=_;rw[show v7 [some (.g 0),some (.v (kP fs)),none,none,none,none] (hG R L dt ow Ks f g X)=_ from zv E (zv r (UX s (λz=>by cases z)))]
end
def AV{fr:Bool}{n:Nat}{ms:MS}{xs:EO}{ρ:Sto}(hf:fr=false)(h:ms (xs.map some++List.replicate (n-xs.length) none)=.ok (.nx ρ)):QR fr n ms xs=.ok .n:=by subst hf;unfold QR;rw[h];rfl
def Xx(h:m ρ=.ok x):Uk m ρ=.ok (.nx ρ):=by unfold Uk;rw[h];rfl
def iC{x:PV}{n:Int}{k:Nat}(h:ZJ [x]=.ok (.i (k:Int)))(a:(k:Int)<=n):qd [x,.i n]=.ok .n:=by refine AV rfl ((zY (x:=false) (zP (zj (zy (xs:=[x]) rfl h) rfl ?_))).trans (show _=Out.ok (Fw.nx [some x,some (.i n)])from rfl));show Out.ok (PV.b (decide ((k:Int)>n)))=_;rw[G6 (by omega)]
def c9:∀{acc:EA},((acc++es).map (·.1)).Nodup->es.foldl (λacc kv=>dput acc kv.1 kv.2) acc=acc++es:=by
 induction es with
 |nil=>intro acc _;rw[O7];rfl
 |cons e es ih=>
  intro acc nd;have hn:zK acc e.1=none:=by
   cases h:zK acc e.1 with
   |none=>rfl
   |some x=>have hm:e.1∈acc.map (·.1):=M6.mpr ⟨_,jV h,rfl⟩;rw[F8,F3]at nd;exact absurd rfl ((a0h.mp nd).2.2 e.1 hm e.1 E9)
  have ed:dput acc e.1 e.2=acc++[e]:=by unfold dput;rw[jU,hn];rfl
  rw[R7,ed,ih (by rw[T3];exact nd),T3];rfl
def UY(a:0<=m)(b:m<=1000000000):yc [.i m,.i 0]=.ok (.i m):=by
 have:mOr (zW (mOp pLt (zc 0) (zc 1))) (zW (mOp pGt (zc 0) (mC (.i 1000000000)))) [some (.i m),some (.i 0)]=.ok false:=by refine(V3 (x:=decide (m<0)) (y:=decide (m>1000000000)) (zP (zj rfl rfl rfl)) (cX rfl)).trans ?_;rw[G6 (by omega),G6 (by omega)];rfl
 exact z3 (ze ⟨_,(zY this).trans rfl,vq rfl⟩)
def QT{κ:Type}[DecidableEq κ](acc:List κ)(k:κ):List κ:=if k∈acc then acc else acc++[k]
def Qu{ks:EG}:∀{b:EG}{k:Fg},k∈ks.foldl QT b↔k∈b\/k∈ks:=by
 induction ks with
 |nil=>intro b k;simp
 |cons a ks c=>
  intro b k;rw[R7,c,F0];unfold QT;split
  .rename_i h;exact⟨λz=>z.imp id .inr,λz=>z.elim .inl λz=>z.elim (λe=>.inl (e▸h)) .inr⟩
  .rw[N3,E8,or_assoc]
def Vs{ks:EG}:∀{b:EG},b.Nodup->(ks.foldl QT b).Nodup:=by
 induction ks with
 |nil=>exact λh=>h
 |cons a ks d=>
  intro b h;rw[R7];refine d ?_;unfold QT;split
  .exact h
  .rename_i hn;exact a0h.mpr ⟨h,I0.mpr ⟨S8,M9⟩,λx f y c e=>hn (by rw[<- E8.mp c,<- e];exact f)⟩
def yd(R:Cs):List Key:=(R.map (·.1)).foldl (λa t=>((rw' R t).map (·.1)).foldl QT a) []
structure COk(R:Cs)(L:Row):Prop where
 nd:(R.map (·.1)).Nodup
 rnd:∀t,((rw' R t).map (·.1)).Nodup
 few:R.length<=40
 keys:L.map (·.1)=R.map (·.1)
 num:∀t,∀q∈rw' R t,0<=q.2/\q.2<=1000000000
 DJ:∀q∈L,0<=q.2/\q.2<=1000000000
 U:∃U:List Key,U.length<=80/\∀t,∀q∈rw' R t,q.1∈U
def nP{h:Key->List Key}{ts:EG}:∀{a:EG},a.Nodup->(ts.foldl (λa t=>(h t).foldl QT a) a).Nodup:=by
 induction ts with
 |nil=>exact λh=>h
 |cons t ts b=>exact λh=>b (Vs h)
def iD{h:Key->List Key}{ts:EG}:∀{a:EG}{k:Fg},k∈ts.foldl (λa t=>(h t).foldl QT a) a↔k∈a\/∃t∈ts,k∈h t:=by
 induction ts with
 |nil=>intro a k;simp
 |cons t ts c=>
  intro a k;rw[R7,c,Qu,or_assoc];refine or_congr a1t ⟨λz=>z.elim (λz=>⟨t,E9,z⟩) λ⟨x,b,z⟩=>⟨x,E3 _ b,z⟩,λ⟨x,b,z⟩=>?_⟩;rcases F0.mp b with rfl|b
  .exact .inl z
  .exact .inr ⟨x,b,z⟩
def v_:(yd R).Nodup:=nP M9
def yf:k∈yd R↔∃t∈R.map (·.1),k∈(rw' R t).map (·.1):=by unfold yd;rw[iD (h:=λt=>(rw' R t).map (·.1))];exact⟨λz=>z.resolve_left S8,.inr⟩
def c_:dput (fK acc λ_=>PV.b true) k (.b true)=fK (QT acc k) λ_=>PV.b true:=by
 unfold QT;by_cases h:k∈acc
 .rw[if_pos h];exact ir h rfl λ_ _=>rfl
 .rw[if_neg h];unfold dput;rw[jU,Qs.mpr (by rw[Xs];exact h)];refine(if_neg (λz=>by cases z)).trans ?_;unfold fK;rw[F8];rfl
def Vt(b:mv ρ=.ok x)(d:ρ[i]?=some (some (.d kvs)))(a:mk ρ=.ok (kP k))(c:kvs.length<=1000):cf i mk mv ρ=.ok (.nx (ρ.set i (some (.d (dput kvs k x))))):=by unfold cf;rw[b,okb,d];dsimp only;rw[a,okb,Vq];dsimp only;rw[if_pos (L8 c (by decide))]
section
variable {R:Cs}{L:Row}(C:COk R L)
include C
def COk.sub{acc:EG}(e:acc.Nodup)(c:∀k∈acc,∃t,k∈(rw' R t).map (·.1)):acc.length<=80:=by
 obtain⟨U,g,d⟩:=C.U;have:=jC e (b:=U) λk a=>by obtain⟨t,z⟩:=c k a;obtain⟨q,f,rfl⟩:=M6.mp z;exact d t q f
 omega
def COk.ks:(yd R).length<=80:=C.sub v_ λk a=>let⟨t,_,z⟩:=yf.mp a;⟨t,z⟩
def iE:y3 [.d (cK R)]=.ok (.l ((yd R).map kP)):=by
 obtain⟨m,⟨o,n,l,c,rfl⟩,e⟩:=wW (g:=YD) (b:=YE) kP (λa f=>a.Nodup/\(∀k∈a,∃t,k∈(rw' R t).map (·.1))/\∃l c:Option PV,f=[some (.d (cK R)),some (.d (fK a λ_=>PV.b true)),l,c]) (λa t=>((rw' R t).map (·.1)).foldl QT a) (R.map (·.1)) [] [some (.d (cK R)),some (.d []),none,none] ⟨M9,λk z=>(by cases z),none,none,rfl⟩ (λt s a f ⟨o,n,l,c,d⟩=>by
  subst d;refine⟨_,rfl,?_⟩;obtain⟨m,⟨h,i,c,rfl⟩,e⟩:=wW (g:=YB) (b:=YC) kP (λa f=>a.Nodup/\(∀k∈a,∃t,k∈(rw' R t).map (·.1))/\∃c:Option PV,f=[some (.d (cK R)),some (.d (fK a λ_=>PV.b true)),some (kP t),c]) QT ((rw' R t).map (·.1)) a [some (.d (cK R)),some (.d (fK a λ_=>PV.b true)),some (kP t),c] ⟨o,n,c,rfl⟩ (λk p a f ⟨h,i,c,d⟩=>by
   subst d;refine⟨_,rfl,_,⟨Vs (ks:=[k]) h,λj q=>?_,some (kP k),rfl⟩,.inl ?_⟩
   .rcases Qu (ks:=[k]).mp q with z|z
    .exact i j z
    .rw[E8.mp z];exact⟨t,p⟩
   .refine(Vt (k:=k) (x:=.b true) rfl rfl rfl (by rw[Wr];have:=C.sub h i;omega)).trans ?_;rw[c_];rfl)
  exact⟨_,⟨h,i,_,_,rfl⟩,.inl (qG (v9 rfl rfl (Z4 s) yw) e)⟩)
 refine z3 (ze ⟨_,zG rfl,ze ⟨_,qG (yO rfl yH) e,vq (zy (x:=.l ((yd R).map kP)) rfl ?_)⟩⟩);show Out.ok (PV.l ((fK (yd R) λ_=>PV.b true).map λr=>kP r.1))=_;unfold fK;rw[F4];rfl
def nQ:yS [.d (cK R),.d (iK L)]=.ok .n:=by
 obtain⟨m,⟨_,l,a,rfl⟩,e⟩:=Q3 (g:=Zj) (b:=Zk) kP (λ_ d=>True/\∃l a:Option PV,d=[some (.d (cK R)),some (.d (iK L)),l,a]) (R.map (·.1)) [some (.d (cK R)),some (.d (iK L)),none,none] ⟨trivial,none,none,rfl⟩ (λj i d ⟨_,l,a,c⟩=>by
  subst c;have f:=O4 i;generalize(R.map (·.1))[j]=t at f;refine⟨_,rfl,?_⟩;have q:∃v,zK L t=some v/\0<=v/\v<=1000000000:=by obtain⟨v,e⟩:=L4.mp (zZ.mpr (C.keys▸f));exact⟨v,e,C.DJ _ (jV e)⟩
  obtain⟨v,s,u,p⟩:=q;obtain⟨m,⟨_,a,rfl⟩,e⟩:=Q3 (g:=Zh) (b:=Zi) kP (λ_ d=>True/\∃a:Option PV,d=[some (.d (cK R)),some (.d (iK L)),some (kP t),a]) ((rw' R t).map (·.1)) [some (.d (cK R)),some (.d (iK L)),some (kP t),a] ⟨trivial,a,rfl⟩ (λj i d ⟨_,a,c⟩=>by
   subst c;have h:=O4 i;generalize((rw' R t).map (·.1))[j]=k at h;obtain⟨w,o⟩:=L4.mp (zZ.mpr h);have n:=C.num _ _ (jV o);refine⟨_,rfl,_,⟨trivial,some (kP k),rfl⟩,.inl (Xx (zy (xs:=[.i w,.i 0]) (zx (zj (zj rfl rfl (ixD (Z4 f))) rfl (ixD (r:=k) ?_)) rfl) (UY n.1 n.2)))⟩;rw[UT h,o];rfl)
  refine⟨_,⟨trivial,_,_,rfl⟩,.inl (ze ⟨_,Xx (zy (xs:=[.i v,.i 0]) (zx (zj rfl rfl (ixD (r:=t) ?_)) rfl) (UY u p)),qG (v9 rfl rfl (Z4 f) yw) e⟩)⟩;rw[UT (C.keys▸f),s];rfl)
 refine AV rfl (ze ⟨_,Xx (zy (xs:=[.d (cK R),.i 40]) rfl (iC (k:=R.length) ?_ ?_)),ze ⟨_,Xx (zy (xs:=[.l ((yd R).map kP),.i 80]) (zx (zy (xs:=[.d (cK R)]) rfl (iE C)) rfl) (iC (k:=(yd R).length) ?_ ?_)),qG (yO rfl yH) e⟩⟩)
 .show Out.ok (PV.i ((cK R).length:Int))=_;unfold cK;rw[u8]
 .have:=C.few;omega
 .show Out.ok (PV.i (((yd R).map kP).length:Int))=_;rw[u8]
 .have:=C.ks;omega
def df(nd:K.Nodup):y6 [.l (K.map λk=>.t [kP k,.i 0])]=.ok (.d (fK K λ_=>.i 0)):=by
 have h1:∀{K:EG},lh (K.map λk=>.t [kP k,.i 0])=some (fK K λ_=>.i 0):=λ{K}=>by
  induction K with
  |nil=>rfl
  |cons k K ih=>show((pk (kP k)).bind λq=>(lh (K.map λk=>.t [kP k,.i 0])).map ((q,PV.i 0)::·))=_;rw[Vq,ih];rfl
 show wJ ((lh _).map λes=>PV.d (KR es))=_;rw[h1];show Out.ok (PV.d (KR _))=_;unfold KR;rw[c9 (acc:=[]) (by rw[a0Z,Xs];exact nd)];rfl
def ub:qb [.g 0,.v (.d (cK R)),.v (.d (iK L))] [.o 3 []]=.ok (.v .n) (hG R L [] [] (yd R) (λ_=>0) (λ_=>0) []):=by
 have t:lcP ji jj jm ((R.map (·.1)).map kP) [none] []=.ok (.l ((R.map (·.1)).map λk=>.t [kP k,.i 0])):=
  wV kP (λk=>.t [kP k,.i 0]) (λi=>∃o,i=[o]) _ [none] ⟨none,rfl⟩ (λk _ i ⟨o,j⟩=>by subst j;exact⟨_,rfl,⟨_,rfl⟩,bj rfl (show 2<=sizeLine by decide)⟩) (by have:=C.few;rw[u8];omega)
 have z:lcP jn jo jq ((yd R).map kP) [none] []=.ok (.l ((yd R).map λk=>.t [kP k,.i 0])):=
  wV kP (λk=>.t [kP k,.i 0]) (λi=>∃o,i=[o]) _ [none] ⟨none,rfl⟩ (λk _ i ⟨o,j⟩=>by subst j;exact⟨_,rfl,⟨_,rfl⟩,bj rfl (show 2<=sizeLine by decide)⟩) (by have:=C.ks;omega)
 have w:∀{G:AH},hF [false,true] (zg y6 (zb (mLC (yb 1) [none] ji jj jm) zr)) [some (.g 0),some (.v (.d (cK R))),some (.v (.d (iK L)))] G=.ok (.g G.length) (G++[.d (vK (fK (R.map (·.1)) λ_=>.i 0))]):=λ{G}=>
  lq rfl (zy (zx (KP (yO rfl yH) t) rfl) (df C.nd)) rfl
 have p:∀{G:AH},hF [false,true] (zg y6 (zb (mLC (wd (zg y3 (zb (zc 1) zr))) [none] jn jo jq) zr)) [some (.g 0),some (.v (.d (cK R))),some (.v (.d (iK L)))] G=.ok (.g G.length) (G++[.d (vK (fK (yd R) λ_=>.i 0))]):=λ{G}=>
  lq rfl (zy (zx (KP (cz (zy (xs:=[.d (cK R)]) rfl (iE C))) z) rfl) (df v_)) rfl
 have st:∀{g:Str}{m:HME}{G d:AH}{y:HV}{fs f:List (Str×HV)},m [some (.g 0),some (.v (.d (cK R))),some (.v (.d (iK L)))] G=.ok y d->d[0]?=some (.o 3 fs)->fs.length<1000->Uz g y fs=f->Xf [3] g (yn 0) m [some (.g 0),some (.v (.d (cK R))),some (.v (.d (iK L)))] G=.nx [some (.g 0),some (.v (.d (cK R))),some (.v (.d (iK L)))] (d.set 0 (.o 3 f)):=λ{g m G d y fs f} q l u s=>by unfold Xf;rw[q];show(match d[0]? with|some (.o c fs)=>_|_=>_)=_;rw[l];dsimp only;rw[if_pos ⟨by decide,u⟩,s]
 have b:∀{a g:Str}{v y:HV}{r n:List (Str×HV)},a≠g->Uz g y r=n->Uz g y ((a,v)::r)=(a,v)::n:=λh l=>(if_neg h).trans (by rw[l]);have e:qV [some (.g 0),some (.v (.d (cK R))),some (.v (.d (iK L)))] [.o 3 []]=.nx [some (.g 0),some (.v (.d (cK R))),some (.v (.d (iK L)))] (hG R L [] [] (yd R) (λ_=>0) (λ_=>0) []):=
  zv (st (y:=.v (.d (cK R))) rfl rfl (by decide) rfl) (zv (st (y:=.v (.d (iK L))) rfl rfl (G7 rfl) (b (by decide +kernel) rfl)) (zv (st (lq rfl rfl rfl) rfl (G7 rfl) (b (by decide +kernel) (b (by decide +kernel) rfl))) (zv (st (lq rfl rfl rfl) rfl (G7 rfl) (b (by decide +kernel) (b (by decide +kernel) (b (by decide +kernel) rfl)))) (zv (st w rfl (G7 rfl) (b (by decide +kernel) (b (by decide +kernel) (b (by decide +kernel) (b (by decide +kernel) rfl))))) (st p rfl (G7 rfl) (b (by decide +kernel) (b (by decide +kernel) (b (by decide +kernel) (b (by decide +kernel) (b (by decide +kernel) rfl))))))))))
 show(match qV [some (.g 0),some (.v (.d (cK R))),some (.v (.d (iK L)))] [.o 3 []]with | .nx _ d=>HX.ok (HV.v .n) d | .rt x d=>.ok x d | .exc c fs d=>.exc c fs d|_=>.wall)=_;rw[e]
def uc:∃(f g:Fi)(d:ES)(b:EU),vOf Vi [.d (cK R),.d (iK L)]=.ok (.t [.d (dtP d),.d (fK (R.map (·.1)) λt=>.i (f t)),.d (fK (yd R) λk=>.i (g k))])/\Fe (pb R L) f g b/\De (pb R L) f g (R.map (·.1)) d b:=by
 have p:∀t∈R.map (·.1),∀k∈(pb R L).row t,k∈yd R:=λt o k p=>yf.mpr ⟨t,o,p⟩;have u:Fe (pb R L) (λ_=>0) (λ_=>0) []:=⟨λt o=>by
   have o:t∈R.map (·.1):=o;obtain⟨v,e⟩:=L4.mp (zZ.mpr (C.keys▸o));show 0<=(zK L t).getD 0;rw[e];exact(C.DJ _ (jV e)).1,λt o k p=>by
   obtain⟨w,n⟩:=L4.mp (zZ.mpr p);show(0:Int)+0<=(zK (rw' R t) k).getD 0;rw[n];exact(C.num _ _ (jV n)).1,λ_=>a1w _,λ_ _=>rfl⟩
 have E:De (pb R L) (λ_=>0) (λ_=>0) [] [] []:=⟨rfl,λt k e=>(by cases e),λt e=>(by cases e),λk t e=>(by cases e),λq l=>(by cases l),M9⟩;obtain⟨T,m,⟨f,g,d,b,X,r,J,s,rfl,rfl⟩,e⟩:=bp (gg:=Vg) (bb:=Vh) (λk=>HV.v (kP k)) (λj M G=>∃(f g:Fi)(d:ES)(b:EU)(X:AH)(r:Option HV),Fe (pb R L) f g b/\De (pb R L) f g ((R.map (·.1)).take j) d b/\M=[some (.v (.d (cK R))),some (.v (.d (iK L))),some (.g 0),r]/\G=hG R L d b (yd R) f g X) (R.map (·.1)) [some (.v (.d (cK R))),some (.v (.d (iK L))),some (.g 0),none] (hG R L [] [] (yd R) (λ_=>0) (λ_=>0) []) ⟨_,_,[],[],[],none,u,E,rfl,rfl⟩ (λj K M G ⟨f,g,d,b,X,r,J,s,H,n⟩=>by
  subst H n;have hn:(R.map (·.1))[j]∉(R.map (·.1)).take j:=λz=>by obtain⟨i,hi,e⟩:=O9.mp z;rw[a1b]at e;have:=(a0T C.nd).mp e;rw[a0l]at hi;omega
  obtain⟨U,Z,B,D,P,W,O,Q⟩:=AU (R:=R) (L:=L) (Ks:=yd R) (X:=X) C.keys (by have:=C.few;omega) (by have:=C.ks;omega) p (by rw[a0l,u8];have:=C.few;omega) (λx F=>List.mem_of_mem_take F) hn (O4 K) J s;refine⟨_,rfl,_,_,⟨U,Z,B,D,P,_,O,?_,rfl,rfl⟩,Kg (Kh (vI rfl (vI rfl rfl)) W)⟩;rw[a0x,E1 K];exact Q)
 rw[O6 (E5 _)]at s;refine⟨f,g,d,b,?_,J,s⟩;have e0:W_ (hP [true,true] (zg yS (zb (zc 0) (zb (zc 1) zr)))) [some (.v (.d (cK R))),some (.v (.d (iK L))),none,none] []=.nx [some (.v (.d (cK R))),some (.v (.d (iK L))),none,none] []:=Kg (bo rfl (zy rfl (nQ C)));have H:wX 2 (BD 3 qb (ya (yn 0) (ya (yn 1) aW))) [some (.v (.d (cK R))),some (.v (.d (iK L))),none,none] []=.nx [some (.v (.d (cK R))),some (.v (.d (iK L))),some (.g 0),none] (hG R L [] [] (yd R) (λ_=>0) (λ_=>0) []):=by refine yF ?_;show(match qb [.g 0,.v (.d (cK R)),.v (.d (iK L))] [.o 3 []]with | .ok (.v .n) I=>HX.ok (HV.g 0) I | .exc c fs I=>.exc c fs I|_=>.wall)=_;rw[ub C]
 have n:mZ 0 Vg Vh [some (.v (.d (cK R))),some (.v (.d (iK L))),some (.g 0),none] (hG R L [] [] (yd R) (λ_=>0) (λ_=>0) [])=.nx [some (.v (.d (cK R))),some (.v (.d (iK L))),some (.g 0),r] (hG R L d b (yd R) f g X):=by show Wg _ _ (((cK R).map λA=>kP A.1).map HV.v) _ _=_;rw[show((cK R).map λA=>kP A.1).map HV.v=(R.map (·.1)).map λk=>HV.v (kP k)from by unfold cK;rw[F4,F4,F4];rfl];exact e
 have e3:Vi [.v (.d (cK R)),.v (.d (iK L))] []=.ok (.t [.g 1,.g 3,.g 4]) (hG R L d b (yd R) f g X):=by show(match Xl [some (.v (.d (cK R))),some (.v (.d (iK L))),none,none] []with | .nx _ m=>HX.ok (HV.v .n) m | .rt x m=>.ok x m | .exc c fs m=>.exc c fs m|_=>.wall)=_;rw[show Xl [some (.v (.d (cK R))),some (.v (.d (iK L))),none,none] []=_ from zv e0 (zv H (zv n rfl))];rfl
 have rI:∀{G:AH}{k:Nat}{a:EA},G[k]?=some (.d (vK a))->(∀q∈a,imm q.2=true)->Q8 G 7 (.g k)=some (.d a):=λ{G k a} Y h2=>by
  have:∀{a:EA},(∀q∈a,imm q.2=true)->Q6 (Q8 G 6) (vK a)=some a:=λ{a}=>by
   induction a with
   |nil=>exact λ_=>rfl
   |cons q a S=>intro h;show((if imm q.2=true then some q.2 else none).bind λy=>(Q6 (Q8 G 6) (vK a)).map ((q.1,y)::·))=_;rw[if_pos (h q E9),S λx F=>h x (E3 _ F)];rfl
  unfold Q8;rw[Y];show(Q6 (Q8 G 6) (vK a)).map PV.d=_;rw[this h2];rfl
 unfold vOf;rw[show List.map HV.v [PV.d (cK R),.d (iK L)]=[.v (.d (cK R)),.v (.d (iK L))]from rfl,e3];have r1:=rI (G:=hG R L d b (yd R) f g X) (k:=1) rfl (λq l=>by
  obtain⟨x,_,rfl⟩:=M6.mp l;exact iy _)
 have r3:=rI (G:=hG R L d b (yd R) f g X) (k:=3) rfl (λq l=>by
  obtain⟨x,_,rfl⟩:=M6.mp l;rfl)
 have N:=rI (G:=hG R L d b (yd R) f g X) (k:=4) rfl (λq l=>by
  obtain⟨x,_,rfl⟩:=M6.mp l;rfl)
 show(match((Q8 (hG R L d b (yd R) f g X) 7 (.g 1)).bind λy=>(((Q8 (hG R L d b (yd R) f g X) 7 (.g 3)).bind λy=>(((Q8 (hG R L d b (yd R) f g X) 7 (.g 4)).bind λy=>(some []).map (y::·))).map (y::·))).map (y::·)).map PV.t with|some z=>Out.ok z|none=>.wall)=_;rw[r1,r3,N];rfl
end
def iF{v:Fi}{xs:EG}{j:Nat}(h:j<xs.length):((xs.take (j+1)).map v).sum=((xs.take j).map v).sum+v xs[j]:=by rw[a0x,E1 h,F8,a02];simp
section
variable {R:Cs}{L:Row}{f g:Fi}{dt:ES}{ow:EU}(C:COk R L) (fe:Fe (pb R L) f g ow) (de:De (pb R L) f g (R.map (·.1)) dt ow)
abbrev dOf(dt:ES)(t:Fg):Option Key:=(zK dt t).join
def vlF(R:Cs)(L:Row)(dt:ES)(t:Fg):Int:=match dOf dt t with
 |none=>(pb R L).L t
 |some k=>(pb R L).c t k
include C de
def De.there(a:t∈R.map (·.1)):zK dt t=some (dOf dt t):=by obtain⟨x,e⟩:=L4.mp (zZ.mpr (de.keys▸a));unfold dOf;rw[e];rfl
include fe
def iG:((R.map (·.1)).map (vlF R L dt)).sum=((R.map (·.1)).map f).sum+((yd R).map g).sum:=by
 have p:∀{T:EG},(∀t∈T,t∈R.map (·.1))->(T.map (vlF R L dt)).sum=(T.map f).sum+((T.filterMap (dOf dt)).map g).sum:=λ{T}=>by
  induction T with
  |nil=>exact λ_=>rfl
  |cons t T i=>
   intro h;have b:=h t E9;have o:=De.there de b;have:=i λx a=>h x (E3 _ a);rw[F3,a0J,this,F3,a0J,P8];unfold vlF;cases d:dOf dt t with
   |none=>have:=de.b t (by rw[o,d]);dsimp only;omega
   |some k=>have:=(de.a t k (by rw[o,d])).2.1;dsimp only;rw[F3,a0J];omega
 rw[p λt b=>b];congr 1;symm;have c:∀k,k∈(R.map (·.1)).filterMap (dOf dt)↔∃t,zK ow k=some t:=λk=>⟨λz=>by
   obtain⟨x,a,m⟩:=S7.mp z;exact⟨x,(de.a x k (by rw[De.there de a,m])).2.2⟩,λ⟨t,e⟩=>by
   have:=de.c k t e;exact S7.mpr ⟨t,de.keys▸zZ.mp (by rw[this];rfl),by unfold dOf;rw[this];rfl⟩⟩
 refine Kf v_ ?_ (λk l=>?_) λk _ l=>fe.un k ?_
 .have j:∀{T:EG},T.Nodup->(∀t∈T,t∈R.map (·.1))->(T.filterMap (dOf dt)).Nodup:=λ{T}=>by
   induction T with
   |nil=>exact λ_ _=>M9
   |cons t T i=>
    intro nd h;obtain⟨s,r⟩:=I0.mp nd;have:=i r λx a=>h x (E3 _ a);rw[P8];cases d:dOf dt t with
    |none=>exact this
    |some k=>refine I0.mpr ⟨λz=>?_,this⟩;obtain⟨x,a,m⟩:=S7.mp z;have v:=(de.a x k (by rw[De.there de (h x (E3 _ a)),m])).2.2;have n:=(de.a t k (by rw[De.there de (h t E9),d])).2.2;rw[v]at n;cases n;exact s a
  exact j C.nd λt b=>b
 .obtain⟨t,e⟩:=(c k).mp l;obtain⟨u,q⟩:=de.ob _ (jV e);exact yf.mpr ⟨t,u,q⟩
 .cases e:zK ow k with
  |none=>rfl
  |some t=>exact absurd ((c k).mpr ⟨t,e⟩) l
end
def yr(d:0<=k)(g:k<=1000)(f:0<m):∃x:Int,0<=x/\x<m/\zi [.sc ns,.i k,.i m]=.ok (.i x):=by
 obtain⟨c,i,o,q⟩:∃c:Int,0<=c/\c<1000000007/\sIf (zW (mOp pGt (zg ZJ (zb (zc 0) zr)) (mC (.i 0)))) (yW 3 (mOp QX (mOp pIx (zc 0) (mOp QX (zc 1) (zg ZJ (zb (zc 0) zr)))) (mC (.i 1000000007)))) yI [some (.sc ns),some (.i k),some (.i m),some (.i 5)]=.ok (.nx [some (.sc ns),some (.i k),some (.i m),some (.i c)]):=by
  have l:zg ZJ (zb (zc 0) zr) [some (.sc ns),some (.i k),some (.i m),some (.i 5)]=.ok (.i (ns.length:Int)):=zy (xs:=[.sc ns]) rfl rfl;have t:=λP Q=>zY (a:=P) (b:=Q) (cX (n:=0) l);by_cases c:(ns.length:Int)>0
  .rw[L9 c]at t;have h:=a1r k (show(ns.length:Int)≠0 by omega);have j:=a07 k c;have e:pIx (.sc ns) (.i (k % (ns.length:Int)))=.ok (.i (ns[(k % (ns.length:Int)).toNat]'(by omega))):=by show wJ ((atI ns _).map PV.i)=_;rw[cm h,E1 (by omega)];rfl
   exact⟨_,a1r _ (by decide),a07 _ (by decide),(t _ _).trans (zG (t7 (zj rfl (zj rfl l (Uo c)) e) (by decide)))⟩
  .rw[G6 c]at t;exact⟨5,by decide,by decide,t _ _⟩
 have p:0<=k*k/\k*k<=1000000:=⟨Int.mul_nonneg d d,Int.le_trans (Int.mul_le_mul g g d (by decide)) (by decide)⟩;exact⟨_,a1r _ (by omega),a07 _ f,z3 (ze ⟨_,rfl,ze ⟨_,q,vq (zj (CV (t7 (zj (zj (zj rfl (zj rfl rfl (Jq (by decide) (by decide))) rfl) rfl rfl) (zj rfl (zj rfl rfl (Jq (by omega) (by omega))) rfl) (Jq (by omega) (by omega))) (by decide)) (by decide) (by decide)) rfl (Uo f))⟩⟩)⟩
abbrev eF:Str:="abcdefghijklmnopqrstuvwyz0123456789"
def s2(r:Int):Str:=⟨#[(eF.cps.toList[r.toNat]?).getD 0]⟩
def UZ:eF.length=35:=by decide +kernel
def sg2(n:Nat):Nat:=(eF.cps.toList[n]?).getD 0
def AW:∀a:Fin 35,∀b:Fin 35,sg2 a.val=sg2 b.val->a=b:=by decide +kernel
def Ee:∀a:Fin 35,sg2 a.val≠120:=by decide +kernel
def CY(a:0<=r)(d:r<35):pIx (.s eF) (.i r)=.ok (.s (s2 r)):=by
 unfold pIx;have c:eF.length<=sizeLine:=by rw[UZ];decide
 simp only[c,if_true];have b:r.toNat<eF.cps.toList.length:=by have:=UZ;unfold Str.length at this;simp;omega
 rw[cm a];unfold s2;rw[E1 b];rfl
def AX:∀a:Fin 13,(Txt.mul "x" (a.val:Int)).length=a.val:=by decide +kernel
def nmX(a b:Nat)(n:Nat):Str:=Txt.mul "x" (a:Int)++s2 (n:Int)++Txt.mul "x" ((b:Int)+(n:Int) % 2)
def str_len{a b:Str}:(a++b).length=a.length+b.length:=Array.size_append
def ud(h:a+b<=10):(nmX a b n).length<=100:=by
 have c:=AX ⟨a,by omega⟩;have e:(b:Int)+(n:Int) % 2=((b+n % 2:Nat):Int):=by omega
 have d:=AX ⟨b+n % 2,by omega⟩;unfold nmX;rw[e,str_len,str_len];have:(s2 (n:Int)).length=1:=rfl;dsimp only at c d;omega
def nR(l:0<=k)(r:k<=900):∃a b:Nat,a+b<=10/\∀n:Nat,n<35->j4 [.sc ns,.i k,.i (n:Int)]=.ok (.s (nmX a b n)):=by
 obtain⟨a,j,u,f⟩:=yr (ns:=ns) (k:=k) (m:=11) l (by omega) (by decide);obtain⟨b,o,s,p⟩:=yr (ns:=ns) (k:=k+1) (m:=11-a) (by omega) (by omega) (by omega);obtain⟨a,rfl⟩:=R8 j;obtain⟨b,rfl⟩:=R8 o;refine⟨a,b,by omega,λn hn=>?_⟩;have d:∀{i:Int},0<=i->i<=100->ZI (.s "x") (.i i)=.ok (.s (Txt.mul "x" i)):=λh q=>if_pos ⟨by decide,by omega,by omega⟩;have g:=AX ⟨a,by omega⟩;have e:(b:Int)+(n:Int) % 2=((b+n % 2:Nat):Int):=by omega
 have c:=AX ⟨b+n % 2,by omega⟩;rw[<- e]at c;dsimp only at g c;have t:(s2 (n:Int)).length=1:=rfl;exact z3 (ze ⟨_,zG (zy (xs:=[.sc ns,.i k,.i 11]) rfl f),ze ⟨_,zG (zj (zy (xs:=[.sc ns,.i (k+1),.i (11-(a:Int))]) rfl p) (t7 rfl (by decide)) rfl),vq (zj (zj (zj rfl rfl (d (by omega) (by omega))) (zj rfl rfl (CY (by omega) (by omega))) (DH (n:=100) (by omega) (by decide))) (zj rfl rfl (d (by omega) (by omega))) (DH (n:=100) (by rw[str_len];omega) (by decide)))⟩⟩)
def chg(c d k:Nat):Nat:=if k=c then d else k
theorem Xy{c d:Nat}:∀{l:Eo},c∉l->l.map (chg c d)=l
 |[],_=>rfl
 |k::r,h=>by rw[F3,Xy λm=>h (E3 _ m)];unfold chg;rw[if_neg λe:k=c=>h (e▸E9)]
theorem dg{c d:Nat}:∀b:List Str,(∀p∈b,c∉p.cps.toList)->(Str.join ⟨#[c]⟩ b).cps.toList.map (chg c d)=(Str.join ⟨#[d]⟩ b).cps.toList
 |[],_=>rfl
 |[p],h=>Xy (h p (E8.mpr rfl))
 |p::q::r,h=>by have f:=dg (d:=d) (q::r) λa e=>h a (E3 _ e);show(p++⟨#[c]⟩++Str.join ⟨#[c]⟩ (q::r)).cps.toList.map (chg c d)=(p++⟨#[d]⟩++Str.join ⟨#[d]⟩ (q::r)).cps.toList;simp only[Str.cps_append,Array.toList_append,List.map_append];rw[f,Xy (h p E9)];simp[chg]
def bq:(Txt.replace x ⟨#[c]⟩ ⟨#[d]⟩).cps.toList=x.cps.toList.map (chg c d):=by rw[StrLaws.replace_one,<- dg _ (StrLaws.split_free x c),StrLaws.join_split]
def zs3:List Str:=["x","X"," "]
def ue(h:i<3):∃d:Nat,zs3[i]?=some ⟨#[d]⟩:=by
 rcases(show i=0\/i=1\/i=2 by omega)with rfl|rfl|rfl
 .exact⟨120,by decide +kernel⟩
 .exact⟨88,by decide +kernel⟩
 .exact⟨32,by decide +kernel⟩
def tX(a b d n:Nat):Str:=Txt.replace (nmX a b n) "x" ⟨#[d]⟩
def AY(h:a+b<=10)(hn:n<35):(tX a b d n).cps.toList[a]?=some (sg2 n):=by
 unfold tX;rw[show("x":Str)=⟨#[120]⟩from by decide +kernel,bq];unfold nmX;have c:(Txt.mul "x" (a:Int)).cps.toList.length=a:=by have:=AX ⟨a,by omega⟩;exact this
 simp only[Str.cps_append,Array.toList_append,List.map_append];rw[T3,N7 (by rw[u8,c];exact E5 _),u8,c,a0d];show some (chg 120 d (sg2 n))=_;unfold chg;rw[if_neg (Ee ⟨n,hn⟩)]
def AZ(h:a+b<=10)(f:m<35)(hn:n<35)(e:tX a b d m=tX a b d n):m=n:=by have c:=AY (b:=b) (d:=d) h f;rw[e,AY h hn]at c;exact(G8 Fin.val (AW ⟨n,hn⟩ ⟨m,f⟩ (L5 c))).symm
def nS{w y z:Str}{a:EB}{i:Nat}(h:a[i]?=some z)(b:w.length+(w.length+1)*z.length<=16777216):cU w y a (.i (i:Int))=.ok (.s (Txt.replace w y z)):=by unfold cU;dsimp only;rw[if_pos (Int.natCast_nonneg i),Int.toNat_natCast,h];dsimp only;rw[if_pos b]
structure Tk(f:Fq):Prop where
 inj:∀{m n:Nat},m<35->n<35->f m=f n->m=n
def dh(l:0<=k)(p:k<=900)(j:y=0\/y=1):∃f:Nat->Key,Tk f/\∀n:Nat,n<35->zQ [.sc ns,.i k,.i y,.i (n:Int)]=.ok (kP (f n)):=by
 rcases j with rfl|rfl
 .exact⟨λn=>.inl (3*n-3),⟨λ_ _ e=>by have:=a3e e;omega⟩,λn hn=>z3 (ze ⟨_,(zY (x:=false) ((vH rfl).trans (by rfl))).trans rfl,vq (zj (zj rfl rfl (Jq (by omega) (by omega))) rfl (G8 (λz=>Out.ok (PV.i (z-3))) (Int.mul_comm _ _)))⟩)⟩
 .obtain⟨a,b,c,e⟩:=nR (ns:=ns) l p;obtain⟨i,h,q,ei⟩:=yr (ns:=ns) (k:=8) (m:=3) (by decide) (by decide) (by decide);obtain⟨i,rfl⟩:=R8 h;obtain⟨d,g⟩:=ue (i:=i) (by omega);refine⟨λn=>.inr (tX a b d n),⟨λo hn e=>AZ c o hn (a3f e)⟩,λn hn=>z3 (qB ?_)⟩;refine(zY (x:=true) ((vH rfl).trans (by rfl))).trans (vq ?_);unfold UH;rw[zy (xs:=[.sc ns,.i k,.i (n:Int)]) rfl (e n hn),okb];dsimp only;rw[zy (xs:=[.sc ns,.i 8,.i 3]) rfl ei,okb];exact nS g (by have:=ud (n:=n) c;show(nmX a b n).length+((nmX a b n).length+1)*1<=_;omega)
def JA:dput (iK r) k (.i v)=iK (dput r k v):=ZG (f:=PV.i)
def A4:dput (cK R) k (.d (iK r))=cK (dput R k r):=ZG (f:=λr:Row=>PV.d (iK r))
def jA{b:Type}{a:List (Key×b)}{v:b}(h:k∉a.map (·.1)):dput a k v=a++[(k,v)]:=by unfold dput;rw[jU,Qs.mpr h];exact if_neg (λz=>by cases z)
def iH{b:Type}{a:List (Key×b)}{x v:b}(h:k∉a.map (·.1)):dput (a++[(k,x)]) k v=a++[(k,v)]:=by
 unfold dput;rw[if_pos (by rw[List.any_append];simp),F8];congr 1
 .refine(S4 (g:=id) λq c=>?_).trans (List.map_id _);exact if_neg λe:q.1=k=>h (by rw[<- e];exact N4 c)
 .simp
def cpD:Nat->Cs->List (Key×HV)
 |_,[]=>[]
 |k,p::A=>(p.1,.g k)::cpD (k+1) A
theorem Vu{p:Key×Row}:∀{A:Cs}{k:Nat},cpD k (A++[p])=cpD k A++[(p.1,.g (k+A.length))]
 |[],k=>rfl
 |q::A,k=>by show(q.1,HV.g k)::cpD (k+1) (A++[p])=(q.1,HV.g k)::(cpD (k+1) A++[(p.1,.g (k+(A.length+1)))]);rw[Vu,show k+1+A.length=k+(A.length+1) by omega]
theorem Ki:∀{A:Cs}{k:Nat},(cpD k A).map (·.1)=A.map (·.1)
 |[],k=>rfl
 |q::A,k=>by show q.1::(cpD (k+1) A).map (·.1)=_;rw[Ki];rfl
def uf:(cpD k A).length=A.length:=by have:=G8 List.length (Ki (A:=A) (k:=k));rwa [u8,u8]at this
theorem iI{f:HV->Option PV}:∀{A:Cs}{k:Nat},(∀(i:Nat) p,A[i]?=some p->f (.g (k+i))=some (.d (iK p.2)))->Q6 f (cpD k A)=some (cK A)
 |[],k,_=>rfl
 |q::A,k,h=>by show((f (.g k)).bind λy=>(Q6 f (cpD (k+1) A)).map ((q.1,y)::·))=_;rw[show f (.g k)=some (.d (iK q.2))from h 0 q rfl,iI λi p e=>by rw[show k+1+i=k+(i+1) by omega];exact h (i+1) p e];rfl
def pR(h1:G[k]?=some (.d (vK kvs)))(h2:∀q∈kvs,imm q.2=true):Q8 G (n+2) (.g k)=some (.d kvs):=by
 have:∀{kvs:EA},(∀q∈kvs,imm q.2=true)->Q6 (Q8 G (n+1)) (vK kvs)=some kvs:=λ{kvs}=>by
  induction kvs with
  |nil=>exact λ_=>rfl
  |cons q kvs ih=>intro h;show((if imm q.2=true then some q.2 else none).bind λy=>(Q6 (Q8 G (n+1)) (vK kvs)).map ((q.1,y)::·))=_;rw[if_pos (h q E9),ih λx hx=>h x (E3 _ hx)];rfl
 unfold Q8;rw[h1];show(Q6 (Q8 G (n+1)) (vK kvs)).map PV.d=_;rw[this h2];rfl
def di(h5:mv ρ G=.ok y G1)(h1:mo ρ G1=.ok (.g k) G1)(h2:mk ρ G1=.ok (.v (kP q)) G1)(h3:G1[k]?=some (.d kvs))(hl:kvs.length<=1000):Wf mo mk mv ρ G=.nx ρ (G1.set k (.d (dput kvs q y))):=by unfold Wf;rw[h5];show((mo ρ G1).fw _)=_;rw[h1];show((mk ρ G1).fw _)=_;rw[h2];show(match G1[k]?,pk (kP q)with|some (.d kvs),some q=>_|_,_=>_)=_;rw[h3,Vq];dsimp only;rw[if_pos (L8 hl (by decide))]
def iJ(h:m ρ G=.ok x G1)(a:ms ρ G1=.ok xs G2):ya m ms ρ G=.ok (x::xs) G2:=by unfold ya;rw[h];show((ms ρ G1).bind _)=_;rw[a];rfl
def Xz(h:ms ρ G=.ok xs G')(a:xs.length<=sizeLine):mW ms ρ G=.ok (mkT xs) G':=by unfold mW;rw[h];show(if xs.length<=sizeLine then HX.ok (mkT xs) G' else .wall)=_;rw[if_pos a]
def pS(a:m1 ρ G=.ok x G)(b:m2 ρ G=.ok y G)(h:ixH G x y=some z):hIx m1 m2 ρ G=.ok z G:=by unfold hIx;rw[a];show((m2 ρ G).bind _)=_;rw[b];show(match ixH G x y with|some z=>_|none=>_)=_;rw[h]
def nodup_range{g:Type}{f:Nat->g}(h:∀j k,j<n->k<n->f j=f k->j=k):((List.range n).map f).Nodup:=by rw[a1D,List.pairwise_map];refine List.Pairwise.imp_of_mem ?_ (a1D.mp List.nodup_range);intro a b i d c e;exact c (h a b (a0k.mp i) (a0k.mp d) e)
def Kj(a:Q5 bs ρ=some r)(c:mi r=.ok xs)(h:Wg g b (xs.map .v) ρ G=o):Ux bs mi g b ρ G=o:=by unfold Ux;rw[a];dsimp only;rw[c];exact h
def dj(J:Nat->kJ->AH->Prop)(n:Nat)(ρ:kJ)(G:AH)(h:J 0 ρ G)(j:∀(k:Nat),k<n->∀ρ G,J k ρ G->∃a,g (.v (.i (k:Int))) ρ=some a/\∃c f,J (k+1) c f/\b a G=.nx c f):∃d i,J n d i/\Wg g b ((eN 0 n).map .v) ρ G=.nx d i:=by
 have:=bp (gg:=g) (bb:=b) (λk:Nat=>HV.v (.i (k:Int))) J (List.range n) ρ G h λk e ρ G l=>by
  rw[O0]at e;have:=j k e ρ G l
  rwa [a04]
 rw[O0]at this
 rwa [cA,F4]
structure Dr(ns:EW)(f g:Fq)(u v:Int):Prop where
 tf:Tk f
 tg:Tk g
 du:zi [.sc ns,.i 2,.i 2]=.ok (.i u)
 dv:zi [.sc ns,.i 3,.i 2]=.ok (.i v)
 th:∀n:Nat,n<35->zQ [.sc ns,.i 4,.i u,.i (n:Int)]=.ok (kP (f n))
 ke:∀n:Nat,n<35->zQ [.sc ns,.i 6,.i v,.i (n:Int)]=.ok (kP (g n))
def CZ(ns:EW):∃f g u v,Dr ns f g u v:=by obtain⟨u,j,l,e⟩:=yr (ns:=ns) (k:=2) (m:=2) (by decide) (by decide) (by decide);obtain⟨v,i,h,ev⟩:=yr (ns:=ns) (k:=3) (m:=2) (by decide) (by decide) (by decide);obtain⟨f,a,d⟩:=dh (ns:=ns) (k:=4) (y:=u) (by decide) (by decide) (by omega);obtain⟨g,b,c⟩:=dh (ns:=ns) (k:=6) (y:=v) (by decide) (by decide) (by omega);exact⟨f,g,u,v,a,b,e,ev,d,c⟩
section
variable {ns:EW}{f g:Fq}{u v:Int}(D:Dr ns f g u v)
include D
def nT(b:ρ[0]?=some (some (.sc ns)))(c:m ρ=.ok (.i (n:Int)))(hn:n<35):zg zQ (zb (zc 0) (zb (mC (.i 4)) (zb (zg zi (zb (zc 0) (zb (mC (.i 2)) (zb (mC (.i 2)) zr)))) (zb m zr)))) ρ=.ok (kP (f n)):=by
 have a:zc 0 ρ=.ok (.sc ns):=by unfold zc;rw[b]
 exact zy (zx a (zx rfl (zx (zy (zx a rfl) D.du) (zx c rfl)))) (D.th n hn)
def ug(b:ρ[0]?=some (some (.sc ns)))(c:m ρ=.ok (.i (n:Int)))(hn:n<35):zg zQ (zb (zc 0) (zb (mC (.i 6)) (zb (zg zi (zb (zc 0) (zb (mC (.i 3)) (zb (mC (.i 2)) zr)))) (zb m zr)))) ρ=.ok (kP (g n)):=by
 have a:zc 0 ρ=.ok (.sc ns):=by unfold zc;rw[b]
 exact zy (zx a (zx rfl (zx (zy (zx a rfl) D.dv) (zx c rfl)))) (D.ke n hn)
end
def pT(g:Fq)(r:Row):Prop:=(r.map (·.1)).Nodup/\∀q∈r,(0<=q.2/\q.2<=1000000000)/\∃n<5,q.1=g n
def pT.put(h:pT g r)(hn:n<5)(c:0<=v)(b:v<=1000000000):pT g (dput r (g n) v):=by
 refine⟨zU h.1,λq a=>?_⟩;rcases cY a with rfl|a
 .exact⟨⟨c,b⟩,n,hn,rfl⟩
 .exact h.2 q a
def pT.len(h:pT g r):r.length<=5:=by
 have:=jC h.1 (b:=(List.range 5).map g) λk a=>by obtain⟨q,c,rfl⟩:=M6.mp a;obtain⟨_,n,hn,e⟩:=h.2 q c;rw[e];exact N4 (a0k.mpr hn)
 rwa [u8,u8,O0]at this
structure pV(f g:Fq)(n:Nat)(R:Cs)(L:Row):Prop where
 rk:R.map (·.1)=(List.range n).map f
 lk:L.map (·.1)=(List.range n).map f
 rows:∀p∈R,pT g p.2
 nums:∀q∈L,0<=q.2/\q.2<=1000000000
def pV.row(h:pV f g n R L)(t:Fg):pT g (rw' R t):=by
 unfold rw';cases e:zK R t with
 |none=>exact⟨M9,λq a=>by cases a⟩
 |some r=>exact h.rows _ (jV e)
def pV.nd(h:pV f g n R L)(a:Tk f)(hn:n<=5):(R.map (·.1)).Nodup:=
 h.rk▸nodup_range λj k c b e=>a.inj (by omega) (by omega) e
def pV.ok(h:pV f g n R L)(b:Tk f)(hn:n<=5):COk R L:=by
 refine⟨h.nd b hn,λt=>(h.row t).1,?_,h.lk.trans h.rk.symm,λt q a=>((h.row t).2 q a).1,h.nums,⟨(List.range 5).map g,by rw[u8,O0];decide,λt q a=>?_⟩⟩
 .have:=G8 List.length h.rk;rw[u8,u8,O0]at this;omega
 .obtain⟨_,n,hn,e⟩:=(h.row t).2 q a;rw[e];exact N4 (a0k.mpr hn)
def cG(A:Cs)(L:Row):AH:=Cell.d (cpD 2 A)::Cell.d (vK (iK L))::A.map λp=>Cell.d (vK (iK p.2))
def A5:(cG A L).length=A.length+2:=by unfold cG;rw[E4,E4,u8]
def uh:(cG (A++[p]) L)[A.length+2]?=some (.d (vK (iK p.2))):=by unfold cG;rw[L7,L7,F8,N7 (by rw[u8];exact E5 _),u8,a0d];rfl
def A6:(cG (A++[(t,r)]) L).set (A.length+2) (.d (vK (iK r')))=cG (A++[(t,r')]) L:=by unfold cG;rw[a3d,a3d,F8,a1l _ _ (by rw[u8];exact E5 _),u8,a0d,Vu,Vu,F8];rfl
def A7(a:t∉A.map (·.1)):(cG A L++[Cell.d []]).set 0 (Cell.d (dput (cpD 2 A) t (.g (A.length+2))))=cG (A++[(t,[])]) L:=by rw[jA (by rw[Ki];exact a)];unfold cG;rw[Vu,F8,a1Q 2];rfl
def C0(b:t∉A.map (·.1)):ixH (cG (A++[(t,r)]) L) (.g 0) (.v (kP t))=some (.g (A.length+2)):=by
 show((pk (kP t)).bind λq=>zK (cpD 2 (A++[(t,r)])) q)=_;rw[Vq,a0V,Vu];have:∀{a:List (Key×HV)},t∉a.map (·.1)->zK (a++[(t,.g (2+A.length))]) t=some (.g (2+A.length)):=λ{a} h=>by unfold zK;rw[List.find?_append,a28.mpr λq c e=>h (by rw[<- of_decide_eq_true e];exact N4 c)];simp
 rw[this (by rw[Ki];exact b),a1Q]
section
variable {ns:EW}{f g:Fq}{u v:Int}(D:Dr ns f g u v)
include D
def br:∃n R L,n<=5/\pV f g n R L/\vOf kZ [.sc ns]=.ok (.t [.d (cK R),.d (iK L)]):=by
 obtain⟨i,i0,i1,ei⟩:=yr (ns:=ns) (k:=0) (m:=3) (by decide) (by decide) (by decide);obtain⟨n,n0,n1,en⟩:=yr (ns:=ns) (k:=1) (m:=6) (by decide) (by decide) (by decide);obtain⟨i,rfl⟩:=R8 i0;obtain⟨n,rfl⟩:=R8 n0;have p9:WK (.i 10) (.i 9)=.ok (.i 1000000000):=by rw[oZ (by decide) (by decide) (by decide)];rfl
 obtain⟨sc,sc0,sc1,es⟩:∃sc:Int,0<sc/\sc<=1000000001/\pIx (.l [.i 4,.i 41,.i 1000000001]) (.i (i:Int))=.ok (.i sc):=by
  rcases(show i=0\/i=1\/i=2 by omega)with rfl|rfl|rfl
  .exact⟨4,by decide,by decide,rfl⟩
  .exact⟨41,by decide,by decide,rfl⟩
  .exact⟨1000000001,by decide,by decide,rfl⟩
 have q1:wX 1 (hP [true] (mOp pIx (VO (zb (mC (.i 4)) (zb (mC (.i 41)) (zb (mOp zJ (mOp WK (mC (.i 10)) (mC (.i 9))) (mC (.i 1))) zr)))) (zg zi (zb (zc 0) (zb (mC (.i 0)) (zb (mC (.i 3)) zr)))))) [some (.v (.sc ns)),none,none,none,none,none,none,none] []=.nx [some (.v (.sc ns)),some (.v (.i sc)),none,none,none,none,none,none] []:=
  yF (bo rfl (zj (Xp (zx rfl (zx rfl (zx (zj (zj rfl rfl p9) rfl rfl) rfl))) (by decide)) (zy (xs:=[.sc ns,.i 0,.i 3]) rfl ei) es))
 obtain⟨ρ',G',⟨R,L,o4,o5,o6,o7,I,rfl,rfl⟩,e⟩:=dj (g:=Z2) (b:=Z3) (λj ρ G=>∃(A:Cs)(L:Row)(o4 o5 o6 o7:Option HV),pV f g j A L/\ρ=[some (.v (.sc ns)),some (.v (.i sc)),some (.g 0),some (.g 1),o4,o5,o6,o7]/\G=cG A L) n [some (.v (.sc ns)),some (.v (.i sc)),some (.g 0),some (.g 1),none,none,none,none] (cG [] []) ⟨[],[],none,none,none,none,⟨rfl,rfl,(λp hp=>by cases hp),(λp hp=>by cases hp)⟩,rfl,rfl⟩ (λj hj ρ G ⟨A,L,o4,o5,o6,o7,I,e1,e2⟩=>by
  subst e1 e2;have lA:A.length=j:=by have:=G8 List.length I.rk;rwa [u8,u8,O0]at this
  have lL:L.length=j:=by have:=G8 List.length I.lk;rwa [u8,u8,O0]at this
  have hnew:f j∉(List.range j).map f:=λz=>by obtain⟨x,hx,e⟩:=M6.mp z;have:=a0k.mp hx;have:=D.tf.inj (by omega) (by omega) e;omega
  have hA:f j∉A.map (·.1):=I.rk▸hnew;have hL:f j∉L.map (·.1):=I.lk▸hnew;obtain⟨m,m0,m1,em⟩:=yr (ns:=ns) (k:=10+(j:Int)) (m:=5) (by omega) (by omega) (by decide);obtain⟨m,rfl⟩:=R8 m0;obtain⟨y,y0,y1,ey⟩:=yr (ns:=ns) (k:=80+(j:Int)) (m:=sc) (by omega) (by omega) sc0;obtain⟨ρ',G',⟨r,p6,p7,hr,rfl,rfl⟩,e⟩:=dj (g:=Z0) (b:=Z1) (λi ρ G=>∃(r:Row)(o6 o7:Option HV),pT g r/\ρ=[some (.v (.sc ns)),some (.v (.i sc)),some (.g 0),some (.g 1),some (.v (.i (j:Int))),some (.v (kP (f j))),o6,o7]/\G=cG (A++[(f j,r)]) L) m [some (.v (.sc ns)),some (.v (.i sc)),some (.g 0),some (.g 1),some (.v (.i (j:Int))),some (.v (kP (f j))),o6,o7] (cG (A++[(f j,[])]) L) ⟨[],o6,o7,⟨M9,λq hq=>by cases hq⟩,rfl,rfl⟩ (λi hi ρ G ⟨r,o6,o7,hr,e1,e2⟩=>by
   subst e1 e2;obtain⟨k,k0,k1,ek⟩:=yr (ns:=ns) (k:=20+5*(j:Int)+(i:Int)) (m:=5) (by omega) (by omega) (by decide);obtain⟨k,rfl⟩:=R8 k0;obtain⟨z,z0,z1,ez⟩:=yr (ns:=ns) (k:=50+5*(j:Int)+(i:Int)) (m:=sc) (by omega) (by omega) sc0;have mj:ZI (.i 5) (.i (j:Int))=.ok (.i (5*(j:Int))):=Jq (by omega) (by omega);refine⟨_,rfl,_,_,⟨dput r (g k) z,some (.v (.i (i:Int))),some (.v (kP (g k))),hr.put (by omega) z0 (by omega),rfl,rfl⟩,zv (yF (bo rfl (ug D rfl (zy (zx rfl (zx (zj (zj rfl (zj rfl rfl mj) rfl) rfl rfl) rfl)) ek) (by omega)))) ?_⟩;refine(kA (kvs:=iK r) (q:=g k) (k:=A.length+2) (y:=.i z) (bo rfl (zy (zx rfl (zx (zj (zj rfl (zj rfl rfl mj) rfl) rfl rfl) (zx rfl rfl))) ez)) (pS rfl rfl (C0 hA)) rfl uh (L8 (show(iK r).length<=5 by unfold iK;rw[u8];exact hr.len) (by decide))).trans ?_;rw[JA,A6];rfl)
  refine⟨_,rfl,_,_,⟨A++[(f j,r)],L++[(f j,y)],some (.v (.i (j:Int))),some (.v (kP (f j))),p6,p7,⟨by rw[F8,I.rk,a2m,F8];rfl,by rw[F8,I.lk,a2m,F8];rfl,λp hp=>?_,λq hq=>?_⟩,rfl,rfl⟩,zv (yF (bo rfl (nT D rfl rfl (by omega)))) (zv (di (k:=0) (q:=f j) (y:=.g (cG A L).length) (kvs:=cpD 2 A) (lq rfl rfl rfl) rfl rfl rfl (by rw[uf];omega)) ?_)⟩
  .rcases N3.mp hp with h|h
   .exact I.rows p h
   .rw[E8.mp h];exact hr
  .rcases N3.mp hq with h|h
   .exact I.nums q h
   .rw[E8.mp h];exact⟨y0,by dsimp only;omega⟩
  .rw[A5,show Cell.d (vK [])=Cell.d []from rfl,A7 hA];refine zv (Kj rfl (Us (n:=m) (zx (zy (zx rfl (zx (zj rfl rfl rfl) rfl)) em) rfl) (by omega)) e) ?_;refine(kA (kvs:=iK L) (q:=f j) (k:=1) (y:=.i y) (bo rfl (zy (zx rfl (zx (zj rfl rfl rfl) (zx rfl rfl))) ey)) rfl rfl rfl (L8 (show(iK L).length<=5 by unfold iK;rw[u8];omega) (by decide))).trans ?_;rw[JA,jA hL];rfl)
 have lR:R.length=n:=by have:=G8 List.length I.rk;rwa [u8,u8,O0]at this
 refine⟨n,R,L,by omega,I,?_⟩;have run:kZ [.v (.sc ns)] []=.ok (.t [.g 0,.g 1]) (cG R L):=by show(match kY [some (.v (.sc ns)),none,none,none,none,none,none,none] []with | .nx _ G'=>HX.ok (HV.v .n) G' | .rt x G'=>.ok x G' | .exc c fs G'=>.exc c fs G'|_=>.wall)=_;rw[show kY [some (.v (.sc ns)),none,none,none,none,none,none,none] []=.rt (.t [.g 0,.g 1]) (cG R L)from zv q1 (zv (yF (lq rfl rfl rfl)) (zv (yF (lq rfl rfl rfl)) (zv (Kj rfl (Us (n:=n) (zx (zy (xs:=[.sc ns,.i 1,.i 6]) rfl en) rfl) (by omega)) e) (ig (Xz (xs:=[.g 0,.g 1]) (iJ rfl (iJ rfl rfl)) (G7 rfl))))))]
 unfold vOf;rw[show List.map HV.v [PV.sc ns]=[.v (.sc ns)]from rfl,run];have r1:Q8 (cG R L) 7 (.g 0)=some (.d (cK R)):=by
  show(Q6 (Q8 (cG R L) 6) (cpD 2 R)).map PV.d=_;rw[iI λi p e=>pR (n:=4) (kvs:=iK p.2) ?_ λq hq=>by obtain⟨x,_,rfl⟩:=M6.mp hq;rfl]
  .rfl
  .unfold cG;rw[a1Q,L7,L7,G9,e];rfl
 have r2:Q8 (cG R L) 7 (.g 1)=some (.d (iK L)):=pR (n:=5) rfl λq hq=>by obtain⟨x,_,rfl⟩:=M6.mp hq;rfl
 show(match(cF (Q8 (cG R L) 7) [.g 0,.g 1]).map PV.t with|some z=>Out.ok z|none=>.wall)=_;show(match(((Q8 (cG R L) 7 (.g 0)).bind λy=>((Q8 (cG R L) 7 (.g 1)).bind λz=>(some []).map (z::·)).map (y::·)).map PV.t)with|some z=>Out.ok z|none=>.wall)=_;rw[r1,r2];rfl
end
def pW:ddK ks=ks.foldl QT []:=rfl
def vu:k∈ddK ks↔k∈ks:=by rw[pW,Qu];simp
def iL:(ddK ks).Nodup:=Vs M9
def ui{ks:EG}:∀{acc:EG},(ks.foldl QT acc).length<=acc.length+ks.length:=by
 induction ks with
 |nil=>exact λ{acc}=>E5 _
 |cons k ks ih=>
  intro acc;rw[R7,E4];refine F9 ih ?_;unfold QT;split
  .omega
  .rw[F7];show acc.length+1+_<=_;omega
def nU{ks:EG}:∀{acc:EG},(ks.foldl QT acc).length=acc.length+ks.length↔ks.Nodup/\∀k∈ks,k∉acc:=by
 induction ks with
 |nil=>intro acc;simp
 |cons k ks ih=>
  intro acc;rw[R7,E4,I0];by_cases h:k∈acc
  .have:=ui (ks:=ks) (acc:=acc);rw[show QT acc k=acc from if_pos h];exact⟨λe=>by omega,λz=>absurd h (z.2 k E9)⟩
  .rw[show QT acc k=acc++[k]from if_neg h];have:=ih (acc:=acc++[k]);rw[F7]at this;rw[show acc.length+(ks.length+1)=acc.length+[k].length+ks.length by show _=acc.length+1+_;omega,this];constructor
   .exact λ⟨a,b⟩=>⟨⟨λz=>b k z (M4 _ (E8.mpr rfl)),a⟩,λj hj=>by
     rcases F0.mp hj with rfl|hj
     .exact h
     .exact λz=>b j hj (a0a _ z)⟩
   .exact λ⟨⟨a,b⟩,c⟩=>⟨b,λj hj z=>by
     rcases N3.mp z with z|z
     .exact c j (E3 _ hj) z
     .rw[E8.mp z]at hj;exact a hj⟩
def uj:(ddK ks).length=ks.length↔ks.Nodup:=by have:=nU (ks:=ks) (acc:=[]);rw[pW];simpa using this
def sk(a b:EG):Bool:=eqD (ddK a) (ddK b)
def Ws:sk a b=true↔∀k,k∈a↔k∈b:=by
 unfold sk;rw[hU];constructor
 .rintro ⟨g,f⟩ k
  refine⟨λh=>vu.mp (f k (vu.mpr h)),λh=>?_⟩;by_cases c:k∈ddK a
  .exact vu.mp c
  .have:=jC (I0.mpr ⟨c,iL (ks:=a)⟩) (b:=ddK b) λx e=>by
    rcases F0.mp e with rfl|e
    .exact vu.mpr h
    .exact f x e
   rw[E4]at this;omega
 .intro h;refine⟨Nat.le_antisymm (jC iL λk d=>?_) (jC iL λk d=>?_),λk d=>vu.mpr ((h k).mp (vu.mp d))⟩
  .exact vu.mpr ((h k).mp (vu.mp d))
  .exact vu.mpr ((h k).mpr (vu.mp d))
def nV:tR (ks.map kP)=some ks:=by
 induction ks with
 |nil=>rfl
 |cons k ks a=>
  rw[F3];cases k with
  |inl i=>show(tR (ks.map kP)).map _=_;rw[a];rfl
  |inr x=>show(tR (ks.map kP)).map _=_;rw[a];rfl
def U0(h:kvs.length<=1000):kh [.d kvs]=.ok (ddK (kvs.map (·.1))):=if_pos (by omega)
def pX(h:ks.length<=1000):kh [.l (ks.map kP)]=.ok (ddK ks):=by unfold kh;dsimp only;rw[nV];dsimp only;rw[if_pos (by omega)]
def XA(d:kh [x]=.ok (ddK a))(c:kh [y]=.ok (ddK b)):yh [x,y]=.ok (.b (sk a b)):=by refine z3 (vq ?_);unfold hX;show(kh [x]).bind _=_;rw[d];show(kh [y]).bind _=_;rw[c];rfl
def nW{ks:EG}(h:ks.length<=1000):qK [.l (ks.map kP)]=.ok (.b (decide ks.Nodup)):=by
 refine z3 (vq (zj (x:=.i (ddK ks).length) (y:=.i (ks.map kP).length) (zy (xs:=[.l (ks.map kP)]) rfl ?_) (zy (xs:=[.l (ks.map kP)]) rfl rfl) ?_))
 .show(kh _).bind _=_;rw[pX h];rfl
 .rw[gj,u8];have:decide (((ddK ks).length:Int)=(ks.length:Int))=decide ks.Nodup:=a0F.mpr ((by exact⟨λe=>by exact_mod_cast e,λe=>by exact_mod_cast e⟩:((ddK ks).length:Int)=(ks.length:Int)↔(ddK ks).length=ks.length).trans uj);rw[this,P1]
def dm{a:Type}{f:a->Bool}{xs:List a}:pf [.l (xs.map λx=>PV.b (f x))]=.ok (.b (xs.any f)):=by show wJ ((fT (xs.map λx=>PV.b (f x))).map _)=_;rw[Uq,a2i,vB,a3a];rfl
def chk{a b:Type}(f:a->b->a)(c:a->b->Bool):a->List b->Bool
 |_,[]=>true
 |u,x::d=>c u x&&chk f c (f u x) d
def uk(a:g x ρ=some ρ1)(c:b ρ1=.ok (.nx ρ2)):JU g b (x::xs) ρ=JU g b xs ρ2:=by rw[JU,a];show((b ρ1).bind _)=_;rw[c];rfl
def um(a:g x ρ=some ρ1)(c:b ρ1=.ok (.rt v)):JU g b (x::xs) ρ=.ok (.rt v):=by rw[JU,a];show((b ρ1).bind _)=_;rw[c];rfl
theorem Qv{j m:Type}{g:MG}{b:MS}(n:m->PV)(J:j->Sto->Prop)(f:j->m->j)(c:j->m->Bool):∀(i:List m)(u:j)(a:Sto),J u a->
  (∀x∈i,∀u a,J u a->∃e,g (n x) a=some e/\((c u x=true/\∃d,J (f u x) d/\b e=.ok (.nx d))\/(c u x=false/\b e=.ok (.rt (.b false)))))->
  (chk f c u i=true/\∃l,J (i.foldl f u) l/\JU g b (i.map n) a=.ok (.nx l))\/(chk f c u i=false/\JU g b (i.map n) a=.ok (.rt (.b false)))
 |[],u,a,h,_=>.inl ⟨rfl,a,h,rfl⟩
 |x::i,u,a,h,q=>by
  obtain⟨e,r,s⟩:=q x E9 u a h;rw[F3];unfold chk;rcases s with⟨p,d,t,o⟩|⟨p,o⟩
  .rw[uk r o,p,a0s];exact Qv n J f c i (f u x) d t λy v=>q y (E3 _ v)
  .rw[um r o,p,a2C];exact .inr ⟨rfl,rfl⟩
theorem XB{b:Type}{c:b->Bool}:∀{a:List b},chk (λ(_:Unit) _=>()) (λ_ x=>c x) () a=a.all c
 |[]=>rfl
 |x::a=>by unfold chk;rw[XB,a0r]
abbrev Dl:=List (Key×Option Key)
structure Pp(R:Cs)(L:Row)(D:Dl)(T S:Row):Prop where
 rn:(R.map (·.1)).Nodup
 rr:∀t,((rw' R t).map (·.1)).Nodup
 ln:(L.map (·.1)).Nodup
 dn:(D.map (·.1)).Nodup
 tn:(T.map (·.1)).Nodup
 sn:(S.map (·.1)).Nodup
 rl:R.length<=20
 rrl:∀t,(rw' R t).length<=40
 ll:L.length<=20
 dl:D.length<=20
 tl:T.length<=20
 sl:S.length<=200
abbrev dom{α:Type}(a:List (Key×α)):List Key:=a.map (·.1)
abbrev ga(L:Row)(t:Fg):Int:=(zK L t).getD 0
abbrev gc(R:Cs)(t k:Fg):Int:=ga (rw' R t) k
abbrev dO'(D:Dl)(t:Fg):Option Key:=(zK D t).join
def vl(R:Cs)(L:Row)(D:Dl)(t:Fg):Int:=match dO' D t with
 |none=>ga L t
 |some k=>gc R t k
structure Hd(R:Cs)(L:Row)(D:Dl)(T S:Row):Prop where
 l:∀k,k∈dom R↔k∈dom L
 d:∀k,k∈dom R↔k∈dom D
 t:∀k,k∈dom R↔k∈dom T
 s:∀k,k∈yd R↔k∈dom S
 i:∀t k,dO' D t=some k->k∈dom (rw' R t)
 u:∀t u k,dO' D t=some k->dO' D u=some k->t=u
 n:∀k∈dom S,ga S k<=0
 p:∀t∈dom R,ga T t<=ga L t
 c:∀t∈dom R,∀k∈dom (rw' R t),ga T t+ga S k<=gc R t k
 e:((dom R).map (vl R L D)).sum=(T.map (·.2)).sum+(S.map (·.2)).sum
def jI(h:k∈dom r):pIx (.d (iK r)) (kP k)=.ok (.i (ga r k)):=ixD (UT h)
def XE(h:t∈dom R):pIx (.d (cK R)) (kP t)=.ok (.d (iK (rw' R t))):=ixD (Z4 h)
def iM(h:t∈dom D):pIx (.d (dtP D)) (kP t)=.ok (oP (dO' D t)):=by obtain⟨x,e⟩:=L4.mp (zZ.mpr h);refine ixD ?_;rw[iu,e,show dO' D t=x by unfold dO';rw[e];rfl];rfl
def A8:pIn false (kP k) (.d (iK r))=.ok (.b (memD (dom r) k)):=by rw[pM];congr 2;rw[a01,zZ,qf,yw]
def iN(nd:(dom r).Nodup)(h:q∈r):ga r q.1=q.2:=by unfold ga;rw[qC nd (show(q.1,q.2)∈r from h)];rfl
def nX(nd:(dom D).Nodup)(h:q∈D):dO' D q.1=q.2:=by unfold dO';rw[qC nd (show(q.1,q.2)∈D from h)];rfl
def YG(h:dO' D t=some k):(t,some k)∈D:=by
 unfold dO' at h;cases e:zK D t with
 |none=>rw[e]at h;cases h
 |some x=>rw[e]at h;cases(show x=some k from h);exact jV e
def Qw:(dtP D).map (·.1)=dom D:=by unfold dtP;rw[F4];rfl
def Z5:(iK r).length=r.length:=u8 _
def Vv:(cK R).length=R.length:=u8 _
def XF:(dtP D).length=D.length:=u8 _
def gv(D:Dl):List Key:=D.filterMap (·.2)
def A9(nd:(dom D).Nodup):(gv D).Nodup↔∀t u k,dO' D t=some k->dO' D u=some k->t=u:=by
 have i:∀{E:Dl},(dom E).Nodup->((gv E).Nodup↔∀t u k,(t,some k)∈E->(u,some k)∈E->t=u):=λ{E}=>by
  unfold gv
  induction E with
  |nil=>exact λ_=>⟨λ_ t u k h=>(by cases h),λ_=>M9⟩
  |cons q E g=>
   intro nd;obtain⟨v,s⟩:=I0.mp (show(q.1::dom E).Nodup from nd);have g:=g s;obtain⟨m,o⟩:=q;have l:∀k,k∈E.filterMap (·.2)↔∃t,(t,some k)∈E:=λk=>by rw[S7];exact⟨λ⟨x,p,e⟩=>⟨x.1,by rw[<- e];exact p⟩,λ⟨t,h⟩=>⟨_,h,rfl⟩⟩
   cases o with
   |none=>
    rw[P8];refine g.trans ⟨λh t u k c d=>?_,λh t u k c d=>h t u k (E3 _ c) (E3 _ d)⟩;rcases F0.mp c with e|c
    .cases e
    .rcases F0.mp d with e|d
     .cases e
     .exact h t u k c d
   |some r=>
    rw[P8];dsimp only;rw[I0,g,l];constructor
    .rintro ⟨j,n⟩ t u k c d
     rcases F0.mp c with e|c
     .cases e;rcases F0.mp d with e|d
      .cases e;rfl
      .exact absurd ⟨u,d⟩ j
     .rcases F0.mp d with e|d
      .cases e;exact absurd ⟨t,c⟩ j
      .exact n t u k c d
    .intro h;refine⟨λ⟨t,c⟩=>?_,λt u k c d=>h t u k (E3 _ c) (E3 _ d)⟩;have:=h t m r (E3 _ c) E9;exact v (by rw[<- this];exact N4 (f:=(·.1)) c)
 rw[i nd];exact⟨λh t u k a b=>h t u k (YG a) (YG b),λh t u k a b=>h t u k (nX nd a) (nX nd b)⟩
def C1(c:a ρ=.ok (.b true)):uE a b ρ=.ok (.b true):=by unfold uE;rw[c,okb];rfl
def C2(d:a ρ=.ok (.b false))(c:b ρ=.ok x):uE a b ρ=.ok x:=by unfold uE;rw[d,okb];exact c
section
variable {R:Cs}{L:Row}{D:Dl}{T S:Row}(P:Pp R L D T S)
include P
def dq:y3 [.d (cK R)]=.ok (.l ((yd R).map kP))/\(yd R).length<=800:=by
 have sub:∀{acc:EG},acc.Nodup->(∀k∈acc,∃t∈dom R,k∈dom (rw' R t))->acc.length<=800:=λ{acc} h1 h2=>by
  have:=jC h1 (b:=(dom R).flatMap λt=>dom (rw' R t)) λk hk=>List.mem_flatMap.mpr (h2 k hk);have h3:∀{ts:EG},(ts.flatMap λt=>dom (rw' R t)).length<=ts.length*40:=λ{ts}=>by
   induction ts with
   |nil=>exact E5 _
   |cons t ts ih=>have:=P.rrl t;rw[List.flatMap_cons,F7,u8,E4];omega
  have h4:=h3 (ts:=dom R);have:=P.rl;rw[show(dom R).length=R.length from u8 _]at h4;omega
 refine⟨?_,sub v_ λk hk=>yf.mp hk⟩;obtain⟨ρ',⟨n1,n2,o2,o3,rfl⟩,e⟩:=wW (g:=YD) (b:=YE) kP (λacc ρ=>acc.Nodup/\(∀k∈acc,∃t∈dom R,k∈dom (rw' R t))/\∃o2 o3:Option PV,ρ=[some (.d (cK R)),some (.d (fK acc λ_=>PV.b true)),o2,o3]) (λacc t=>((rw' R t).map (·.1)).foldl QT acc) (R.map (·.1)) [] [some (.d (cK R)),some (.d []),none,none] ⟨M9,λk z=>(by cases z),none,none,rfl⟩ (λt ht acc ρ ⟨n1,n2,o2,o3,hρ⟩=>by
  subst hρ;refine⟨_,rfl,?_⟩;obtain⟨ρ',⟨m1,m2,o3,rfl⟩,e⟩:=wW (g:=YB) (b:=YC) kP (λacc ρ=>acc.Nodup/\(∀k∈acc,∃t∈dom R,k∈dom (rw' R t))/\∃o3:Option PV,ρ=[some (.d (cK R)),some (.d (fK acc λ_=>PV.b true)),some (kP t),o3]) QT ((rw' R t).map (·.1)) acc [some (.d (cK R)),some (.d (fK acc λ_=>PV.b true)),some (kP t),o3] ⟨n1,n2,o3,rfl⟩ (λk hk acc ρ ⟨m1,m2,o3,hρ⟩=>by
   subst hρ;refine⟨_,rfl,_,⟨Vs (ks:=[k]) m1,λj hj=>?_,some (kP k),rfl⟩,.inl ?_⟩
   .rcases Qu (ks:=[k]).mp hj with z|z
    .exact m2 j z
    .rw[E8.mp z];exact⟨t,ht,hk⟩
   .refine(Vt (k:=k) (x:=.b true) rfl rfl rfl (by rw[Wr];have:=sub m1 m2;omega)).trans ?_;rw[c_];rfl)
  exact⟨_,⟨m1,m2,_,_,rfl⟩,.inl (qG (v9 rfl rfl (Z4 ht) yw) e)⟩)
 refine z3 (ze ⟨_,zG rfl,ze ⟨_,qG (yO rfl yH) e,vq (zy (x:=.l ((yd R).map kP)) rfl ?_)⟩⟩);show Out.ok (PV.l ((fK (yd R) λ_=>PV.b true).map λkx=>kP kx.1))=_;unfold fK;rw[F4];rfl
def C3(r:∀k,k∈dom R↔k∈dom D):z_ [.d (cK R),.d (dtP D)]=.ok (.b (decide (gv D).Nodup&&D.all λq=>match q.2 with|none=>true|some k=>memD (dom (rw' R q.1)) k)):=by
 have j:yb 1 [some (.d (cK R)),some (.d (dtP D)),none]=.ok (D.map λq=>kP q.1):=by show Out.ok ((dtP D).map λn=>kP n.1)=_;unfold dtP;rw[F4];rfl
 have f:∀{o:Fn},yb 1 [some (.d (cK R)),some (.d (dtP D)),o]=.ok (D.map λq=>kP q.1):=λ{o}=>j;have e:=P.dl;have b:∀q∈D,pIx (.d (dtP D)) (kP q.1)=.ok (oP q.2):=λq a=>by
  have:=iM (D:=D) (t:=q.1) (N4 a)
  rwa [nX P.dn a]at this
 have p:mLC (yb 1) [none,some 1] kU kW kX [some (.d (cK R)),some (.d (dtP D)),none]=.ok (.l ((gv D).map kP)):=by
  refine KP j ((Q2 (λq:Key×Option Key=>kP q.1) (λq=>q.2.isSome) (λq=>oP q.2) (λc=>∃o,c=[o,some (.d (dtP D))]) D _ [] ⟨none,rfl⟩ (λq a c ⟨o,g⟩=>by
   subst g;refine⟨_,rfl,⟨_,rfl⟩,zP (zj (zj rfl rfl (b q a)) rfl ?_),λ_=>zj rfl rfl (b q a)⟩;show Out.ok (PV.b (xor true (isN (oP q.2))))=_;rw[Qt];cases q.2<;>rfl) (by show 0+D.length<=_;omega)).trans ?_)
  have:∀{E:Dl},(E.filter λq=>q.2.isSome).map (λq=>oP q.2)=(gv E).map kP:=λ{E}=>by
   unfold gv
   induction E with
   |nil=>rfl
   |cons q E i=>
    obtain⟨t,o⟩:=q;cases o with
    |none=>exact i
    |some k=>show kP k::_=kP k::_;rw[<- i]
  rw[this,a0Z]
 have v:(gv D).length<=20:=F9 (a14 _ _) e;refine z3 (ze ⟨_,zG p,?_⟩);have d:=jT (zP (zy (ms:=zb (zc 2) zr) (ρ:=[some (.d (cK R)),some (.d (dtP D)),some (.l ((gv D).map kP))]) rfl (nW (ks:=gv D) (by omega))));by_cases h:(gv D).Nodup
 .rw[L9 h]at d ⊢;rw[a0s];refine ze ⟨_,(zY d).trans rfl,vq (zy (zx (KP f (wV (λq:Key×Option Key=>kP q.1) (λq=>PV.b (match q.2 with|none=>true|some k=>memD (dom (rw' R q.1)) k)) (λc=>∃o,c=[o,some (.d (dtP D)),some (.d (cK R))]) D _ ⟨none,rfl⟩ (λq a c ⟨o,g⟩=>by
   subst g;refine⟨_,rfl,⟨_,rfl⟩,?_⟩;have s:q.1∈dom R:=(r q.1).mpr (N4 a);have l:=b q a;have m:mOp (VN false) (mOp pIx (zc 1) (zc 0)) (mC .n) [some (kP q.1),some (.d (dtP D)),some (.d (cK R))]=.ok (.b q.2.isNone):=zj (zj rfl rfl l) rfl (by
    show Out.ok (PV.b (xor false (isN (oP q.2))))=_;rw[Qt,P1])
   obtain⟨t,u⟩:=q;cases u with
   |none=>exact C1 m
   |some k=>exact C2 m (zj (zj rfl rfl l) (zj rfl rfl (XE s)) A8)) (by omega))) rfl) cn)⟩
 .rw[G6 h]at d ⊢;exact qB ((zY d).trans rfl)
end
def A_(h:t ρ=.ok true)(c:a ρ=.ok x):mIf t a b ρ=.ok x:=by unfold mIf;rw[h,okb,if_pos rfl,c]
def Ba(h:t ρ=.ok false)(c:b ρ=.ok x):mIf t a b ρ=.ok x:=by unfold mIf;rw[h,okb,if_neg F6,c]
def prB(R:Cs)(L T S:Row)(t:Fg):Bool:=decide (ga T t<=ga L t)&&(dom (rw' R t)).all λk=>decide (ga T t+ga S k<=gc R t k)
def nY{a b:EG}(na:a.Nodup)(d:b.Nodup)(h:∀k,k∈a↔k∈b)(f:Fi):(a.map f).sum=(b.map f).sum:=
 Kf na d (λk c=>(h k).mpr c) λk c hn=>absurd ((h k).mp c) hn
section
variable {R:Cs}{L:Row}{D:Dl}{T S:Row}(P:Pp R L D T S)
include P
def C4(F:∀k,k∈dom R↔k∈dom L)(E:∀k,k∈dom R↔k∈dom T)(y:∀k,k∈yd R↔k∈dom S):yQ [.d (cK R),.d (iK L),.d (iK T),.d (iK S)]=.ok (.b (!(S.any λq=>decide (q.2>0))&&(dom R).all (prB R L T S))):=by
 have G:=P.sl;have s:zW (zg pf (zb (mLC (yb 3) [none,some 3] wm wo wq) zr)) [some (.d (cK R)),some (.d (iK L)),some (.d (iK T)),some (.d (iK S)),none,none]=.ok (S.any λq=>decide (q.2>0)):=by
  refine zP (zy (zx (KP (xs:=S.map λq=>kP q.1) ?_ (wV (λq:Key×Int=>kP q.1) (λq=>PV.b (decide (q.2>0))) (λa=>∃o,a=[o,some (.d (iK S))]) S _ ⟨none,rfl⟩ (λq v a ⟨o,l⟩=>by
   subst l;refine⟨_,rfl,⟨_,rfl⟩,zj (zj rfl rfl (jI (N4 v))) rfl ?_⟩;rw[iN P.sn v];rfl) (by omega))) rfl) dm)
  show Out.ok ((iK S).map λA=>kP A.1)=_;unfold iK;rw[F4];rfl
 refine z3 ?_;cases c:S.any λq=>decide (q.2>0)with
 |true=>exact qB ((zY (s.trans (by rw[c]))).trans rfl)
 |false=>
  refine ze ⟨_,(zY (s.trans (by rw[c]))).trans rfl,?_⟩;rw[Bool.not_false,a0s,<- XB];rcases Qv (g:=Zd) (b:=Ze) kP (λ(_:Unit) a=>∃r n:Option PV,a=[some (.d (cK R)),some (.d (iK L)),some (.d (iK T)),some (.d (iK S)),r,n]) (λ_ _=>()) (λ_ t=>prB R L T S t) (dom R) () _ ⟨none,none,rfl⟩ (λt j u a ⟨r,n,m⟩=>by
   subst m;refine⟨_,rfl,?_⟩;have C:pIx (.d (iK T)) (kP t)=.ok (.i (ga T t)):=jI ((E t).mp j);have z:pIx (.d (iK L)) (kP t)=.ok (.i (ga L t)):=jI ((F t).mp j);have p:yW 5 (mOp pIx (zc 2) (zc 4)) [some (.d (cK R)),some (.d (iK L)),some (.d (iK T)),some (.d (iK S)),some (kP t),n]=.ok (.nx [some (.d (cK R)),some (.d (iK L)),some (.d (iK T)),some (.d (iK S)),some (kP t),some (.i (ga T t))]):=zG (zj rfl rfl C);have f:zW (mOp pGt (zc 5) (mOp pIx (zc 1) (zc 4))) [some (.d (cK R)),some (.d (iK L)),some (.d (iK T)),some (.d (iK S)),some (kP t),some (.i (ga T t))]=.ok (decide (ga T t>ga L t)):=zP (zj rfl (zj rfl rfl z) rfl);have i:zW (zg pf (zb (mLC (qm 0 4) [none,some 5,some 3,some 0,some 4] wt wu wx) zr)) [some (.d (cK R)),some (.d (iK L)),some (.d (iK T)),some (.d (iK S)),some (kP t),some (.i (ga T t))]=.ok ((dom (rw' R t)).any λk=>decide (ga T t+ga S k>gc R t k)):=by
    refine zP (zy (zx (KP (v9 rfl rfl (Z4 j) yw) (wV kP (λk=>PV.b (decide (ga T t+ga S k>gc R t k))) (λa=>∃o,a=[o,some (.i (ga T t)),some (.d (iK S)),some (.d (cK R)),some (kP t)]) (dom (rw' R t)) _ ⟨none,rfl⟩ (λk w a ⟨o,l⟩=>by
     subst l;exact⟨_,rfl,⟨_,rfl⟩,zj (zj rfl (zj rfl rfl (jI ((y k).mp (yf.mpr ⟨t,j,w⟩)))) rfl) (zj (zj rfl rfl (XE j)) rfl (jI w)) rfl⟩) (by have:=P.rrl t;rw[u8];omega))) rfl) dm)
   unfold prB;by_cases d:ga T t<=ga L t
   .rw[L9 d,a0s];rw[G6 (by omega)]at f;have B:((dom (rw' R t)).any λk=>decide (ga T t+ga S k>gc R t k)) = !((dom (rw' R t)).all λk=>decide (ga T t+ga S k<=gc R t k)):=by
     rw[List.not_all_eq_any_not];congr 1
     funext k
     rw[<- decide_not];exact a0F.mpr ⟨λh=>by omega,λh=>by omega⟩
    rw[B]at i;cases x:(dom (rw' R t)).all λk=>decide (ga T t+ga S k<=gc R t k)with
    |true=>rw[x]at i;exact .inl ⟨rfl,_,⟨_,_,rfl⟩,ze ⟨_,p,ze ⟨_,(zY f).trans rfl,(zY i).trans rfl⟩⟩⟩
    |false=>rw[x]at i;exact .inr ⟨rfl,ze ⟨_,p,ze ⟨_,(zY f).trans rfl,(zY i).trans rfl⟩⟩⟩
   .rw[G6 d,a2C];rw[L9 (by omega)]at f;exact .inr ⟨rfl,ze ⟨_,p,qB ((zY f).trans rfl)⟩⟩)with⟨d,ρ',⟨_,_,rfl⟩,e⟩|⟨d,e⟩
  .rw[d];exact ze ⟨_,qG (yO rfl yH) e,rfl⟩
  .rw[d];exact qB (qG (yO rfl yH) e)
def uo(i:∀k,k∈dom R↔k∈dom L)(c:∀k,k∈dom R↔k∈dom D)(j:∀t k,dO' D t=some k->k∈dom (rw' R t)):yk [.d (cK R),.d (iK L),.d (dtP D)]=.ok (.i (((dom R).map (vl R L D)).sum)):=by
 rw[nY P.rn P.dn c];refine z3 (vq (zy (xs:=[.l (((dom D).map (vl R L D)).map PV.i)]) (zx (KP (yO rfl Qw) ((wV kP (λt=>PV.i (vl R L D t)) (λf=>∃o,f=[o,some (.d (dtP D)),some (.d (iK L)),some (.d (cK R))]) (dom D) _ ⟨none,rfl⟩ (λt g f ⟨o,h⟩=>by
  subst h;refine⟨_,rfl,⟨_,rfl⟩,?_⟩;have d:=(c t).mpr g;have b:=iM g;have a:zW (mOp (VN false) (mOp pIx (zc 1) (zc 0)) (mC .n)) [some (kP t),some (.d (dtP D)),some (.d (iK L)),some (.d (cK R))]=.ok (dO' D t).isNone:=zP (zj (zj rfl rfl b) rfl (by
   show Out.ok (PV.b (xor false (isN (oP (dO' D t)))))=_;rw[Qt,P1]))
  unfold vl;cases e:dO' D t with
  |none=>rw[e]at a;exact A_ a (zj rfl rfl (jI ((i t).mp d)))
  |some k=>
   rw[e]at a b;exact Ba a (zj (zj rfl rfl (XE d)) (zj rfl rfl b) (jI (j t k e)))) (by have:=P.dl;rw[u8];omega)).trans (by simp only[List.map_map];rfl))) rfl) pd))
def iO(h:ρ[i]?=some (some (.d (iK r)))):gY (zc i) ρ=.ok (.i ((r.map (·.2)).sum)):=by unfold gY;rw[show zc i ρ=.ok (.d (iK r))from by unfold zc;rw[h],okb];dsimp only;rw[show(iK r).map (·.2)=(r.map (·.2)).map PV.i from by unfold iK;rw[F4,F4];rfl,WO];rfl
def XG:∃b,qL [.d (cK R),.d (iK L),.d (dtP D),.d (iK T),.d (iK S)]=.ok (.b b)/\(b=true↔Hd R L D T S):=by
 have rl:=P.rl;have Z:=P.ll;have X:=P.dl;have Y:=P.tl;have W:=P.sl;have s:kh [.d (cK R)]=.ok (ddK (dom R)):=(U0 (by rw[Vv];omega)).trans (by rw[yH]);have H:kh [.d (iK L)]=.ok (ddK (dom L)):=(U0 (by rw[Z5];omega)).trans (by rw[yw]);have U:kh [.d (dtP D)]=.ok (ddK (dom D)):=(U0 (by rw[XF];omega)).trans (by rw[Qw]);have E:kh [.d (iK T)]=.ok (ddK (dom T)):=(U0 (by rw[Z5];omega)).trans (by rw[yw]);have F:kh [.d (iK S)]=.ok (ddK (dom S)):=(U0 (by rw[Z5];omega)).trans (by rw[yw]);obtain⟨K,M⟩:=dq P;have C:kh [.l ((yd R).map kP)]=.ok (ddK (yd R)):=pX (by omega);generalize hρ:([some (.d (cK R)),some (.d (iK L)),some (.d (dtP D)),some (.d (iK T)),some (.d (iK S)),none]:Sto)=a;have n:zW (zg oQ (zb (mLC (wd (aH (zb (zc 1) (zb (zc 2) (zb (zc 3) zr))))) [none,some 0] kr ky kz) zr)) a=.ok (sk (dom R) (dom L)&&(sk (dom R) (dom D)&&sk (dom R) (dom T))):=by
  subst hρ;refine zP (zy (xs:=[.l ([(PV.d (iK L),sk (dom R) (dom L)),(.d (dtP D),sk (dom R) (dom D)),(.d (iK T),sk (dom R) (dom T))].map λx=>PV.b x.2)]) (zx (KP (xs:=[.d (iK L),.d (dtP D),.d (iK T)]) rfl (wV (λx:PV×Bool=>x.1) (λx=>PV.b x.2) (λa=>∃o,a=[o,some (.d (cK R))]) [(PV.d (iK L),sk (dom R) (dom L)),(.d (dtP D),sk (dom R) (dom D)),(.d (iK T),sk (dom R) (dom T))] _ ⟨none,rfl⟩ (λx A a ⟨o,G⟩=>by
   subst G;refine⟨_,rfl,⟨_,rfl⟩,zy (xs:=[.d (cK R),x.1]) rfl ?_⟩;simp only[List.mem_cons,List.not_mem_nil,or_false]at A;rcases A with rfl|rfl|rfl
   .exact XA s H
   .exact XA s U
   .exact XA s E) (G7 rfl))) rfl) (cn.trans ?_))
  simp
 have p:∀{b:Bool},(b=false)->¬Hd R L D T S->(b=true↔Hd R L D T S):=λe h=>⟨λz=>(by rw[e]at z;cases z),λz=>absurd z h⟩;cases g:(sk (dom R) (dom L)&&(sk (dom R) (dom D)&&sk (dom R) (dom T)))with
 |false=>
  rw[g]at n;refine⟨false,z3 (qB ?_),p rfl λh=>?_⟩
  .show sIf _ _ _ [some (.d (cK R)),some (.d (iK L)),some (.d (dtP D)),some (.d (iK T)),some (.d (iK S)),none]=_;rw[hρ];exact(zY (jT n)).trans rfl
  .rw[Ws.mpr h.l,Ws.mpr h.d,Ws.mpr h.t]at g;cases g
 |true=>
  rw[g]at n;simp only[Bool.and_eq_true,Ws]at g;obtain⟨v,u,c⟩:=g;have r:sIf (Jm (zW (zg oQ (zb (mLC (wd (aH (zb (zc 1) (zb (zc 2) (zb (zc 3) zr))))) [none,some 0] kr ky kz) zr)))) (kc (mC (.b false))) yI a=.ok (.nx a):=(zY (jT n)).trans rfl;have O:zW (zg yh (zb (zg y3 (zb (zc 0) zr)) (zb (zc 4) zr))) a=.ok (sk (yd R) (dom S)):=by subst hρ;exact zP (zy (xs:=[.l ((yd R).map kP),.d (iK S)]) (zx (zy (xs:=[.d (cK R)]) rfl K) rfl) (XA C F))
  have J:zW (zg z_ (zb (zc 0) (zb (zc 2) zr))) a=.ok (decide (gv D).Nodup&&D.all λq=>match q.2 with|none=>true|some k=>memD (dom (rw' R q.1)) k):=by subst hρ;exact zP (zy (xs:=[.d (cK R),.d (dtP D)]) rfl (C3 P u))
  have m:=V3 (jT O) (jT J);have d:(D.all λq=>match q.2 with|none=>true|some k=>memD (dom (rw' R q.1)) k)=true↔∀t k,dO' D t=some k->k∈dom (rw' R t):=by
   rw[O5];constructor
   .intro h t k e;have:=h _ (YG e);exact qf.mp this
   .rintro h ⟨t,o⟩ f
    cases o with
    |none=>rfl
    |some k=>exact qf.mpr (h t k (nX P.dn f))
  cases j:(!sk (yd R) (dom S) || !(decide (gv D).Nodup&&D.all λq=>match q.2 with|none=>true|some k=>memD (dom (rw' R q.1)) k))with
  |true=>
   rw[j]at m;refine⟨false,z3 ?_,p rfl λh=>?_⟩
   .show yj _ _ [some (.d (cK R)),some (.d (iK L)),some (.d (dtP D)),some (.d (iK T)),some (.d (iK S)),none]=_;rw[hρ];exact ze ⟨_,r,qB ((zY m).trans rfl)⟩
   .rw[Ws.mpr h.s,L9 ((A9 P.dn).mpr h.u),d.mpr h.i]at j;cases j
  |false=>
   rw[j]at m;simp only[Bool.or_eq_false_iff,Bool.not_eq_false',Bool.and_eq_true,Ws,decide_eq_true_eq,d,A9 P.dn]at j;obtain⟨w,Q,B⟩:=j;have y:sIf (mOr (Jm (zW (zg yh (zb (zg y3 (zb (zc 0) zr)) (zb (zc 4) zr))))) (Jm (zW (zg z_ (zb (zc 0) (zb (zc 2) zr)))))) (kc (mC (.b false))) yI a=.ok (.nx a):=(zY m).trans rfl;have l:zW (zg yQ (zb (zc 0) (zb (zc 1) (zb (zc 3) (zb (zc 4) zr))))) a=.ok (!(S.any λq=>decide (q.2>0))&&(dom R).all (prB R L T S)):=by subst hρ;exact zP (zy (xs:=[.d (cK R),.d (iK L),.d (iK T),.d (iK S)]) rfl (C4 P v c w))
   have hn:(!(S.any λq=>decide (q.2>0)))=true↔∀k∈dom S,ga S k<=0:=by
    rw[a0z,List.any_eq_false];constructor
    .intro h k N;obtain⟨q,f,rfl⟩:=M6.mp N;have:=h q f;rw[iN P.sn f];simpa using this
    .intro h q f;have:=h q.1 (N4 f);rw[iN P.sn f]at this;simpa using this
   have hp:((dom R).all (prB R L T S))=true↔(∀t∈dom R,ga T t<=ga L t)/\∀t∈dom R,∀k∈dom (rw' R t),ga T t+ga S k<=gc R t k:=by rw[O5];unfold prB;simp only[Bool.and_eq_true,decide_eq_true_eq,List.all_eq_true];exact⟨λh=>⟨λt c=>(h t c).1,λt c=>(h t c).2⟩,λh t c=>⟨h.1 t c,h.2 t c⟩⟩
   cases i:(!(S.any λq=>decide (q.2>0))&&(dom R).all (prB R L T S))with
   |false=>
    rw[i]at l;refine⟨false,z3 ?_,p rfl λh=>?_⟩
    .show yj _ _ [some (.d (cK R)),some (.d (iK L)),some (.d (dtP D)),some (.d (iK T)),some (.d (iK S)),none]=_;rw[hρ];exact ze ⟨_,r,ze ⟨_,y,qB ((zY (jT l)).trans rfl)⟩⟩
    .rw[hn.mpr h.n,hp.mpr ⟨h.p,h.c⟩]at i;cases i
   |true=>
    rw[i]at l;rw[O8,hn,hp]at i;obtain⟨hn,hp,I⟩:=i;refine⟨decide ((T.map (·.2)).sum+(S.map (·.2)).sum=((dom R).map (vl R L D)).sum),z3 ?_,?_⟩
    .show yj _ _ [some (.d (cK R)),some (.d (iK L)),some (.d (dtP D)),some (.d (iK T)),some (.d (iK S)),none]=_;rw[hρ];refine ze ⟨_,r,ze ⟨_,y,ze ⟨_,(zY (jT l)).trans rfl,?_⟩⟩⟩;subst hρ;exact ze ⟨_,zG (zj (iO rfl) (iO rfl) rfl),vq (zj (x:=.i ((T.map (·.2)).sum+(S.map (·.2)).sum)) rfl (zy (xs:=[.d (cK R),.d (iK L),.d (dtP D)]) rfl (uo P v u B)) (gj.trans (by rw[P1])))⟩
    .rw[a0P];exact⟨λe=>⟨v,u,c,w,B,Q,hn,hp,I,e.symm⟩,λh=>h.e.symm⟩
end
def Kk(i:x.length<=1000):ym [.d x,.d y]=.ok (.b (decide (x.length=y.length)&&(dom x).all (memD (dom y)))):=by
 have h:mLC (yb 0) [none,some 1] vY vZ v3 [some (.d x),some (.d y)]=.ok (.l (((dom x).filter λk=>!memD (dom y) k).map kP)):=
  KP (yO (ks:=dom x) rfl rfl) (Q2 kP (λk=>!memD (dom y) k) kP (λb=>∃o,b=[o,some (.d y)]) (dom x) _ [] ⟨none,rfl⟩ (λk a b ⟨o,c⟩=>by
   subst c;refine⟨_,rfl,⟨_,rfl⟩,zP (zj rfl rfl (ip.trans ?_)),λ_=>rfl⟩;congr 3;rw[a01,zZ,qf]) (by show 0+(dom x).length<=_;rw[u8];omega))
 have d:mOp (j2 false) (mLC (yb 0) [none,some 1] vY vZ v3) (VO zr) [some (.d x),some (.d y)]=.ok (.b ((dom x).all (memD (dom y)))):=by
  refine zj h rfl ?_;rw[CC];cases e:(dom x).filter λk=>!memD (dom y) k with
  |nil=>
   have:(dom x).all (memD (dom y))=true:=O5.mpr λk a=>by have:=List.filter_eq_nil_iff.mp e k a;simpa using this
   rw[this];rfl
  |cons k r=>
   have a:k∈(dom x).filter λk=>!memD (dom y) k:=by rw[e];exact E9
   obtain⟨g,f⟩:=a2b.mp a;have:(dom x).all (memD (dom y))=false:=List.all_eq_false.mpr ⟨k,g,by simpa using f⟩;rw[this];rfl
 refine z3 (vq (Xq (zj (x:=.i (x.length:Int)) (y:=.i (y.length:Int)) rfl rfl ?_) d));rw[gj,P1];congr 2;exact a0F.mpr (by exact⟨λe=>by exact_mod_cast e,λe=>by exact_mod_cast e⟩)
def Qx{x y:EA}(nx:(dom x).Nodup)(f:(dom y).Nodup):(decide (x.length=y.length)&&(dom x).all (memD (dom y)))=true↔∀k,k∈dom x↔k∈dom y:=by
 rw[O8,a0P,O5];have m:(dom x).length=x.length:=u8 _;have l:(dom y).length=y.length:=u8 _;constructor
 .rintro ⟨g,e⟩ k
  refine⟨λh=>qf.mp (e k h),λh=>?_⟩;by_cases c:k∈dom x
  .exact c
  .have:=jC (I0.mpr ⟨c,nx⟩) (b:=dom y) λj d=>by
    rcases F0.mp d with rfl|d
    .exact h
    .exact qf.mp (e j d)
   rw[E4]at this;omega
 .intro h;refine⟨?_,λk a=>qf.mpr ((h k).mp a)⟩;have n:=jC nx (b:=dom y) λk a=>(h k).mp a;have i:=jC f (b:=dom x) λk a=>(h k).mpr a;omega
theorem uq{f:Key->Option Key}:∀{g:EG},g.Nodup->((g.filterMap f).Nodup↔∀t∈g,∀u∈g,∀k,f t=some k->f u=some k->t=u)
 |[],_=>⟨λ_ t h=>(by cases h),λ_=>M9⟩
 |x::g,nd=>by
  obtain⟨s,r⟩:=I0.mp nd;have l:=uq (f:=f) r;rw[P8];cases e:f x with
  |none=>
   refine l.trans ⟨λh t c u d k a b=>?_,λh t c u d=>h t (E3 _ c) u (E3 _ d)⟩;rcases F0.mp c with rfl|c
   .rw[e]at a;cases a
   .rcases F0.mp d with rfl|d
    .rw[e]at b;cases b
    .exact h t c u d k a b
  |some q=>
   dsimp only;rw[I0,l,S7];constructor
   .rintro ⟨m,p⟩ t c u d k a b
    rcases F0.mp c with o|n
    .rcases F0.mp d with i|j
     .rw[o,i]
     .rw[o,e]at a;cases a;exact absurd ⟨u,j,b⟩ m
    .rcases F0.mp d with i|j
     .rw[i,e]at b;cases b;exact absurd ⟨t,n,a⟩ m
     .exact p t n u j k a b
   .intro h;refine⟨λ⟨t,c,a⟩=>?_,λt c u d=>h t (E3 _ c) u (E3 _ d)⟩;have:=h t (E3 _ c) x E9 q a e;exact s (this▸c)
abbrev Ac:=List Key×List Key
def stF(R:Cs)(D:Dl)(u:Ac)(t:Fg):Ac:=((dom (rw' R t)).foldl QT u.1,u.2++(dO' D t).toList)
def stC(R:Cs)(D:Dl)(u:Ac)(t:Fg):Bool:=match dO' D t with
 |none=>true
 |some k=>memD (dom (rw' R t)) k && !memD u.2 k
theorem iP{R:Cs}{D:Dl}:∀{ts:EG}{u:Ac},(ts.foldl (stF R D) u).1=ts.foldl (λacc t=>(dom (rw' R t)).foldl QT acc) u.1
 |[],_=>rfl
 |t::ts,u=>iP (ts:=ts) (u:=stF R D u t)
theorem iQ{R:Cs}{D:Dl}:∀{i:EG}{u:Ac},chk (stF R D) (stC R D) u i=true↔(∀t∈i,∀k,dO' D t=some k->k∈dom (rw' R t))/\(i.filterMap (dO' D)).Nodup/\∀k∈i.filterMap (dO' D),k∉u.2
 |[],u=>⟨λ_=>⟨λt h=>(by cases h),M9,λk h=>(by cases h)⟩,λ_=>rfl⟩
 |t::i,u=>by
  unfold chk;rw[O8,iQ,P8];unfold stC stF;cases e:dO' D t with
  |none=>
   simp only[Option.toList,List.append_nil];exact⟨λ⟨_,a,b,c⟩=>⟨λx f k d=>by
    rcases F0.mp f with rfl|f
    .rw[e]at d;cases d
    .exact a x f k d,b,c⟩,λ⟨a,b,c⟩=>⟨trivial,λx f=>a x (E3 _ f),b,c⟩⟩
  |some g=>
   dsimp only;rw[O8,qf,a0z,I0];have m:memD u.2 g=false↔g∉u.2:=by rw[<- qf];simp
   rw[m];constructor
   .rintro ⟨⟨n,l⟩,a,b,c⟩
    refine⟨λx f k d=>?_,⟨λz=>c g z (M4 _ (E8.mpr rfl)),b⟩,λk d=>?_⟩
    .rcases F0.mp f with rfl|f
     .rw[e]at d;cases d;exact n
     .exact a x f k d
    .rcases F0.mp d with rfl|d
     .exact l
     .exact λz=>c k d (a0a _ z)
   .rintro ⟨a,⟨j,o⟩,c⟩
    refine⟨⟨a t E9 g e,c g E9⟩,λx f=>a x (E3 _ f),o,λk d z=>?_⟩;rcases N3.mp z with z|z
    .exact c k (E3 _ d) z
    .rw[E8.mp z]at d;exact j d
section
variable {R:Cs}{L:Row}{D:Dl}{T S:Row}(P:Pp R L D T S)
include P
def iR(m:∀k,k∈dom R↔k∈dom L)(l:∀k,k∈dom R↔k∈dom D)(o:∀t k,dO' D t=some k->k∈dom (rw' R t)):jh [.d (cK R),.d (iK L),.d (dtP D)]=.ok (.i (((dom R).map (vl R L D)).sum)):=by
 obtain⟨p,⟨d,rfl⟩,e⟩:=Q3 (g:=Y_) (b:=Qa) kP (λj i=>∃d:Option PV,i=[some (.d (cK R)),some (.d (iK L)),some (.d (dtP D)),some (.i ((((dom R).take j).map (vl R L D)).sum)),d]) (dom R) _ ⟨none,rfl⟩ (λj h i ⟨d,f⟩=>by
  subst f;have a:=O4 h;rw[iF (v:=vl R L D) h];generalize(dom R)[j]=t at a;generalize(((dom R).take j).map (vl R L D)).sum=s;refine⟨_,rfl,_,⟨some (kP t),rfl⟩,.inl ?_⟩;have c:=iM ((l t).mp a);have n:zW (mOp (VN false) (mOp pIx (zc 2) (zc 4)) (mC .n)) [some (.d (cK R)),some (.d (iK L)),some (.d (dtP D)),some (.i s),some (kP t)]=.ok (dO' D t).isNone:=zP (zj (zj rfl rfl c) rfl (by
   show Out.ok (PV.b (xor false (isN (oP (dO' D t)))))=_;rw[Qt,P1]))
  refine(zY n).trans ?_;unfold vl;cases e:dO' D t with
  |none=>exact zG (zj rfl (zj rfl rfl (jI ((m t).mp a))) rfl)
  |some k=>
   rw[e]at c;exact zG (zj rfl (zj (zj rfl rfl (XE a)) (zj rfl rfl c) (jI (o t k e))) rfl))
 rw[O6 (E5 _)]at e;exact z3 (ze ⟨_,zG rfl,ze ⟨_,qG (yO rfl yH) e,vq rfl⟩⟩)
end
def Bb:VN true (oP (dO' D t)) .n=.ok (.b (dO' D t).isSome):=by show Out.ok (PV.b (xor true (isN (oP (dO' D t)))))=_;rw[Qt];cases dO' D t<;>rfl
def ur:pIn false (kP k) (.l (ks.map kP))=.ok (.b (memD ks k)):=by
 have l:∀(a b:Fg),(match toV (kP a),toV (kP b)with|some u,some v=>some (eqV u v)|_,_=>none)=some (decide (a=b)):=λa b=>by
  cases a with
  |inl i=>cases b with
   |inl j=>show some (i==j)=_;congr 1;rw[WX];exact a0F.mpr ⟨λe=>by rw[e],λe=>a3e e⟩
   |inr y=>show some false=_;rw[G6 (λe=>nomatch e)]
  |inr x=>cases b with
   |inl j=>show some false=_;rw[G6 (λe=>nomatch e)]
   |inr y=>show some (x==y)=_;congr 1;rw[WX];exact a0F.mpr ⟨λe=>by rw[e],λe=>a3f e⟩
 have g:∀{v:V},toV (kP k)=some v->inP v (ks.map kP)=some (memD ks k):=λ{v} d=>by
  induction ks with
  |nil=>rfl
  |cons j ks m=>
   rw[F3];unfold inP;rw[m];have:=l j k;rw[d]at this;cases f:toV (kP j)with
   |none=>rw[f]at this;cases this
   |some u=>
    rw[f]at this;dsimp only;rw[show eqV u v=decide (j=k)from L5 this];congr 1;unfold memD;by_cases c:j=k
    .subst c;simp
    .rw[G6 c,Bool.false_or];exact a0F.mpr ⟨λh=>E3 _ h,λh=>(F0.mp h).resolve_left λe=>c e.symm⟩
 obtain⟨v,d⟩:∃v,toV (kP k)=some v:=by cases k<;>exact⟨_,rfl⟩
 have:pIn false (kP k) (.l (ks.map kP))=wJ (((toV (kP k)).bind λv=>inP v (ks.map kP)).map λb=>.b (xor false b)):=by cases k<;>rfl
 rw[this,d,a0V,g d];show Out.ok (PV.b (xor false (memD ks k)))=_;rw[P1]
def eG:∀{b:EA},dom (more.foldl (λd a=>dput d a.1 a.2) b)=(dom more).foldl QT (dom b):=by
 induction more with
 |nil=>intro b;rfl
 |cons a more e=>
  intro b;rw[R7,e];show(dom more).foldl QT (dom (dput b a.1 a.2))=(dom more).foldl QT (QT (dom b) a.1);congr 1;show(dput b a.1 a.2).map (·.1)=_;rw[vC];unfold QT;by_cases c:a.1∈b.map (·.1)
  .rw[if_pos c,if_pos (zZ.mpr c)]
  .rw[if_neg c,if_neg λz=>c (zZ.mp z)]
def laB(R:Cs)(L T S:Row)(t:Fg):Bool:=decide (ga T t<=ga L t)&&(dom (rw' R t)).all λk=>decide (ga T t+ga S k<=gc R t k)&&decide (ga S k<=0)
section
variable {R:Cs}{L:Row}{D:Dl}{T S:Row}(P:Pp R L D T S)
include P
def U1:∃b,qc [.d (cK R),.d (iK L),.d (dtP D),.d (iK T),.d (iK S)]=.ok (.b b)/\(b=true↔Hd R L D T S):=by
 have rl:=P.rl;have ll:=P.ll;have dl:=P.dl;have tl:=P.tl;have sl:=P.sl;have cN:(dom (cK R)).Nodup:=by show((cK R).map (·.1)).Nodup;rw[yH];exact P.rn
 have fl:∀{b:Bool},(b=false)->¬Hd R L D T S->(b=true↔Hd R L D T S):=λe h=>⟨λz=>(by rw[e]at z;cases z),λz=>absurd z h⟩;have sL:=Qx cN (y:=iK L) (by show((iK L).map (·.1)).Nodup;rw[yw];exact P.ln);have sD:=Qx cN (y:=dtP D) (by show((dtP D).map (·.1)).Nodup;rw[Qw];exact P.dn);have sT:=Qx cN (y:=iK T) (by show((iK T).map (·.1)).Nodup;rw[yw];exact P.tn);have dk:dom (cK R)=dom R:=yH;have dk2:∀{r:Row},dom (iK r)=dom r:=yw;have dk3:dom (dtP D)=dom D:=Qw;rw[dk,dk2]at sL sT;rw[dk,dk3]at sD;generalize hA:(decide ((cK R).length=(iK L).length)&&(dom R).all (memD (dom L)))=bA at sL;generalize hB:(decide ((cK R).length=(dtP D).length)&&(dom R).all (memD (dom D)))=bB at sD;generalize hC:(decide ((cK R).length=(iK T).length)&&(dom R).all (memD (dom T)))=bC at sT;have a1:mOr (Jm (zW (zg ym (zb (zc 0) (zb (zc 1) zr))))) (mOr (Jm (zW (zg ym (zb (zc 0) (zb (zc 2) zr))))) (Jm (zW (zg ym (zb (zc 0) (zb (zc 3) zr)))))) [some (.d (cK R)),some (.d (iK L)),some (.d (dtP D)),some (.d (iK T)),some (.d (iK S)),none,none,none,none]=.ok (!bA||(!bB || !bC)):=
  V3 (jT (zP (zy (xs:=[.d (cK R),.d (iK L)]) rfl ((Kk (by rw[Vv];omega)).trans (by rw[dk,dk2,hA]))))) (V3 (jT (zP (zy (xs:=[.d (cK R),.d (dtP D)]) rfl ((Kk (by rw[Vv];omega)).trans (by rw[dk,dk3,hB]))))) (jT (zP (zy (xs:=[.d (cK R),.d (iK T)]) rfl ((Kk (by rw[Vv];omega)).trans (by rw[dk,dk2,hC]))))))
 cases c1:(!bA||(!bB || !bC))with
 |true=>rw[c1]at a1;refine⟨false,z3 (qB ((zY a1).trans rfl)),fl rfl λh=>?_⟩;rw[sL.mpr h.l,sD.mpr h.d,sT.mpr h.t]at c1;cases c1
 |false=>
  rw[c1]at a1;simp only[Bool.or_eq_false_iff,Bool.not_eq_false']at c1;have hl:=sL.mp c1.1;have hd:=sD.mp c1.2.1;have ht:=sT.mp c1.2.2;obtain⟨_,kfl⟩:=dq P;have gl:(gv D).length<=20:=F9 (a14 _ _) dl;rcases Qv (g:=Qg) (b:=Qh) kP (λ(u:Ac) ρ=>(u.1.Nodup/\∀k∈u.1,k∈yd R)/\(u.2.Nodup/\∀k∈u.2,k∈gv D)/\∃(nm:EA)(o7:Fn),dom nm=u.1/\ρ=[some (.d (cK R)),some (.d (iK L)),some (.d (dtP D)),some (.d (iK T)),some (.d (iK S)),some (.d nm),some (.l (u.2.map kP)),o7,none]) (stF R D) (stC R D) (dom R) ([],[]) [some (.d (cK R)),some (.d (iK L)),some (.d (dtP D)),some (.d (iK T)),some (.d (iK S)),some (.d []),some (.l []),none,none] ⟨⟨M9,λk z=>(by cases z)⟩,⟨M9,λk z=>(by cases z)⟩,[],none,rfl,rfl⟩ (λt hm u ρ ⟨⟨n1,n2⟩,⟨n3,n4⟩,nm,o7,hnm,hρ⟩=>by
   subst hρ;refine⟨_,rfl,?_⟩;have l1:=jC n1 n2;have l2:=P.rrl t;have l3:=jC n3 n4;have iq:=iM ((hd t).mp hm);generalize hn:(iK (rw' R t)).foldl (λacc kv=>dput acc kv.1 kv.2) nm=nm';have hn':dom nm'=(dom (rw' R t)).foldl QT u.1:=by rw[<- hn,eG,hnm,dk2]
   have u1:BE 5 (mOp pIx (zc 0) (zc 7)) [some (.d (cK R)),some (.d (iK L)),some (.d (dtP D)),some (.d (iK T)),some (.d (iK S)),some (.d nm),some (.l (u.2.map kP)),some (kP t),none]=.ok (.nx [some (.d (cK R)),some (.d (iK L)),some (.d (dtP D)),some (.d (iK T)),some (.d (iK S)),some (.d nm'),some (.l (u.2.map kP)),some (kP t),none]):=by
    show(Out.bind (mOp pIx (zc 0) (zc 7) _) λy=>match y with | .d more=>if nm.length+more.length<=sizeLine then _ else Out.wall|_=>.wall)=_;rw[zj (z:=.d (iK (rw' R t))) rfl rfl (XE hm),okb];dsimp only;rw[if_pos,hn]
    .rfl
    .refine F9 (show nm.length+(iK (rw' R t)).length<=1000 from ?_) (by decide);have h1:=G8 List.length hnm;rw[u8]at h1;rw[Z5];omega
   have i1:zW (mOp (VN true) (mOp pIx (zc 2) (zc 7)) (mC .n)) [some (.d (cK R)),some (.d (iK L)),some (.d (dtP D)),some (.d (iK T)),some (.d (iK S)),some (.d nm'),some (.l (u.2.map kP)),some (kP t),none]=.ok (dO' D t).isSome:=zP (zj (zj rfl rfl iq) rfl Bb);have nd1:=Vs (ks:=dom (rw' R t)) n1;have nd2:∀k∈(dom (rw' R t)).foldl QT u.1,k∈yd R:=λk hk=>by
    rcases Qu.mp hk with z|z
    .exact n2 k z
    .exact yf.mpr ⟨t,hm,z⟩
   unfold stC stF;cases e:dO' D t with
   |none=>rw[e]at i1;refine .inl ⟨rfl,_,⟨⟨nd1,nd2⟩,⟨by simpa using n3,by simpa using n4⟩,nm',some (kP t),hn',rfl⟩,ze ⟨_,u1,(zY i1).trans ?_⟩⟩;show Out.ok (Fw.nx _)=_;rw[Option.toList,O7]
   |some k=>
    rw[e]at i1 iq;dsimp only;have i2:mOr (zW (mOp (pIn true) (mOp pIx (zc 2) (zc 7)) (mOp pIx (zc 0) (zc 7)))) (zW (mOp (pIn false) (mOp pIx (zc 2) (zc 7)) (zc 6))) [some (.d (cK R)),some (.d (iK L)),some (.d (dtP D)),some (.d (iK T)),some (.d (iK S)),some (.d nm'),some (.l (u.2.map kP)),some (kP t),none]=.ok (!memD (dom (rw' R t)) k||memD u.2 k):=
     V3 (zP (zj (zj rfl rfl iq) (zj rfl rfl (XE hm)) (ip.trans (by
      congr 2;rw[a01,a0z,a0z,<- Bool.not_eq_true,<- Bool.not_eq_true,zZ,qf,yw])))) (zP (zj (zj rfl rfl iq) rfl ur))
    cases c:(memD (dom (rw' R t)) k && !memD u.2 k)with
    |false=>
     have c':(!memD (dom (rw' R t)) k||memD u.2 k)=true:=by rw[a2O]at c;rcases c with z|z<;>simp_all
     rw[c']at i2;exact .inr ⟨rfl,ze ⟨_,u1,(zY i1).trans (qB ((zY i2).trans rfl))⟩⟩
    |true=>
     rw[O8,a0z]at c;rw[c.1,c.2]at i2;have nin:k∉u.2:=λz=>by rw[qf.mpr z]at c;cases c.2
     refine .inl ⟨rfl,_,⟨⟨nd1,nd2⟩,⟨a0h.mpr ⟨n3,I0.mpr ⟨by simp,List.nodup_nil⟩,λa ha b hb e=>nin (by rw[<- List.mem_singleton.mp hb,<- e];exact ha)⟩,λj hj=>?_⟩,nm',some (kP t),hn',rfl⟩,ze ⟨_,u1,(zY i1).trans (ze ⟨_,(zY i2).trans rfl,?_⟩)⟩⟩
     .rcases N3.mp hj with z|z
      .exact n4 j z
      .rw[E8.mp z];exact S7.mpr ⟨_,YG e,rfl⟩
     .show(Out.bind (mOp pIx (zc 2) (zc 7) _) λy=>if(u.2.map kP).length<sizeLine then _ else Out.wall)=_;rw[zj (z:=kP k) rfl rfl iq,okb,if_pos (L8 (show(u.2.map kP).length<=1000 by rw[u8];omega) (by decide))];rw[F8];rfl)with⟨h1,ρ',⟨⟨n1,n2⟩,⟨n3,n4⟩,nm,o7,hnm,rfl⟩,e1⟩|⟨h1,e1⟩
  .obtain⟨hi,hu,_⟩:=iQ.mp h1;rw[uq P.rn]at hu;have hi:∀t k,dO' D t=some k->k∈dom (rw' R t):=λt k e=>hi t ((hd t).mpr (N4 (f:=(·.1)) (YG e))) k e;have hu:∀t u k,dO' D t=some k->dO' D u=some k->t=u:=λt u k a b=>hu t ((hd t).mpr (N4 (f:=(·.1)) (YG a))) u ((hd u).mpr (N4 (f:=(·.1)) (YG b))) k a b;have hF:((dom R).foldl (stF R D) ([],[])).1=yd R:=iP;rw[hF]at hnm;generalize((dom R).foldl (stF R D) ([],[])).2.map kP=hv at e1;have nl:nm.length<=1000:=by have:=G8 List.length hnm;rw[u8]at this;omega
   have sS:=Qx (x:=nm) (y:=iK S) (by rw[hnm];exact v_) (by show((iK S).map (·.1)).Nodup;rw[yw];exact P.sn);rw[hnm,dk2]at sS;generalize hE:(decide (nm.length=(iK S).length)&&(yd R).all (memD (dom S)))=bE at sS;have a2:Jm (zW (zg ym (zb (zc 5) (zb (zc 4) zr)))) [some (.d (cK R)),some (.d (iK L)),some (.d (dtP D)),some (.d (iK T)),some (.d (iK S)),some (.d nm),some (.l hv),o7,none]=.ok (!bE):=
    jT (zP (zy (xs:=[.d nm,.d (iK S)]) rfl ((Kk nl).trans (by rw[hnm,dk2,hE]))))
   cases bE with
   |false=>refine⟨false,z3 (ze ⟨_,(zY a1).trans rfl,ze ⟨_,zG rfl,ze ⟨_,zG rfl,ze ⟨_,qG (yO rfl yH) e1,qB ((zY a2).trans rfl)⟩⟩⟩⟩),fl rfl λh=>?_⟩;have:=sS.mpr h.s;cases this
   |true=>
    have hs:=sS.mp rfl;have key:=Qv (g:=Qk) (b:=Ql) kP (λ(_:Unit) ρ=>∃o7 o8:Option PV,ρ=[some (.d (cK R)),some (.d (iK L)),some (.d (dtP D)),some (.d (iK T)),some (.d (iK S)),some (.d nm),some (.l hv),o7,o8]) (λ_ _=>()) (λ_ t=>laB R L T S t) (dom R) () [some (.d (cK R)),some (.d (iK L)),some (.d (dtP D)),some (.d (iK T)),some (.d (iK S)),some (.d nm),some (.l hv),o7,none] ⟨o7,none,rfl⟩ (λt hm u ρ ⟨o7,o8,hρ⟩=>by
     subst hρ;refine⟨_,rfl,?_⟩;have q1:pIx (.d (iK T)) (kP t)=.ok (.i (ga T t)):=jI ((ht t).mp hm);have e2:zW (mOp pGt (mOp pIx (zc 3) (zc 7)) (mOp pIx (zc 1) (zc 7))) [some (.d (cK R)),some (.d (iK L)),some (.d (dtP D)),some (.d (iK T)),some (.d (iK S)),some (.d nm),some (.l hv),some (kP t),o8]=.ok (decide (ga T t>ga L t)):=zP (zj (zj rfl rfl q1) (zj rfl rfl (jI ((hl t).mp hm))) rfl);have key:=Qv (g:=Qi) (b:=Qj) kP (λ(_:Unit) ρ=>∃o8:Option PV,ρ=[some (.d (cK R)),some (.d (iK L)),some (.d (dtP D)),some (.d (iK T)),some (.d (iK S)),some (.d nm),some (.l hv),some (kP t),o8]) (λ_ _=>()) (λ_ k=>decide (ga T t+ga S k<=gc R t k)&&decide (ga S k<=0)) (dom (rw' R t)) () [some (.d (cK R)),some (.d (iK L)),some (.d (dtP D)),some (.d (iK T)),some (.d (iK S)),some (.d nm),some (.l hv),some (kP t),o8] ⟨o8,rfl⟩ (λk hk u ρ ⟨o8,hρ⟩=>by
      subst hρ;refine⟨_,rfl,?_⟩;have q2:pIx (.d (iK S)) (kP k)=.ok (.i (ga S k)):=jI ((hs k).mp (yf.mpr ⟨t,hm,hk⟩));have e3:mOr (zW (mOp pGt (mOp zJ (mOp pIx (zc 3) (zc 7)) (mOp pIx (zc 4) (zc 8))) (mOp pIx (mOp pIx (zc 0) (zc 7)) (zc 8)))) (zW (mOp pGt (mOp pIx (zc 4) (zc 8)) (mC (.i 0)))) [some (.d (cK R)),some (.d (iK L)),some (.d (dtP D)),some (.d (iK T)),some (.d (iK S)),some (.d nm),some (.l hv),some (kP t),some (kP k)]=.ok (decide (ga T t+ga S k>gc R t k)||decide (ga S k>0)):=
       V3 (zP (zj (zj (zj rfl rfl q1) (zj rfl rfl q2) rfl) (zj (zj rfl rfl (XE hm)) rfl (jI hk)) rfl)) (cX (zj rfl rfl q2))
      by_cases h1:ga T t+ga S k<=gc R t k/\ga S k<=0
      .rw[G6 (by omega),G6 (by omega)]at e3;exact .inl ⟨by rw[L9 h1.1,L9 h1.2];rfl,_,⟨_,rfl⟩,(zY e3).trans rfl⟩
      .have:(decide (ga T t+ga S k>gc R t k)||decide (ga S k>0))=true:=by rw[Bool.or_eq_true,a0P,a0P];omega
       rw[this]at e3;refine .inr ⟨?_,(zY e3).trans rfl⟩;rw[a2O,a2a,a2a];omega)
     rw[XB]at key;unfold laB;by_cases h1:ga T t<=ga L t
     .rw[G6 (by omega)]at e2;rw[L9 h1,a0s];rcases key with⟨k1,ρ',⟨o8,rfl⟩,k2⟩|⟨k1,k2⟩
      .exact .inl ⟨k1,_,⟨_,_,rfl⟩,ze ⟨_,(zY e2).trans rfl,qG (v9 rfl rfl (Z4 hm) yw) k2⟩⟩
      .exact .inr ⟨k1,ze ⟨_,(zY e2).trans rfl,qG (v9 rfl rfl (Z4 hm) yw) k2⟩⟩
     .rw[L9 (by omega)]at e2;exact .inr ⟨by rw[G6 h1];rfl,qB ((zY e2).trans rfl)⟩)
    rw[XB]at key;rcases key with⟨k1,ρ',⟨o7',o8',rfl⟩,k2⟩|⟨k1,k2⟩
    .have k1:∀t∈dom R,ga T t<=ga L t/\∀k∈dom (rw' R t),ga T t+ga S k<=gc R t k/\ga S k<=0:=λt ht=>by have:=O5.mp k1 t ht;unfold laB at this;simpa only[Bool.and_eq_true,decide_eq_true_eq,List.all_eq_true]using this
     have hn:∀k∈dom S,ga S k<=0:=λk hk=>by obtain⟨t,ht,hk'⟩:=yf.mp ((hs k).mpr hk);exact((k1 t ht).2 k hk').2
     refine⟨decide (((dom R).map (vl R L D)).sum=(T.map (·.2)).sum+(S.map (·.2)).sum),z3 (ze ⟨_,(zY a1).trans rfl,ze ⟨_,zG rfl,ze ⟨_,zG rfl,ze ⟨_,qG (yO rfl yH) e1,ze ⟨_,(zY a2).trans rfl,ze ⟨_,qG (yO rfl yH) k2,vq (zj (zy (xs:=[.d (cK R),.d (iK L),.d (dtP D)]) rfl (iR hl hd hi)) (zy (xs:=[.l ((T.map (·.2)++S.map (·.2)).map PV.i)]) (zx (zj (x:=.l ((iK T).map (·.2))) (y:=.l ((iK S).map (·.2))) rfl rfl ?_) rfl) pd) (gj.trans ?_))⟩⟩⟩⟩⟩⟩),?_⟩
     .rw[show(iK T).map (·.2)=(T.map (·.2)).map PV.i from by unfold iK;rw[F4,F4];rfl,show(iK S).map (·.2)=(S.map (·.2)).map PV.i from by unfold iK;rw[F4,F4];rfl,F8];have:((T.map (·.2)).map PV.i).length+((S.map (·.2)).map PV.i).length<=sizeLine:=F9 (show _<=1000 by simp only[List.length_map];omega) (by decide);unfold zJ;simp only[this,if_true]
     .rw[P1,a02]
     .rw[a0P];exact⟨λe=>⟨hl,hd,ht,hs,hi,hu,hn,λt ht=>(k1 t ht).1,λt ht k hk=>((k1 t ht).2 k hk).1,e⟩,λh=>h.e⟩
    .refine⟨false,z3 (ze ⟨_,(zY a1).trans rfl,ze ⟨_,zG rfl,ze ⟨_,zG rfl,ze ⟨_,qG (yO rfl yH) e1,ze ⟨_,(zY a2).trans rfl,qB (qG (yO rfl yH) k2)⟩⟩⟩⟩⟩),fl rfl λh=>?_⟩;rw[O5.mpr λt ht=>?_]at k1
     .cases k1
     .unfold laB;simp only[Bool.and_eq_true,decide_eq_true_eq,List.all_eq_true];exact⟨h.p t ht,λk hk=>⟨h.c t ht k hk,h.n k ((h.s k).mp (yf.mpr ⟨t,ht,hk⟩))⟩⟩
  .refine⟨false,z3 (ze ⟨_,(zY a1).trans rfl,ze ⟨_,zG rfl,ze ⟨_,zG rfl,qB (qG (yO rfl yH) e1)⟩⟩⟩),fl rfl λh=>?_⟩;rw[iQ.mpr ⟨λt _ k e=>h.i t k e,(uq P.rn).mpr λt _ u _ k a b=>h.u t u k a b,λk _ z=>(by cases z)⟩]at h1;cases h1
end
theorem dr{f:Fv}{a:EA}(nd:(a.map (·.1)).Nodup)(h:∀q∈a,f q.2 q.2=true):∀{r:EA},(∀q∈r,q∈a)->alD f a r=true
 |[],_=>rfl
 |q::r,b=>by show((match zK a q.1 with|some y=>f q.2 y|none=>false)&&alD f a r)=true;have c:=b q E9;rw[qC nd (show(q.1,q.2)∈a from c),dr nd h λx d=>b x (E3 _ d),Bool.and_true];exact h q c
def iS(nd:(a.map (·.1)).Nodup)(h:∀q∈a,K0 n q.2 q.2=true):K0 (n+1) (.d a) (.d a)=true:=by show(decide (a.length=a.length)&&alD (K0 n) a a)=true;rw[L9 rfl,a0s];exact dr nd h λq b=>b
def Kl(nd:(dom r).Nodup):K0 (n+2) (.d (iK r)) (.d (iK r))=true:=
 iS (by rw[yw];exact nd) λq a=>by obtain⟨x,_,rfl⟩:=M6.mp a;show(some (eqV (.int x.2) (.int x.2))==some true)=true;simp[eqV]
def Bc:K0 (n+1) (oP o) (oP o)=true:=by
 cases o with
 |none=>rfl
 |some k=>cases k with
  |inl i=>show(some (i==i)==some true)=true;simp
  |inr x=>show(some (x==x)==some true)=true;simp
def uu:lh (K.map λk=>.t [kP k,f k])=some (fK K f):=by
 induction K with
 |nil=>rfl
 |cons k K a=>show((pk (kP k)).bind λq=>(lh (K.map λk=>.t [kP k,f k])).map ((q,f k)::·))=_;rw[Vq,a];rfl
def iT(nd:K.Nodup):y6 [.l (K.map λk=>.t [kP k,f k])]=.ok (.d (fK K f)):=by show wJ ((lh _).map λes=>PV.d (KR es))=_;rw[uu];show Out.ok (PV.d (KR _))=_;unfold KR;rw[c9 (acc:=[]) (by rw[a0Z,Xs];exact nd)];rfl
def uv(nd:(dom R).Nodup):fK (dom R) (λt=>PV.d (iK (rw' R t)))=cK R:=by unfold fK cK;rw[F4];refine S4 λp hp=>?_;show(p.1,PV.d (iK (rw' R p.1)))=_;rw[show rw' R p.1=p.2 from by unfold rw';rw[qC nd (show(p.1,p.2)∈R from hp)];rfl]
abbrev Km(R:Cs)(L:Row)(D:Dl)(T S:Row):PV:=.t [.d (cK R),.d (iK L),.d (dtP D),.d (iK T),.d (iK S)]
def pY(d:a ρ=.ok x)(c:b ρ=.ok x)(h:K0 8 x x=true):mOp (uJ false) a b ρ=.ok (.b true):=zj d c (if_pos h)
section
variable {R:Cs}{L:Row}{D:Dl}{T S:Row}(P:Pp R L D T S)
include P
def Vw(a:due=true↔Hd R L D T S):yz [Km R L D T S,.b due]=.ok (.b true):=by
 obtain⟨b,e,r⟩:=XG P;have d:b=due:=by rw[a01,r,a]
 subst d;have h:K0 8 (.d (cK R)) (.d (cK R))=true:=iS (by rw[yH];exact P.rn) λq c=>by
  obtain⟨x,p,rfl⟩:=M6.mp c;have:rw' R x.1=x.2:=by unfold rw';rw[qC P.rn (show(x.1,x.2)∈R from p)];rfl
  exact Kl (this▸P.rr x.1)
 have l:K0 7 (.d (iK L)) (.d (iK L))=true:=Kl P.ln;have i:K0 7 (.d (iK T)) (.d (iK T))=true:=Kl P.tn;have n:K0 7 (.d (iK S)) (.d (iK S))=true:=Kl P.sn;have g:K0 7 (.d (dtP D)) (.d (dtP D))=true:=iS (by rw[Qw];exact P.dn) λq c=>by obtain⟨x,_,rfl⟩:=M6.mp c;exact Bc
 have m:zg y6 (zb (mLC (yb 2) [none,some 2] Qn Qo Qp) zr) [some (Km R L D T S),some (.b b),some (.d (cK R)),some (.d (iK L)),some (.d (dtP D)),some (.d (iK T)),some (.d (iK S)),none,none,none]=.ok (.d (cK R)):=by
  rw[<- uv P.rn];refine zy (zx (KP (yO (ks:=dom R) rfl (by rw[uv P.rn];exact yH)) (wV kP (λt=>.t [kP t,.d (iK (rw' R t))]) (λf=>∃o,f=[o,some (.d (cK R))]) (dom R) _ ⟨none,by rw[uv P.rn];rfl⟩ (λt s f ⟨o,j⟩=>by
   subst j;exact⟨_,rfl,⟨_,rfl⟩,bj (zx rfl (zx (zy (xs:=[.d (iK (rw' R t))]) (zx (zj rfl rfl (XE s)) rfl) rfl) rfl)) (show 2<=sizeLine by decide)⟩) (by have:=P.rl;rw[u8];omega))) rfl) (iT P.rn)
 refine z3 (ze ⟨_,rfl,ze ⟨_,zG m,ze ⟨_,zG (Xp (xs:=[.d (iK L),.d (dtP D),.d (iK T),.d (iK S)]) rfl (G7 rfl)),ze ⟨_,zG (zy (xs:=[.d (cK R),.d (iK L),.d (dtP D),.d (iK T),.d (iK S)]) rfl e),vq ?_⟩⟩⟩⟩);refine Xq (x:=true) (y:=true) rfl (Xq (x:=true) (y:=true) (zj rfl rfl (CB.trans (by rw[L9 rfl];rfl))) (Xq (x:=true) (y:=true) (pY (x:=.d (cK R)) rfl rfl h) (pY (x:=.l [.d (iK L),.d (dtP D),.d (iK T),.d (iK S)]) rfl (Xp (xs:=[.d (iK L),.d (dtP D),.d (iK T),.d (iK S)]) rfl (G7 rfl)) ?_)));show(K0 7 (.d (iK L)) (.d (iK L))&&(K0 7 (.d (dtP D)) (.d (dtP D))&&(K0 7 (.d (iK T)) (.d (iK T))&&(K0 7 (.d (iK S)) (.d (iK S))&&true))))=true;rw[l,g,i,n];rfl
end
def iU{a:Type}{enc:a->PV}{l:List (Key×a)}:aS (l.map λq=>(q.1,enc q.2)) k=(l.filter λq=>!decide (q.1=k)).map λq=>(q.1,enc q.2):=by unfold aS;rw[List.filter_map];refine G8 (List.map _) (G8 (λp=>List.filter p l) (funext λq=>?_));show decide (q.1≠k) = !decide (q.1=k);exact decide_not
def k7{a:Type}{l:List (Key×a)}{v:a}:(dput l k v).length<=l.length+1:=by
 unfold dput;split
 .rw[u8];omega
 .rw[F7];exact E5 _
def C5(h:a.length+b.length<=100000):zJ (.l a) (.l b)=.ok (.l (a++b)):=by have:a.length+b.length<=sizeLine:=F9 h (by decide);unfold zJ;simp only[this,if_true]
def DI{ks:EG}{i:Int}(a:0<=i)(b:i<ks.length):∃k∈ks,pIx (.l (ks.map kP)) (.i i)=.ok (kP k):=
 ⟨ks[i.toNat]'(by omega),O4 _,by rw[ij a (by rw[u8];exact b),a0m]⟩
abbrev mE{α:Type}(enc:α->PV)(l:List (Key×α)):List (Key×PV):=l.map λq=>(q.1,enc q.2)
def uw(b:ρ[i]?=some (some (.d kvs)))(a:mk ρ=.ok (kP k))(h:(zK kvs k).isSome=true):d4 i mk ρ=.ok (.nx (ρ.set i (some (.d (aS kvs k))))):=by unfold d4;rw[b];dsimp only;rw[a,okb,Vq];dsimp only;rw[if_pos h]
def ZH{a:Type}{enc:a->PV}{l:List (Key×a)}(nd:(dom l).Nodup)(F:l.length<=200)(w:0<=k)(D:k<=900){v:a}:∃d:List (Key×a),zp [.sc ns,.i k,.d (mE enc l),kP s,enc v]=.ok (.d (mE enc d))/\(dom d).Nodup/\d.length<=l.length+1:=by
 have kd:(mE enc l).map (λg=>kP g.1)=(dom l).map kP:=by rw[F4,F4];rfl
 obtain⟨i,y,u,ei⟩:=yr (ns:=ns) (k:=k) (m:=((dom l++[s]).length:Int)) w (by omega) (by rw[F7];exact Int.natCast_pos.mpr (Nat.succ_pos _));obtain⟨j,C,B,p⟩:=yr (ns:=ns) (k:=k+1) (m:=4) (by omega) (by omega) (by decide);obtain⟨t,E,r⟩:=DI y u;have A:mOp zJ (zg yX (zb (zc 2) zr)) (VO (zb (zc 3) zr)) [some (.sc ns),some (.i k),some (.d (mE enc l)),some (kP s),some (enc v),some (.d (mE enc l)),none,none]=.ok (.l ((dom l++[s]).map kP)):=
  zj (zy (xs:=[.d (mE enc l)]) rfl (G8 (λz=>Out.ok (PV.l z)) kd)) (Xp (xs:=[kP s]) rfl (G7 rfl)) ((C5 (by rw[u8,u8];show l.length+1<=_;omega)).trans (by rw[F8];rfl))
 have o:mOp pIx (zc 6) (zg zi (zb (zc 0) (zb (zc 1) (zb (zg ZJ (zb (zc 6) zr)) zr)))) [some (.sc ns),some (.i k),some (.d (mE enc l)),some (kP s),some (enc v),some (.d (mE enc l)),some (.l ((dom l++[s]).map kP)),none]=.ok (kP t):=
  zj rfl (zy (xs:=[.sc ns,.i k,.i (((dom l++[s]).length:Nat):Int)]) (zx rfl (zx rfl (zx (zy (xs:=[.l ((dom l++[s]).map kP)]) rfl (by show Out.ok (PV.i (((dom l++[s]).map kP).length:Int))=_;rw[u8])) rfl))) ei) r
 have c:=Vo (vH (n:=0) (zy (ρ:=[some (.sc ns),some (.i k),some (.d (mE enc l)),some (kP s),some (enc v),some (.d (mE enc l)),some (.l ((dom l++[s]).map kP)),some (kP t)]) (ms:=zb (zc 0) (zb (mOp zJ (zc 1) (mC (.i 1))) (zb (mC (.i 4)) zr))) rfl p)) (zP (m:=mOp (pIn false) (zc 7) (zc 5)) (zj rfl rfl pM));rw[jG (f:=enc),a0O]at c;have e:∀{d:List (Key×a)},sIf (Ui (zW (mOp (j2 false) (zg zi (zb (zc 0) (zb (mOp zJ (zc 1) (mC (.i 1))) (zb (mC (.i 4)) zr)))) (mC (.i 0)))) (zW (mOp (pIn false) (zc 7) (zc 5)))) (d4 5 (zc 7)) (cf 5 (zc 7) (zc 4)) [some (.sc ns),some (.i k),some (.d (mE enc l)),some (kP s),some (enc v),some (.d (mE enc l)),some (.l ((dom l++[s]).map kP)),some (kP t)]=.ok (.nx [some (.sc ns),some (.i k),some (.d (mE enc l)),some (kP s),some (enc v),some (.d (mE enc d)),some (.l ((dom l++[s]).map kP)),some (kP t)])->zp [.sc ns,.i k,.d (mE enc l),kP s,enc v]=.ok (.d (mE enc d)):=λh=>
  z3 (ze ⟨_,zG (x:=.d (mE enc l)) (zy (xs:=[.d (mE enc l)]) rfl rfl),ze ⟨_,zG A,ze ⟨_,zG o,ze ⟨_,h,vq rfl⟩⟩⟩⟩)
 cases b:(decide (j=0)&&(zK l t).isSome)with
 |true=>
  rw[b]at c;rw[O8]at b;refine⟨l.filter λq=>!decide (q.1=t),e ((zY c).trans ?_),?_,?_⟩
  .rw[if_pos rfl];refine(uw (k:=t) (kvs:=mE enc l) rfl rfl (by rw[jG (f:=enc),a0O];exact b.2)).trans ?_;rw[iU];rfl
  .exact(List.Sublist.map _ (List.filter_sublist)).nodup nd
  .have:=a1h (λq:Key×a=>!decide (q.1=t)) l;omega
 |false=>rw[b]at c;refine⟨dput l t v,e ((zY c).trans ?_),zU nd,k7⟩;rw[if_neg F6];refine(Vt (k:=t) (x:=enc v) (kvs:=l.map λq=>(q.1,enc q.2)) rfl rfl rfl (by rw[u8];omega)).trans ?_;rw[ZG (f:=enc)];rfl
def dw(d:0<=k):∃x:Int,yR [.sc ns,.i k]=.ok (.i x):=by
 have l:=zy (f:=ZJ) (ms:=zb (zc 0) zr) (ρ:=[some (.sc ns),some (.i k)]) (xs:=[.sc ns]) (x:=.i (ns.length:Int)) rfl rfl;have c:=vH (n:=0) l;have a:WK (.i 10) (.i 30)=.ok (.i 1000000000000000000000000000000):=by rw[oZ (by decide) (by decide) (by decide)];rfl
 by_cases h:(ns.length:Int)=0
 .rw[L9 h]at c;exact⟨k-3,z3 (qB ((zY c).trans rfl))⟩
 .rw[G6 h]at c;have b:=a1r k h;have g:=a07 k (show(0:Int)<ns.length by omega);have e:pIx (.sc ns) (.i (k % (ns.length:Int)))=.ok (.i (ns[(k % (ns.length:Int)).toNat]'(by omega))):=by show wJ ((atI ns _).map PV.i)=_;rw[cm b,E1 (by omega)];rfl
  exact⟨_,z3 (ze ⟨_,(zY c).trans rfl,vq (zj (zj (zj rfl (zj rfl l (Uo (by omega))) e) (zj rfl (zj rfl rfl a) (Jq (by decide) (by decide))) (Uo (by decide))) (zj rfl rfl a) rfl)⟩)⟩
structure Pz(m:Nat)(R:Cs)(L:Row)(D:Dl)(T S:Row):Prop where
 rn:(dom R).Nodup
 rr:∀t,(dom (rw' R t)).Nodup
 ln:(dom L).Nodup
 dn:(dom D).Nodup
 tn:(dom T).Nodup
 sn:(dom S).Nodup
 rl:R.length<=7
 rrl:∀t,(rw' R t).length<=5+m
 ll:L.length<=5+m
 dl:D.length<=5+m
 tl:T.length<=5+m
 sl:S.length<=30+m
def Pz.pp(z:Pz m R L D T S)(a:m<=15):Pp R L D T S:=
 ⟨z.rn,z.rr,z.ln,z.dn,z.tn,z.sn,by have:=z.rl;omega,λt=>by have:=z.rrl t;omega,by have:=z.ll;omega,by have:=z.dl;omega,by have:=z.tl;omega,by have:=z.sl;omega⟩
def Pz.mono(z:Pz m R L D T S)(h:m<=n):Pz n R L D T S:=
 ⟨z.rn,z.rr,z.ln,z.dn,z.tn,z.sn,z.rl,λt=>by have:=z.rrl t;omega,by have:=z.ll;omega,by have:=z.dl;omega,by have:=z.tl;omega,by have:=z.sl;omega⟩
def U2(h:ρ[i]?=some (some (.d kvs))):zW (mOp (j2 true) (zc i) kI) ρ=.ok (!kvs.isEmpty):=by
 refine zP (zj (x:=.d kvs) (by unfold zc;rw[h]) rfl ?_);cases kvs with
 |nil=>rfl
 |cons q r=>rfl
def Vx(o:ρ[0]?=some (some (.sc ns)))(r:ρ[1]?=some (some (.i k)))(g:ρ[i]?=some (some (.d kvs)))(a:kvs≠[])(d:0<=k+c)(b:k+c<=1000):
  ∃t∈dom kvs,mOp pIx (zg yX (zb (zc i) zr)) (zg zi (zb (zc 0) (zb (mOp zJ (zc 1) (mC (.i c))) (zb (zg ZJ (zb (zc i) zr)) zr)))) ρ=.ok (kP t):=by
 have h:zc 0 ρ=.ok (.sc ns):=by unfold zc;rw[o]
 have e:zc 1 ρ=.ok (.i k):=by unfold zc;rw[r]
 have ei:zc i ρ=.ok (.d kvs):=by unfold zc;rw[g]
 obtain⟨j,l,q,f⟩:=yr (ns:=ns) (k:=k+c) (m:=(kvs.length:Int)) d b (Int.natCast_pos.mpr (List.length_pos_iff.mpr a));obtain⟨t,p,n⟩:=DI (ks:=dom kvs) l (by rw[u8];exact q);exact⟨t,p,zj (zy (zx ei rfl) (show yX [.d kvs]=.ok (.l ((dom kvs).map kP))from G8 (λz=>Out.ok (PV.l z)) (by rw[F4];rfl))) (zy (zx h (zx (zj e rfl rfl) (zx (zy (zx ei rfl) rfl) rfl))) f) n⟩
section
variable {ns:EW}{k y st:Int}{pv:PV}{sg od:Fg}{m:Nat}{R:Cs}{L:Row}{D:Dl}{T S:Row}{o12 o13 o14:Fn}
abbrev spS(ns:EW)(k y st:Int)(pv:PV)(sg od:Fg)(R:Cs)(L:Row)(D:Dl)(T S:Row)(o12 o13 o14:Fn):Sto:=[some (.sc ns),some (.i k),some pv,some (.d (cK R)),some (.d (iK L)),some (.d (dtP D)),some (.d (iK T)),some (.d (iK S)),some (.i y),some (.i st),some (kP sg),some (kP od),o12,o13,o14]
def ux(s:MS)(ns:EW)(k y st:Int)(pv:PV)(sg od:Fg)(m:Nat)(ρ:Sto):Prop:=∃(R:Cs)(L:Row)(D:Dl)(T S:Row)(o12 o13 o14:Fn),Pz m R L D T S/\s ρ=.ok (.nx (spS ns k y st pv sg od R L D T S o12 o13 o14))
variable (z:Pz m R L D T S) (hm:m<=14) (k0:0<=k) (k1:k<=800)
include z hm k0 k1
def Eg:ux (sIf (zW (mOp (j2 false) (zc 8) (mC (.i 0)))) (yj (yW 12 (mOp zJ (VO (zb (mC .n) (zb (zc 11) zr))) (zg yX (zb (zc 7) zr)))) (yW 5 (zg zp (zb (zc 0) (zb (mOp zJ (zc 1) (mC (.i 2))) (zb (zc 5) (zb (zc 10) (zb (mOp pIx (zc 12) (zg zi (zb (zc 0) (zb (mOp zJ (zc 1) (mC (.i 4))) (zb (zg ZJ (zb (zc 12) zr)) zr))))) zr)))))))) yI) ns k y st pv sg od (m+1) (spS ns k y st pv sg od R L D T S o12 o13 o14):=by
 have c:=vH (a:=zc 8) (ρ:=spS ns k y st pv sg od R L D T S o12 o13 o14) (x:=y) (n:=0) rfl;by_cases f:y=0
 .rw[L9 f]at c;have r:=z.sl;have t:=z.dl;have d:mOp zJ (VO (zb (mC .n) (zb (zc 11) zr))) (zg yX (zb (zc 7) zr)) (spS ns k y st pv sg od R L D T S o12 o13 o14)=.ok (.l (([none,some od]++(dom S).map some).map oP)):=by refine zj (Xp (xs:=[.n,kP od]) rfl (G7 rfl)) (zy (xs:=[.d (iK S)]) (x:=.l ((dom S).map kP)) rfl (G8 (λz=>Out.ok (PV.l z)) (by unfold iK;rw[F4,F4];rfl))) ((C5 (by rw[u8,u8];show 2+_<=_;omega)).trans ?_);simp only[List.map_append,List.map_map];rfl
  generalize hks:[none,some od]++(dom S).map some=ks at d;have g:0<ks.length/\ks.length<=100:=by rw[<- hks,F7,u8,u8];show 0<2+_/\2+_<=_;omega
  obtain⟨j,i,p,h⟩:=yr (ns:=ns) (k:=k+4) (m:=(ks.length:Int)) (by omega) (by omega) (by omega);have b:pIx (.l (ks.map oP)) (.i j)=.ok (oP (ks[j.toNat]'(by omega))):=by rw[ij i (by rw[u8];exact p),a0m]
  generalize ks[j.toNat]'(by omega)=o at b;obtain⟨q,e,nd,len⟩:=ZH (ns:=ns) (enc:=oP) (l:=D) z.dn (by omega) (k:=k+2) (by omega) (by omega) (s:=sg) (v:=o);refine⟨R,L,q,T,S,some (.l (ks.map oP)),o13,o14,⟨z.rn,z.rr,z.ln,nd,z.tn,z.sn,z.rl,(z.mono (G4 m)).rrl,(z.mono (G4 m)).ll,by omega,(z.mono (G4 m)).tl,(z.mono (G4 m)).sl⟩,(zY c).trans (ze ⟨_,zG d,zG (zy (xs:=[.sc ns,.i (k+2),.d (dtP D),kP sg,oP o]) (zx rfl (zx rfl (zx rfl (zx rfl (zx (zj rfl (zy (xs:=[.sc ns,.i (k+4),.i (ks.length:Int)]) (zx rfl (zx rfl (zx (zy (xs:=[.l (ks.map oP)]) rfl (by show Out.ok (PV.i ((ks.map oP).length:Int))=_;rw[u8])) rfl))) h) b) rfl))))) e)⟩)⟩
 .rw[G6 f]at c;exact⟨R,L,D,T,S,o12,o13,o14,z.mono (G4 m),(zY c).trans rfl⟩
def Eh:ux (sIf (Ui (zW (mOp (j2 false) (zc 8) (mC (.i 1)))) (zW (mOp (j2 true) (zc 6) kI))) (yj (yW 13 (mOp pIx (zg yX (zb (zc 6) zr)) (zg zi (zb (zc 0) (zb (mOp zJ (zc 1) (mC (.i 2))) (zb (zg ZJ (zb (zc 6) zr)) zr)))))) (yW 6 (zg zp (zb (zc 0) (zb (mOp zJ (zc 1) (mC (.i 3))) (zb (zc 6) (zb (zc 13) (zb (mOp zJ (mOp pIx (zc 6) (zc 13)) (zc 9)) zr)))))))) yI) ns k y st pv sg od (m+1) (spS ns k y st pv sg od R L D T S o12 o13 o14):=by
 have c:=Vo (vH (a:=zc 8) (ρ:=spS ns k y st pv sg od R L D T S o12 o13 o14) (x:=y) (n:=1) rfl) (U2 (i:=6) rfl);cases b:(decide (y=1) && !(iK T).isEmpty)with
 |false=>exact⟨R,L,D,T,S,o12,o13,o14,z.mono (G4 m),(zY (c.trans (by rw[b]))).trans rfl⟩
 |true=>
  rw[b]at c;have d:iK T≠[]:=λh=>by rw[h]at b;simp at b
  have o:=z.tl;obtain⟨t,f,g⟩:=Vx (ns:=ns) (i:=6) (c:=2) (k:=k) (ρ:=spS ns k y st pv sg od R L D T S o12 o13 o14) rfl rfl rfl d (by omega) (by omega);have f:t∈dom T:=by have h:t∈(iK T).map (·.1):=f;rwa [yw]at h
  obtain⟨j,e,nd,len⟩:=ZH (ns:=ns) (enc:=PV.i) (l:=T) z.tn (by omega) (k:=k+3) (by omega) (by omega) (s:=t) (v:=ga T t+st);exact⟨R,L,D,j,S,o12,some (kP t),o14,⟨z.rn,z.rr,z.ln,z.dn,nd,z.sn,z.rl,(z.mono (G4 m)).rrl,(z.mono (G4 m)).ll,(z.mono (G4 m)).dl,by omega,(z.mono (G4 m)).sl⟩,(zY c).trans (ze ⟨_,zG g,zG (zy (xs:=[.sc ns,.i (k+3),.d (iK T),kP t,.i (ga T t+st)]) (zx rfl (zx rfl (zx rfl (zx rfl (zx (zj (zj rfl rfl (jI f)) rfl rfl) rfl))))) e)⟩)⟩
def Ei:ux (sIf (Ui (zW (mOp (j2 false) (zc 8) (mC (.i 2)))) (zW (mOp (j2 true) (zc 7) kI))) (yj (yW 14 (mOp pIx (zg yX (zb (zc 7) zr)) (zg zi (zb (zc 0) (zb (mOp zJ (zc 1) (mC (.i 2))) (zb (zg ZJ (zb (zc 7) zr)) zr)))))) (yW 7 (zg zp (zb (zc 0) (zb (mOp zJ (zc 1) (mC (.i 3))) (zb (zc 7) (zb (zc 14) (zb (mOp zJ (mOp pIx (zc 7) (zc 14)) (zc 9)) zr)))))))) yI) ns k y st pv sg od (m+1) (spS ns k y st pv sg od R L D T S o12 o13 o14):=by
 have c:=Vo (vH (a:=zc 8) (ρ:=spS ns k y st pv sg od R L D T S o12 o13 o14) (x:=y) (n:=2) rfl) (U2 (i:=7) rfl);cases b:(decide (y=2) && !(iK S).isEmpty)with
 |false=>exact⟨R,L,D,T,S,o12,o13,o14,z.mono (G4 m),(zY (c.trans (by rw[b]))).trans rfl⟩
 |true=>
  rw[b]at c;have d:iK S≠[]:=λh=>by rw[h]at b;simp at b
  have o:=z.sl;obtain⟨t,f,j⟩:=Vx (ns:=ns) (i:=7) (c:=2) (k:=k) (ρ:=spS ns k y st pv sg od R L D T S o12 o13 o14) rfl rfl rfl d (by omega) (by omega);have f:t∈dom S:=by have h:t∈(iK S).map (·.1):=f;rwa [yw]at h
  obtain⟨g,e,nd,len⟩:=ZH (ns:=ns) (enc:=PV.i) (l:=S) z.sn (by omega) (k:=k+3) (by omega) (by omega) (s:=t) (v:=ga S t+st);exact⟨R,L,D,T,g,o12,o13,some (kP t),⟨z.rn,z.rr,z.ln,z.dn,z.tn,nd,z.rl,(z.mono (G4 m)).rrl,(z.mono (G4 m)).ll,(z.mono (G4 m)).dl,(z.mono (G4 m)).tl,by omega⟩,(zY c).trans (ze ⟨_,zG j,zG (zy (xs:=[.sc ns,.i (k+3),.d (iK S),kP t,.i (ga S t+st)]) (zx rfl (zx rfl (zx rfl (zx rfl (zx (zj (zj rfl rfl (jI f)) rfl rfl) rfl))))) e)⟩)⟩
def Ej:ux (sIf (zW (mOp (j2 false) (zc 8) (mC (.i 3)))) (yW 4 (zg zp (zb (zc 0) (zb (mOp zJ (zc 1) (mC (.i 2))) (zb (zc 4) (zb (zc 10) (zb (zg yR (zb (zc 0) (zb (zc 1) zr))) zr))))))) yI) ns k y st pv sg od (m+1) (spS ns k y st pv sg od R L D T S o12 o13 o14):=by
 have c:=vH (a:=zc 8) (ρ:=spS ns k y st pv sg od R L D T S o12 o13 o14) (x:=y) (n:=3) rfl;by_cases b:y=3
 .rw[L9 b]at c;have g:=z.ll;obtain⟨x,f⟩:=dw (ns:=ns) k0;obtain⟨d,e,nd,len⟩:=ZH (ns:=ns) (enc:=PV.i) (l:=L) z.ln (by omega) (k:=k+2) (by omega) (by omega) (s:=sg) (v:=x);exact⟨R,d,D,T,S,o12,o13,o14,⟨z.rn,z.rr,nd,z.dn,z.tn,z.sn,z.rl,(z.mono (G4 m)).rrl,by omega,(z.mono (G4 m)).dl,(z.mono (G4 m)).tl,(z.mono (G4 m)).sl⟩,(zY c).trans (zG (zy (xs:=[.sc ns,.i (k+2),.d (iK L),kP sg,.i x]) (zx rfl (zx rfl (zx rfl (zx rfl (zx (zy (xs:=[.sc ns,.i k]) rfl f) rfl))))) e))⟩
 .rw[G6 b]at c;exact⟨R,L,D,T,S,o12,o13,o14,z.mono (G4 m),(zY c).trans rfl⟩
def Ek:ux (sIf (zW (mOp (j2 false) (zc 8) (mC (.i 5)))) (yW 7 (zg zp (zb (zc 0) (zb (mOp zJ (zc 1) (mC (.i 2))) (zb (zc 7) (zb (zc 11) (zb (mC (.i 0)) zr))))))) yI) ns k y st pv sg od (m+1) (spS ns k y st pv sg od R L D T S o12 o13 o14):=by
 have c:=vH (a:=zc 8) (ρ:=spS ns k y st pv sg od R L D T S o12 o13 o14) (x:=y) (n:=5) rfl;by_cases b:y=5
 .rw[L9 b]at c;have f:=z.sl;obtain⟨d,e,nd,len⟩:=ZH (ns:=ns) (enc:=PV.i) (l:=S) z.sn (by omega) (k:=k+2) (by omega) (by omega) (s:=od) (v:=0);exact⟨R,L,D,T,d,o12,o13,o14,⟨z.rn,z.rr,z.ln,z.dn,z.tn,nd,z.rl,(z.mono (G4 m)).rrl,(z.mono (G4 m)).ll,(z.mono (G4 m)).dl,(z.mono (G4 m)).tl,by omega⟩,(zY c).trans (zG (zy (xs:=[.sc ns,.i (k+2),.d (iK S),kP od,.i 0]) (zx rfl (zx rfl (zx rfl (zx rfl (zx rfl rfl))))) e))⟩
 .rw[G6 b]at c;exact⟨R,L,D,T,S,o12,o13,o14,z.mono (G4 m),(zY c).trans rfl⟩
end
def vJ:rw' (dput R t r) u=if t=u then r else rw' R u:=by unfold rw';rw[jv];split<;>rfl
section
variable {ns:EW}{k y st:Int}{pv:PV}{sg od:Fg}{m:Nat}{R:Cs}{L:Row}{D:Dl}{T S:Row}{o12 o13 o14:Fn}
variable (z:Pz m R L D T S) (hm:m<=14) (k0:0<=k) (k1:k<=800)
include z hm k0 k1
def El:ux (sIf (Ui (zW (mOp (j2 false) (zc 8) (mC (.i 4)))) (zW (mOp (j2 true) (zc 3) kI))) (yj (yW 13 (mOp pIx (zg yX (zb (zc 3) zr)) (zg zi (zb (zc 0) (zb (mOp zJ (zc 1) (mC (.i 2))) (zb (zg ZJ (zb (zc 3) zr)) zr)))))) (yj (yW 3 (zg y6 (zb (zc 3) zr))) (cf 3 (zc 13) (zg zp (zb (zc 0) (zb (mOp zJ (zc 1) (mC (.i 3))) (zb (mOp pIx (zc 3) (zc 13)) (zb (zc 11) (zb (zg yR (zb (zc 0) (zb (zc 1) zr))) zr))))))))) yI) ns k y st pv sg od (m+1) (spS ns k y st pv sg od R L D T S o12 o13 o14):=by
 have c:=Vo (vH (a:=zc 8) (ρ:=spS ns k y st pv sg od R L D T S o12 o13 o14) (x:=y) (n:=4) rfl) (U2 (i:=3) rfl);have w:=z.rl;cases b:(decide (y=4) && !(cK R).isEmpty)with
 |false=>exact⟨R,L,D,T,S,o12,o13,o14,z.mono (G4 m),(zY (c.trans (by rw[b]))).trans rfl⟩
 |true=>
  rw[b]at c;have j:cK R≠[]:=λh=>by rw[h]at b;simp at b
  obtain⟨t,g,r⟩:=Vx (ns:=ns) (i:=3) (c:=2) (k:=k) (ρ:=spS ns k y st pv sg od R L D T S o12 o13 o14) rfl rfl rfl j (by omega) (by omega);have g:t∈dom R:=by have h:t∈(cK R).map (·.1):=g;rwa [yH]at h
  have rt:=z.rrl t;obtain⟨x,p⟩:=dw (ns:=ns) k0;obtain⟨d,e,nd,len⟩:=ZH (ns:=ns) (enc:=PV.i) (l:=rw' R t) (z.rr t) (by omega) (k:=k+3) (by omega) (by omega) (s:=od) (v:=x);have o:(dput R t d).length=R.length:=by
   have h:(dput R t d).map (·.1)=R.map (·.1):=by rw[vC,if_pos (zZ.mpr g)]
   rw[<- u8 (f:=λq:Key×Row=>q.1),h,u8]
  refine⟨dput R t d,L,D,T,S,o12,some (kP t),o14,⟨zU z.rn,λu=>?_,z.ln,z.dn,z.tn,z.sn,by omega,λu=>?_,(z.mono (G4 m)).ll,(z.mono (G4 m)).dl,(z.mono (G4 m)).tl,(z.mono (G4 m)).sl⟩,(zY c).trans (ze ⟨_,zG r,ze ⟨_,zG (zy (xs:=[.d (cK R)]) rfl rfl),(Vt (k:=t) (x:=.d (iK d)) (kvs:=cK R) (zy (xs:=[.sc ns,.i (k+3),.d (iK (rw' R t)),kP od,.i x]) (zx rfl (zx rfl (zx (zj rfl rfl (XE g)) (zx rfl (zx (zy (xs:=[.sc ns,.i k]) rfl p) rfl))))) e) rfl rfl (by rw[Vv];omega)).trans (by rw[A4];rfl)⟩⟩)⟩
  .rw[vJ];split
   .exact nd
   .exact z.rr u
  .rw[vJ];split
   .omega
   .have:=z.rrl u;omega
def Em:ux (sIf (Ui (zW (mOp pGt (zc 8) (mC (.i 5)))) (Ui (zW (mOp (j2 true) (zc 7) kI)) (zW (mOp (j2 true) (zc 6) kI)))) (yj (yW 7 (zg y6 (zb (zc 7) zr))) (yj (yW 6 (zg y6 (zb (zc 6) zr))) (yj (yW 14 (mOp pIx (zg yX (zb (zc 7) zr)) (zg zi (zb (zc 0) (zb (mOp zJ (zc 1) (mC (.i 2))) (zb (zg ZJ (zb (zc 7) zr)) zr)))))) (yj (yW 13 (mOp pIx (zg yX (zb (zc 6) zr)) (zg zi (zb (zc 0) (zb (mOp zJ (zc 1) (mC (.i 3))) (zb (zg ZJ (zb (zc 6) zr)) zr)))))) (yj (cf 7 (zc 14) (mOp zJ (mOp pIx (zc 7) (zc 14)) (zc 9))) (cf 6 (zc 13) (mOp dY (mOp pIx (zc 6) (zc 13)) (zc 9)))))))) yI) ns k y st pv sg od (m+1) (spS ns k y st pv sg od R L D T S o12 o13 o14):=by
 have c:=Vo (cX (a:=zc 8) (ρ:=spS ns k y st pv sg od R L D T S o12 o13 o14) (x:=y) (n:=5) rfl) (Vo (U2 (i:=7) rfl) (U2 (i:=6) rfl));have l:=z.sl;have p:=z.tl;cases b:(decide (y>5)&&(!(iK S).isEmpty && !(iK T).isEmpty))with
 |false=>exact⟨R,L,D,T,S,o12,o13,o14,z.mono (G4 m),(zY (c.trans (by rw[b]))).trans rfl⟩
 |true=>
  rw[b]at c;have d:iK S≠[]:=λh=>by rw[h]at b;simp at b
  have e:iK T≠[]:=λh=>by rw[h]at b;simp at b
  obtain⟨s,d,f⟩:=Vx (ns:=ns) (i:=7) (c:=2) (k:=k) (ρ:=spS ns k y st pv sg od R L D T S o12 o13 o14) rfl rfl rfl d (by omega) (by omega);obtain⟨t,e,g⟩:=Vx (ns:=ns) (i:=6) (c:=3) (k:=k) (ρ:=spS ns k y st pv sg od R L D T S o12 o13 (some (kP s))) rfl rfl rfl e (by omega) (by omega);have d:s∈dom S:=by have h:s∈(iK S).map (·.1):=d;rwa [yw]at h
  have e:t∈dom T:=by have h:t∈(iK T).map (·.1):=e;rwa [yw]at h
  have o:(dput S s (ga S s+st)).length<=S.length+1:=k7;have j:(dput T t (ga T t-st)).length<=T.length+1:=k7;refine⟨R,L,D,dput T t (ga T t-st),dput S s (ga S s+st),o12,some (kP t),some (kP s),⟨z.rn,z.rr,z.ln,z.dn,zU z.tn,zU z.sn,z.rl,(z.mono (G4 m)).rrl,(z.mono (G4 m)).ll,(z.mono (G4 m)).dl,by omega,by omega⟩,(zY c).trans (ze ⟨_,zG (zy (xs:=[.d (iK S)]) rfl rfl),ze ⟨_,zG (zy (xs:=[.d (iK T)]) rfl rfl),ze ⟨_,zG f,ze ⟨_,zG g,ze ⟨_,(Vt (k:=s) (x:=.i (ga S s+st)) (kvs:=iK S) (zj (zj rfl rfl (jI d)) rfl rfl) rfl rfl (by rw[Z5];omega)).trans (by rw[JA]),(Vt (k:=t) (x:=.i (ga T t-st)) (kvs:=iK T) (zj (zj rfl rfl (jI e)) rfl rfl) rfl rfl (by rw[Z5];omega)).trans (by rw[JA];rfl)⟩⟩⟩⟩⟩)⟩
end
def iV(p:Dr ns f g u v)(z:Pz m R L D T S)(J:m<=8)(a:0<=k)(d:k<=800):∃b n l i c,Pz (m+7) b n l i c/\qM [.sc ns,.i k,Km R L D T S]=.ok (Km b n l i c):=by
 obtain⟨y,I,H,t⟩:=yr (ns:=ns) (k:=k) (m:=9) a (by omega) (by decide);obtain⟨j,w,q,B⟩:=yr (ns:=ns) (k:=k+1) (m:=3) (by omega) (by omega) (by decide);obtain⟨st,_,o⟩:=AL (xs:=[1,-1,3]) w q
 suffices h:∃b n l i c,Pz (m+7) b n l i c/\Zm [some (.sc ns),some (.i k),some (Km R L D T S),none,none,none,none,none,none,none,none,none,none,none,none]=.ok (.rt (Km b n l i c))from
  let⟨b,n,l,i,c,z,e⟩:=h
  ⟨b,n,l,i,c,z,z3 e⟩
 obtain⟨R,L,D,T,S,_,_,_,z,G⟩:=Eg (ns:=ns) (k:=k) (y:=y) (st:=st) (pv:=Km R L D T S) (sg:=f 9) (od:=g 9) (o12:=none) (o13:=none) (o14:=none) z (by omega) a d;obtain⟨R,L,D,T,S,_,_,_,z,E⟩:=Eh (ns:=ns) (k:=k) (y:=y) (st:=st) (pv:=_) (sg:=f 9) (od:=g 9) (o12:=_) (o13:=_) (o14:=_) z (by omega) a d;obtain⟨R,L,D,T,S,_,_,_,z,r⟩:=Ei (ns:=ns) (k:=k) (y:=y) (st:=st) (pv:=_) (sg:=f 9) (od:=g 9) (o12:=_) (o13:=_) (o14:=_) z (by omega) a d;obtain⟨R,L,D,T,S,_,_,_,z,A⟩:=Ej (ns:=ns) (k:=k) (y:=y) (st:=st) (pv:=_) (sg:=f 9) (od:=g 9) (o12:=_) (o13:=_) (o14:=_) z (by omega) a d;obtain⟨R,L,D,T,S,_,_,_,z,F⟩:=El (ns:=ns) (k:=k) (y:=y) (st:=st) (pv:=_) (sg:=f 9) (od:=g 9) (o12:=_) (o13:=_) (o14:=_) z (by omega) a d;obtain⟨R,L,D,T,S,_,_,_,z,C⟩:=Ek (ns:=ns) (k:=k) (y:=y) (st:=st) (pv:=_) (sg:=f 9) (od:=g 9) (o12:=_) (o13:=_) (o14:=_) z (by omega) a d;obtain⟨R,L,D,T,S,_,_,_,z,s⟩:=Em (ns:=ns) (k:=k) (y:=y) (st:=st) (pv:=_) (sg:=f 9) (od:=g 9) (o12:=_) (o13:=_) (o14:=_) z (by omega) a d;refine⟨R,L,D,T,S,z,ze ⟨_,rfl,ze ⟨_,zG (zy (xs:=[.sc ns,.i k,.i 9]) rfl t),ze ⟨_,zG (x:=.i st) (zj (x:=.l ([1,-1,3].map .i)) (Xp (xs:=[.i 1,.i (-1),.i 3]) rfl (G7 rfl)) (zy (xs:=[.sc ns,.i (k+1),.i 3]) rfl B) o),ze ⟨_,zG (nT p rfl rfl (show 9<35 by decide)),ze ⟨_,zG (ug p rfl rfl (show 9<35 by decide)),ze ⟨_,G,ze ⟨_,E,ze ⟨_,r,ze ⟨_,A,ze ⟨_,F,ze ⟨_,C,ze ⟨_,s,vq (bj (xs:=[.d (cK R),.d (iK L),.d (dtP D),.d (iK T),.d (iK S)]) rfl (G7 rfl))⟩⟩⟩⟩⟩⟩⟩⟩⟩⟩⟩⟩⟩
def Bd(h:ρ[i]?=some (some (.l xs)))(b:m ρ=.ok y)(a:xs.length<sizeLine):uH i m ρ=.ok (.nx (ρ.set i (some (.l (xs++[y]))))):=by unfold uH;rw[h];dsimp only;rw[b,okb,if_pos a]
def Be{k:Fg}{had:List (Option Key)}:∃b,pIn true (kP k) (.l (had.map oP))=.ok (.b b):=by
 obtain⟨v,c⟩:∃v,toV (kP k)=some v:=by cases k<;>exact⟨_,rfl⟩
 have e:pIn true (kP k) (.l (had.map oP))=wJ (((toV (kP k)).bind λv=>inP v (had.map oP)).map λb=>.b (xor true b)):=by cases k<;>rfl
 have h:∀had:List (Option Key),∃b,inP v (had.map oP)=some b:=by
  intro had
  induction had with
  |nil=>exact⟨_,rfl⟩
  |cons o had f=>
   obtain⟨b,a⟩:=f;obtain⟨u,d⟩:∃u,toV (oP o)=some u:=by cases o with|none=>exact⟨_,rfl⟩|some j=>cases j<;>exact⟨_,rfl⟩
   refine⟨eqV u v||b,?_⟩;rw[F3];unfold inP;rw[d,a]
 obtain⟨b,a⟩:=h had;exact⟨xor true b,by rw[e,c,a0V,a];rfl⟩
def nZ(A:(dom R).Nodup)(O:R.length<=40)(l:∀t,(rw' R t).length<=80):∃D:Dl,dom D=dom R/\qD [.sc ns,.d (cK R)]=.ok (.d (dtP D)):=by
 obtain⟨x,_,_,K⟩:=yr (ns:=ns) (k:=89) (m:=3) (by decide) (by decide) (by decide);obtain⟨f,⟨D,a,w,u,s,r,_,c⟩,e⟩:=mN (g:=Qe) (b:=Qf) (λn f=>∃(D:Dl)(a:List (Option Key)) (w u s:Fn),dom D=(dom R).take n/\a.length=n/\f=[some (.sc ns),some (.d (cK R)),some (.d (dtP D)),some (.l (a.map oP)),w,u,s]) R.length [some (.sc ns),some (.d (cK R)),some (.d []),some (.l []),none,none,none] ⟨[],[],none,none,none,rfl,rfl,rfl⟩ (λk J f ⟨D,a,w,u,s,r,hn,c⟩=>by
  subst c;have d:k<(dom R).length:=by rw[u8];exact J
  refine⟨_,rfl,?_⟩;generalize ht:(dom R)[k]=t;have tm:t∈dom R:=ht▸O4 d;have F:t∉dom D:=by rw[r,<- ht];intro h;obtain⟨i,M,ei⟩:=List.getElem_of_mem h;rw[a0l]at M;rw[a1b]at ei;exact List.pairwise_iff_getElem.mp A i k (by omega) d (by omega) ei
  obtain⟨v,I⟩:=Classical.axiomOfChoice λq:Key=>Be (k:=q) (had:=a);have y:mOp zJ (VO (zb (mC .n) zr)) (mLC (qm 1 5) [none,some 3,some 0] ZX ZY ZZ) [some (.sc ns),some (.d (cK R)),some (.d (dtP D)),some (.l (a.map oP)),some (.i (k:Int)),some (kP t),s]=.ok (.l (([none]++((dom (rw' R t)).filter λq=>v q||decide (x=0)).map some).map oP)):=by
   refine zj (Xp (xs:=[.n]) rfl (G7 rfl)) (KP (v9 (ks:=dom (rw' R t)) (k:=t) rfl rfl (Z4 tm) yw) (Q2 kP (λq=>v q||decide (x=0)) kP (λf=>∃o,f=[o,some (.l (a.map oP)),some (.sc ns)]) (dom (rw' R t)) _ [] ⟨none,rfl⟩ (λq _ f ⟨o,E⟩=>by
    subst E;exact⟨_,rfl,⟨_,rfl⟩,V3 (zP (zj rfl rfl (I q))) (vH (zy (xs:=[.sc ns,.i 89,.i 3]) rfl K)),λ_=>rfl⟩) (by have:=l t;rw[u8];show 0+_<=_;omega))) ?_
   refine(C5 (by have:=l t;have:=a1h (λq=>v q||decide (x=0)) (dom (rw' R t));rw[u8]at this;show 1+(List.map kP _).length<=_;rw[u8];omega)).trans ?_;rw[F8,F4];rfl
  generalize hks:[none]++((dom (rw' R t)).filter λq=>v q||decide (x=0)).map some=ks at y;have C:0<ks.length:=by rw[<- hks];exact Nat.succ_pos _
  obtain⟨j,G,B,H⟩:=yr (ns:=ns) (k:=90+(k:Int)) (m:=(ks.length:Int)) (by omega) (by omega) (by omega);have p:pIx (.l (ks.map oP)) (.i j)=.ok (oP (ks[j.toNat]'(by omega))):=by rw[ij G (by rw[u8];exact B),a0m]
  generalize ks[j.toNat]'(by omega)=o at p;have L:mOp pIx (zg yX (zb (zc 1) zr)) (zc 4) [some (.sc ns),some (.d (cK R)),some (.d (dtP D)),some (.l (a.map oP)),some (.i (k:Int)),u,s]=.ok (kP t):=
   zj (zy (xs:=[.d (cK R)]) (x:=.l ((dom R).map kP)) rfl (G8 (λz=>Out.ok (PV.l z)) (by unfold cK;rw[F4,F4];rfl))) rfl ((ij (by omega) (by rw[u8];omega)).trans (by rw[a0m];subst ht;rfl))
  have N:D.length<=40:=by have:=G8 List.length r;rw[u8,a0l]at this;omega
  refine⟨_,⟨dput D t o,a++[dO' (dput D t o) t],some (.i (k:Int)),some (kP t),some (.l (ks.map oP)),?_,by rw[F7,hn];rfl,rfl⟩,.inl (ze ⟨_,zG L,ze ⟨_,zG y,ze ⟨_,(Vt (k:=t) (x:=oP o) (kvs:=dtP D) (zj rfl (zy (xs:=[.sc ns,.i (90+(k:Int)),.i (ks.length:Int)]) (zx rfl (zx (zj rfl rfl rfl) (zx (zy (xs:=[.l (ks.map oP)]) rfl (by show Out.ok (PV.i ((ks.map oP).length:Int))=_;rw[u8])) rfl))) H) p) rfl rfl (by rw[XF];omega)).trans (by rw[Xw]),(Bd (xs:=a.map oP) rfl (zj rfl rfl (iM (show t∈dom (dput D t o)from by rw[show dom (dput D t o)=_ from vC];split<;>rename_i h;exact zZ.mp h;exact M4 _ E9))) (L8 (show _<=40 by rw[u8];omega) (by decide))).trans (by rw[F8];rfl)⟩⟩⟩)⟩;rw[jA F];show(D++[(t,o)]).map (·.1)=_;rw[F8,show D.map (·.1)=_ from r,a0x,E1 d,ht];rfl)
 subst c;exact⟨D,by rw[r,O6 (by rw[u8];exact E5 _)],z3 (ze ⟨_,zG rfl,ze ⟨_,zG (Xp (xs:=[]) rfl (P4 _)),ze ⟨_,qG (Us (n:=R.length) (zx (zy (xs:=[.d (cK R)]) rfl (by show Out.ok (PV.i ((cK R).length:Int))=_;rw[Vv])) rfl) (by omega)) e,vq rfl⟩⟩⟩)⟩
def U3{a:Type}{v:Key->a}:dom (fK K v)=K:=Xs
def n5(h:k∈K):ga (fK K v) k=v k:=by show(zK (fK K v) k).getD 0=_;rw[Vr h];rfl
def pZ{K:EG}{v:Fi}:((fK K v).map (·.2)).sum=(K.map v).sum:=by unfold fK;rw[F4];rfl
def Bf:iK (fK K v)=fK K λt=>.i (v t):=by unfold iK fK;rw[F4];rfl
def dy(h:dO' D t=some k):zK D t=some (some k):=by
 cases e:zK D t with
 |none=>rw[show dO' D t=_ from G8 Option.join e]at h;cases h
 |some o=>rw[show dO' D t=_ from G8 Option.join e]at h;exact G8 some h
def bt{R:Cs}{L:Row}{f g:Fi}{dt:Dl}{ow:EU}(C:COk R L)(b:Fe (pb R L) f g ow)(a:De (pb R L) f g (dom R) dt ow):Hd R L dt (fK (dom R) f) (fK (yd R) g)where
 l k:=by rw[show dom L=dom R from C.keys]
 d k:=by rw[show dom dt=dom R from a.keys]
 t k:=by rw[U3]
 s k:=by rw[U3]
 i t k h:=(a.a t k (dy h)).1
 u t u k h1 h2:=L5 ((a.a t k (dy h1)).2.2.symm.trans (a.a u k (dy h2)).2.2)
 n k h:=by rw[U3]at h;rw[n5 h];exact b.np k
 p t h:=by rw[n5 h];exact b.le t h
 c t h k hk:=by rw[n5 h,n5 (yf.mpr ⟨t,h,hk⟩)];exact b.pr t h k hk
 e:=by
  rw[pZ,pZ,<- iG C b a];refine G8 List.sum (S4 λt _=>?_);unfold vl vlF;show(match dO' dt t with|none=>ga L t|some k=>gc R t k)=match dO' dt t with|none=>ga L t|some k=>gc R t k
  rfl
def jr{b:Type}{A:List (Key×b)}{v:b}(h:a∉dom A):dom (dput A a v)=dom A++[a]:=by rw[jA h];exact F8
def Vy:ga (dput T a v) t=if a=t then v else ga T t:=by show(zK _ t).getD 0=_;rw[jv];split<;>rfl
def JB:dO' (dput D a o) t=if a=t then o else dO' D t:=by show(zK _ t).join=_;rw[jv];split<;>rfl
def Hd.n6(h:Hd R L D (dput T a v) S)(b:a∉dom R):False:=
 b ((h.t a).mpr (zZ.mp (by rw[jv,if_pos rfl];rfl)))
def Hd.ext{R:Cs}{L:Row}{D:Dl}{T S S':Row}{a κ:Fg}{c l p:Int}{o:Fs}(h:Hd R L D T S)(g:a∉dom R)(y:∀k,k∈dom S'↔k∈dom S\/k=κ)(B:∀k∈dom S,ga S' k=ga S k)(C:ga S' κ<=0)(E:p+ga S' κ<=c)(G:p<=l)(q:(S'.map (·.2)).sum=(S.map (·.2)).sum)(v:o=none/\p=l\/o=some κ/\p=c/\∀t,dO' D t≠some κ):Hd (dput R a [(κ,c)]) (dput L a l) (dput D a o) (dput T a p) S':=by
 have I:a∉dom L:=λm=>g ((h.l a).mpr m);have F:a∉dom D:=λm=>g ((h.d a).mpr m);have w:a∉dom T:=λm=>g ((h.t a).mpr m);have d:∀{A:EG}{k:Fg},k∈A++[a]↔k∈A\/k=a:=by intro A k;simp
 have i:∀{t:Fg},t∈dom R->¬a=t:=λb e=>g (e▸b);have one:dom [(κ,c)]=[κ]:=rfl;refine⟨λk=>?_,λk=>?_,λk=>?_,λk=>?_,λt k=>?_,λt u k=>?_,λk f=>?_,λt b=>?_,λt b k f=>?_,?_⟩
 .rw[jr g,jr I,d,d,h.l]
 .rw[jr g,jr F,d,d,h.d]
 .rw[jr g,jr w,d,d,h.t]
 .rw[yf,y,<- h.s,yf];show(∃t∈dom (dput R a [(κ,c)]),_)↔_;rw[jr g];constructor
  .rintro ⟨t,b,f⟩
   rw[vJ]at f;rcases d.mp b with b|rfl
   .rw[if_neg (i b)]at f;exact .inl ⟨t,b,f⟩
   .rw[if_pos rfl]at f;exact .inr (E8.mp f)
  .rintro (⟨t,b,f⟩|rfl)
   .exact⟨t,d.mpr (.inl b),by rw[vJ,if_neg (i b)];exact f⟩
   .exact⟨a,d.mpr (.inr rfl),by rw[vJ,if_pos rfl];exact E8.mpr rfl⟩
 .rw[JB,vJ];split
  .intro e;rcases v with⟨rfl,_⟩|⟨rfl,_⟩
   .cases e
   .cases e;exact E8.mpr rfl
  .exact h.i t k
 .rw[JB,JB];have no:o=some k->∀x,¬dO' D x=some k:=λe x H=>by
   rcases v with⟨rfl,_⟩|⟨rfl,_,z⟩
   .cases e
   .cases e;exact z x H
  by_cases n:a=t<;>by_cases j:a=u
  .exact λ_ _=>n.symm.trans j
  .rw[if_pos n,if_neg j];exact λr s=>absurd s (no r u)
  .rw[if_neg n,if_pos j];exact λr s=>absurd r (no s t)
  .rw[if_neg n,if_neg j];exact h.u t u k
 .rcases(y k).mp f with m|rfl
  .rw[B k m];exact h.n k m
  .exact C
 .rw[Vy,Vy];rw[jr g]at b;rcases d.mp b with b|rfl
  .rw[if_neg (i b),if_neg (i b)];exact h.p t b
  .rw[if_pos rfl,if_pos rfl];exact G
 .show ga (dput T a p) t+_<=ga (rw' (dput R a [(κ,c)]) t) k;rw[vJ]at f ⊢;rw[Vy];rw[jr g]at b;rcases d.mp b with b|rfl
  .rw[if_neg (i b)]at f ⊢;rw[if_neg (i b),B k ((h.s k).mp (yf.mpr ⟨t,b,f⟩))];exact h.c t b k f
  .rw[if_pos rfl]at f ⊢;rw[if_pos rfl];cases E8.mp f;rw[show ga [(κ,c)] κ=c from by show(zK [(κ,c)] κ).getD 0=_;rw[yq,if_pos rfl];rfl];exact E
 .rw[jr g,jA w,F8,F8,a02,a02,q];have n:(dom R).map (vl (dput R a [(κ,c)]) (dput L a l) (dput D a o))=(dom R).map (vl R L D):=S4 λt b=>by
   unfold vl gc;rw[JB,vJ,if_neg (i b),if_neg (i b)];cases dO' D t with
   |none=>show ga _ _=_;rw[Vy,if_neg (i b)]
   |some k=>rfl
  have j:vl (dput R a [(κ,c)]) (dput L a l) (dput D a o) a=p:=by
   unfold vl gc;rw[JB,vJ,if_pos rfl,if_pos rfl];rcases v with⟨rfl,rfl⟩|⟨rfl,rfl,_⟩
   .show ga _ _=_;rw[Vy,if_pos rfl]
   .show ga [(κ,p)] κ=p;show(zK [(κ,p)] κ).getD 0=_;rw[yq,if_pos rfl];rfl
  rw[n,h.e];show _+([vl _ _ _ a].sum)=_+[p].sum+_;rw[j];omega
def XH(c:g x ρ=some a)(d:b a G=.nx ρ2 G2):Wg g b (x::xs) ρ G=Wg g b xs ρ2 G2:=by show(match g x ρ with|none=>_|some a=>_)=_;rw[c];dsimp only;rw[d]
abbrev shG(X:Cell)(A:List (Key×HV))(L:Row)(D:Dl)(T S:Row)(C:AH):AH:=X :: .d A :: .d (vK (iK L)) :: .d (vK (dtP D)) :: .d (vK (iK T)) :: .d (vK (iK S))::C
def iW{ns:EW}{f g:Fq}{u v:Int}(Dd:Dr ns f g u v){k:Nat}(hk:k<2){c x:Int}(ec:zi [.sc ns,.i (150+(k:Int)),.i 9]=.ok (.i c))(x0:0<=x)(x1:x<3)(ex:zi [.sc ns,.i 152,.i 3]=.ok (.i x)){X:Cell}{A:List (Key×HV)}{L:Row}{D:Dl}{T S:Row}{C:AH}{pp:HV}{κ:Fg}{o9 o10:Option HV}(lA:A.length<=100)(lL:L.length<=100)(lD:D.length<=100)(lT:T.length<=100):
  Zl [some (.v (.sc ns)),some pp,some (.g 1),some (.g 2),some (.g 3),some (.g 4),some (.g 5),some (.v (kP κ)),some (.v (.i (k:Int))),o9,o10] (shG X A L D T S C)=.nx [some (.v (.sc ns)),some pp,some (.g 1),some (.g 2),some (.g 3),some (.g 4),some (.g 5),some (.v (kP κ)),some (.v (.i (k:Int))),some (.v (kP (f (10+k)))),some (.v (.i c))] (shG X (dput A (f (10+k)) (.g (C.length+6))) (dput L (f (10+k)) (c+x*(1-(k:Int)))) (dput D (f (10+k)) (some κ)) (dput T (f (10+k)) c) S (C++[.d (vK (iK [(κ,c)]))])):=by
 refine zv (yF (bo rfl (nT Dd (n:=10+k) rfl (zj rfl rfl (G8 (λz=>Out.ok (PV.i z)) (show 10+(k:Int)=((10+k:Nat):Int) by omega))) (by omega)))) ?_;refine zv (yF (bo rfl (zy (xs:=[.sc ns,.i (150+(k:Int)),.i 9]) rfl ec))) ?_;refine zv (di (q:=f (10+k)) (kvs:=A) (y:=.g (C.length+6)) (k:=1) (lq (x:=.d (iK [(κ,c)])) rfl (show pD1 (kP κ) (.i c)=_ by unfold pD1;rw[Vq];rfl) rfl) rfl rfl rfl (by omega)) ?_;refine zv (kA (q:=f (10+k)) (kvs:=iK L) (y:=.i (c+x*(1-(k:Int)))) (k:=2) (bo rfl (zj rfl (zj (zy (xs:=[.sc ns,.i 152,.i 3]) rfl ex) (zj rfl rfl rfl) (Jq (by omega) (by omega))) rfl)) rfl rfl rfl (L8 (show _<=100 by rw[Z5];exact lL) (by decide))) ?_;refine zv (kA (q:=f (10+k)) (kvs:=dtP D) (y:=kP κ) (k:=3) rfl rfl rfl rfl (L8 (show _<=100 by rw[XF];exact lD) (by decide))) ?_;refine(kA (q:=f (10+k)) (kvs:=iK T) (y:=.i c) (k:=4) rfl rfl rfl rfl (L8 (show _<=100 by rw[Z5];exact lT) (by decide))).trans ?_;rw[JA,JA,show kP κ=oP (some κ)from rfl,Xw];rfl
theorem dz{κ:Type}{F:HV->Option PV}{r:List (κ×HV)}{b:List (κ×PV)}(h:Q6 F r=some b)(hF:∀x,F (.v x)=some x):∀{a:List (κ×PV)},Q6 F (vK a++r)=some (a++b)
 |[]=>h
 | (k,x)::a=>by show((F (.v x)).bind λy=>(Q6 F (vK a++r)).map ((k,y)::·))=_;rw[hF,dz h hF];rfl
def Bg:dom (vK a)=dom a:=by show(vK a).map (·.1)=_;unfold vK;rw[F4];rfl
section
variable {X:Cell}{R:Cs}{L:Row}{D:Dl}{T S:Row}{a b κ:Fg}{c0 c1:Int}(ha:a∉dom R) (hb:b∉dom R) (ab:a≠b)
include ha hb ab
def put2{d:Type}{A:List (Key×d)}{x y:d}(c:dom A=dom R):dput (dput A a x) b y=A++[(a,x),(b,y)]:=by
 rw[jA (show a∉dom A from c▸ha),jA,T3];rfl;intro h;rw[F8]at h;rcases N3.mp h with h|h
 .exact hb (c▸h)
 .exact ab (E8.mp h).symm
def Bh:kG (shG X (dput (dput (vK (cK R)) a (.g 6)) b (.g 7)) L D T S [.d (vK (iK [(κ,c0)])),.d (vK (iK [(κ,c1)]))]) 8 (.t [.g 1,.g 2,.g 3,.g 4,.g 5])=some (Km (dput (dput R a [(κ,c0)]) b [(κ,c1)]) L D T S):=by
 rw[put2 ha hb ab (Bg.trans yH),put2 ha hb ab rfl];generalize hG:shG X (vK (cK R)++[(a,.g 6),(b,.g 7)]) L D T S [.d (vK (iK [(κ,c0)])),.d (vK (iK [(κ,c1)]))]=G;have d:kG G 6 (.g 6)=some (.d (iK [(κ,c0)])):=Jg (by subst hG;rfl);have g:kG G 6 (.g 7)=some (.d (iK [(κ,c1)])):=Jg (by subst hG;rfl);have j:kG G 7 (.g 1)=some (.d (cK (R++[(a,[(κ,c0)]),(b,[(κ,c1)])]))):=by
  have e:Q6 (kG G 6) (vK (cK R)++[(a,.g 6),(b,.g 7)])=some (cK R++[(a,.d (iK [(κ,c0)])),(b,.d (iK [(κ,c1)]))]):=dz (by
   show((kG G 6 (.g 6)).bind λy=>(((kG G 6 (.g 7)).bind λz=>some [(b,z)])).map ((a,y)::·))=_;rw[d,g];rfl) λx=>rfl
  unfold kG;rw[show G[1]?=some (.d (vK (cK R)++[(a,.g 6),(b,.g 7)])) by subst hG;rfl];show(Q6 (kG G 6) _).map PV.d=_;rw[e];exact G8 (λz=>some (PV.d z)) (by unfold cK;rw[F8];rfl)
 have f:kG G 7 (.g 2)=some (.d (iK L)):=Jg (by subst hG;rfl);have i:kG G 7 (.g 3)=some (.d (dtP D)):=Jg (by subst hG;rfl);have c:kG G 7 (.g 4)=some (.d (iK T)):=Jg (by subst hG;rfl);have h:kG G 7 (.g 5)=some (.d (iK S)):=Jg (by subst hG;rfl);show(cF (kG G 7) [.g 1,.g 2,.g 3,.g 4,.g 5]).map PV.t=_;simp only[cF,j,f,i,c,h,Option.bind_some,Option.map_some]
end
def iX(e:Dr ns f g u v)(z:Pz 0 R L D T S):∃a b x:Int,0<=x/\v8 [.v (.sc ns),.v (Km R L D T S)] [X]=.ok (.t [.g 1,.g 2,.g 3,.g 4,.g 5]) (shG X (dput (dput (vK (cK R)) (f 10) (.g 6)) (f 11) (.g 7)) (dput (dput L (f 10) (a+x)) (f 11) b) (dput (dput D (f 10) (some (g 10))) (f 11) (some (g 10))) (dput (dput T (f 10) a) (f 11) b) (dput S (g 10) 0) [.d (vK (iK [(g 10,a)])),.d (vK (iK [(g 10,b)]))]):=by
 obtain⟨a,_,_,B⟩:=yr (ns:=ns) (k:=150) (m:=9) (by decide) (by decide) (by decide);obtain⟨b,_,_,w⟩:=yr (ns:=ns) (k:=151) (m:=9) (by decide) (by decide) (by decide);obtain⟨x,i,s,r⟩:=yr (ns:=ns) (k:=152) (m:=3) (by decide) (by decide) (by decide);have K:=z.rl;have J:=z.ll;have G:=z.dl;have H:=z.tl;have F:=z.sl;have p {α:Type}{l:List (Key×α)}{k:Fg}{v:α}:(dput l k v).length<=l.length+1:=k7;have I:(vK (cK R)).length=R.length:=by unfold vK;rw[u8,Vv]
 have o:=iW e (k:=0) (by decide) B i s r (X:=X) (A:=vK (cK R)) (L:=L) (D:=D) (T:=T) (S:=S) (C:=[]) (pp:=.v (Km R L D T S)) (κ:=g 10) (o9:=none) (o10:=none) (by omega) (by omega) (by omega) (by omega);have j:=iW e (k:=1) (by decide) w i s r (X:=X) (A:=dput (vK (cK R)) (f 10) (.g 6)) (L:=dput L (f 10) (a+x*(1-((0:Nat):Int)))) (D:=dput D (f 10) (some (g 10))) (T:=dput T (f 10) a) (S:=S) (C:=[.d (vK (iK [(g 10,a)]))]) (pp:=.v (Km R L D T S)) (κ:=g 10) (o9:=some (.v (kP (f 10)))) (o10:=some (.v (.i a))) (F9 p (by omega)) (F9 p (by omega)) (F9 p (by omega)) (F9 p (by omega));have t:a+x*(1-((0:Nat):Int))=a+x:=by rw[show(1:Int)-((0:Nat):Int)=1 from rfl,Int.mul_one]
 have E:b+x*(1-((1:Nat):Int))=b:=by rw[show(1:Int)-((1:Nat):Int)=0 from rfl,Int.mul_zero,Int.add_zero]
 rw[t]at o j;rw[E]at j;refine⟨a,b,x,i,?_⟩;have h:jZ [some (.v (.sc ns)),some (.v (Km R L D T S)),none,none,none,none,none,none,none,none,none] [X]=_:=zv (show _=HFw.nx [some (.v (.sc ns)),some (.v (Km R L D T S)),some (.g 1),some (.g 2),some (.g 3),some (.g 4),some (.g 5),none,none,none,none] (shG X (vK (cK R)) L D T S [])from rfl) (zv (yF (bo rfl (ug e (n:=10) rfl rfl (by decide)))) (zv (Kj rfl (Us (n:=2) rfl (by decide)) ((XH rfl o).trans ((XH rfl j).trans rfl))) (zv (kA (q:=g 10) (kvs:=iK S) (y:=.i 0) (k:=5) rfl rfl rfl rfl (L8 (show _<=100 by rw[Z5];omega) (by decide))) (ig (Xz (xs:=[.g 1,.g 2,.g 3,.g 4,.g 5]) rfl (G7 rfl))))));show(match jZ [some (.v (.sc ns)),some (.v (Km R L D T S)),none,none,none,none,none,none,none,none,none] [X]with | .nx _ d=>HX.ok (HV.v .n) d | .rt x d=>.ok x d | .exc c fs d=>.exc c fs d|_=>.wall)=_;rw[h,JA];rfl
def n8:pIx (.l (xs++[x])) (.i (-1))=.ok x:=by rw[xZ,lJ];rfl
def iY(a:vok ks ρ=true)(c:XQ G bs ρ=some r)(b:m r=.ok x):hWm ks bs m ρ G=.ok (.v x) G:=by unfold hWm hW;rw[if_pos a,c];dsimp only;rw[b]
def C6(a:XQ G bs ρ=some r)(b:m r=.ok x):hW bs m ρ G=.ok (.v x) G:=by unfold hW;rw[a];dsimp only;rw[b]
def Hd.no(h:¬P):false=true↔P:=⟨λe=>(by cases e),λp=>absurd p h⟩
def Hd.yes(h:P):true=true↔P:=⟨λ_=>h,λ_=>rfl⟩
def dA(P:Pp R L D T S)(f:Q5 bs ρ=some r)(d:r[6]?=some (some (Km R L D T S))):hPT bs (Jm (zW (zg yz (zb (zc 6) (zb (zg qc (zb (mOp pIx (zc 6) (mC (.i 0))) (zb (mOp pIx (zc 6) (mC (.i 1))) (zb (mOp pIx (zc 6) (mC (.i 2))) (zb (mOp pIx (zc 6) (mC (.i 3))) (zb (mOp pIx (zc 6) (mC (.i 4))) zr)))))) zr))))) ρ G=.ok false G:=by
 obtain⟨b,e,c⟩:=U1 P;have a:zc 6 r=.ok (Km R L D T S):=by unfold zc;rw[d]
 exact Qr f (jT (x:=true) (zP (zy (zx a (zx (zy (xs:=[.d (cK R),.d (iK L),.d (dtP D),.d (iK T),.d (iK S)]) (zx (zj a rfl rfl) (zx (zj a rfl rfl) (zx (zj a rfl rfl) (zx (zj a rfl rfl) (zx (zj a rfl rfl) rfl))))) e) rfl)) (Vw P c))))
def iZ{f g:Fq}{u v:Int}(j:Dr ns f g u v){k m:Nat}(n:k<2)(l:m<=8)(z:Pz m R L D T S){G:AH}{o1 o2 o3 o4 o5 o7 o8:Option HV}:∃a b h c d,Pz (m+7) a b h c d/\cV [some (.v (.sc ns)),o1,o2,o3,o4,o5,some (.v (Km R L D T S)),o7,o8,some (.v (.i (k:Int)))] G=.nx [some (.v (.sc ns)),o1,o2,o3,o4,o5,some (.v (Km a b h c d)),o7,o8,some (.v (.i (k:Int)))] G:=by obtain⟨a,b,h,c,d,i,e⟩:=iV j z l (k:=110+20*(k:Int)) (by omega) (by omega);refine⟨a,b,h,c,d,i,zv (yF (iY rfl rfl (zy (xs:=[.sc ns,.i (110+20*(k:Int)),Km R L D T S]) (zx rfl (zx (zj rfl (zj rfl rfl (Jq (by decide) (by decide))) rfl) (zx rfl rfl))) e))) ((eD (dA (i.pp (by omega)) rfl rfl)).trans rfl)⟩
def i4(h:m ρ G=.ok x G')(b:g x ρ=some a):An g m ρ G=.nx a G':=by unfold An;rw[h];show(match g x ρ with|some a=>HFw.nx a G'|none=>.wall)=_;rw[b]
section
variable {R:Cs}{L:Row}{D D':Dl}{T S:Row}{a b κ:Fg}{c0 c1 l0 l1 t0 t1 x:Int}
def p8(z:Pz 0 R L D T S)(nd:(dom D').Nodup)(c:D'.length<=20):Pp (dput (dput R a [(κ,c0)]) b [(κ,c1)]) (dput (dput L a l0) b l1) D' (dput (dput T a t0) b t1) (dput S κ 0):=by
 have p {α:Type}{l:List (Key×α)}{k:Fg}{v:α}:(dput l k v).length<=l.length+1:=k7;have g:=z.rl;have d:=z.ll;have f:=z.tl;have e:=z.sl;have two {α:Type}{l:List (Key×α)}{v w:α}(h:l.length<=18):(dput (dput l a v) b w).length<=20:=F9 p (F9 (Nat.succ_le_succ p) (by omega));refine⟨zU (zU z.rn),λt=>?_,zU (zU z.ln),nd,zU (zU z.tn),zU z.sn,two (by omega),λt=>?_,two (by omega),c,two (by omega),F9 p (by omega)⟩
 .rw[vJ,vJ];split
  .exact I0.mpr ⟨S8,M9⟩
  .split
   .exact I0.mpr ⟨S8,M9⟩
   .exact z.rr t
 .rw[vJ,vJ];split
  .exact G7 rfl
  .split
   .exact G7 rfl
   .have:=z.rrl t;omega
variable (H:Hd R L D T S) (ha:a∉dom R) (hb:b∉dom R) (ab:a≠b) (hk:κ∉dom S) (x0:0<=x)
include H ha hb ab hk x0
def Bi:Hd (dput (dput R a [(κ,c0)]) b [(κ,c1)]) (dput (dput L a (c0+x)) b c1) (dput (dput D a (some κ)) b none) (dput (dput T a c0) b c1) (dput S κ 0):=by
 have g:ga (dput S κ 0) κ=0:=by rw[Vy,if_pos rfl]
 have d:∀k,k∈dom (dput S κ 0)↔k∈dom S\/k=κ:=λk=>by rw[jr hk];simp
 have f:=H.ext (S':=dput S κ 0) (κ:=κ) (c:=c0) (l:=c0+x) (p:=c0) (o:=some κ) ha d (λk h=>by rw[Vy,if_neg λe:κ=k=>hk (e▸h)]) (by omega) (by omega) (by omega) (by rw[jA hk,F8,a02];exact Int.add_zero _) (.inr ⟨rfl,rfl,λt e=>hk ((H.s _).mp (yf.mpr ⟨t,(H.d t).mpr (zZ.mp (by rw[dy e];rfl)),H.i t _ e⟩))⟩);refine f.ext (κ:=κ) (c:=c1) (l:=c1) (p:=c1) (o:=none) (by rw[jr ha];exact λh=>(N3.mp h).elim hb λh=>ab (E8.mp h).symm) (λk=>⟨.inl,λh=>h.elim id λe=>e▸(d κ).mpr (.inr rfl)⟩) (λ_ _=>rfl) (by omega) (by omega) (a1w _) rfl (.inl ⟨rfl,rfl⟩)
end
def n_(ns:EW)(_:ns.length<=k):∃G,pL [.v (.sc ns)] []=.ok (.v (.b true)) G:=by
 obtain⟨f,g,u,v,Dd⟩:=CZ ns;obtain⟨n,R,L,hn,I,ec⟩:=br Dd;have C:=I.ok Dd.tf hn;obtain⟨fp,gp,D,ow,ed,fe,de⟩:=uc C;have H:=bt C fe de;have lR:R.length<=5:=by have:=G8 List.length I.rk;rw[u8,u8,O0]at this;omega
 have lL:L.length=R.length:=by have:=G8 List.length C.keys;rwa [u8,u8]at this
 have lD:D.length=R.length:=by have:=G8 List.length de.keys;rwa [u8,u8]at this
 have ks:(yd R).length<=5:=by
  have h:∀k∈yd R,k∈(List.range 5).map g:=λk hk=>by obtain⟨t,ht,hk⟩:=yf.mp hk;obtain⟨q,hq,eq⟩:=M6.mp hk;obtain⟨i,hi,e⟩:=((I.row t).2 q hq).2;exact M6.mpr ⟨i,a0k.mpr hi,(e.symm.trans eq)⟩
  exact F9 (jC v_ h) (a1P (by rw[u8,O0]))
 have z:Pz 0 R L D (fK (dom R) fp) (fK (yd R) gp):=⟨C.nd,C.rnd,(by show(L.map (·.1)).Nodup;rw[C.keys];exact C.nd),(by show(D.map (·.1)).Nodup;rw[de.keys];exact C.nd),(by rw[U3];exact C.nd),(by rw[U3];exact v_),by omega,λt=>(I.row t).len,by omega,by omega,(by rw[Wr,u8];omega),(by rw[Wr];omega)⟩;generalize hT:fK (dom R) fp=T at H z;generalize hS:fK (yd R) gp=S at H z;have ed:vOf Vi [.d (cK R),.d (iK L)]=.ok (.t [.d (dtP D),.d (iK T),.d (iK S)]):=by rw[ed,<- hT,<- hS,Bf,Bf]
 have fresh:∀j,5<=j->j<35->f j∉dom R:=λj h1 h2 hm=>by rw[show dom R=_ from I.rk]at hm;obtain⟨i,hi,e⟩:=M6.mp hm;have:=a0k.mp hi;exact absurd (Dd.tf.inj (by omega) h2 e) (by omega)
 have kfresh:g 10∉dom S:=λhm=>by obtain⟨t,ht,hk⟩:=yf.mp ((H.s _).mpr hm);obtain⟨q,hq,eq⟩:=M6.mp hk;obtain⟨i,hi,e⟩:=((I.row t).2 q hq).2;exact absurd (Dd.tg.inj (by decide) (by omega) (eq.symm.trans e)) (by omega)
 have ha:=fresh 10 (by decide) (by decide);have hb:=fresh 11 (by decide) (by decide);have ab:f 10≠f 11:=λe=>absurd (Dd.tf.inj (by decide) (by decide) e) (by decide);obtain⟨c0,c1,x,x0,es⟩:=iX Dd (X:=.d (vK (dput (iK T) (f 9) (.i 0)))) z;have P:=z.pp (by decide);have tl:=z.tl;have rl:=z.rl;have dl:=z.dl;have P7:Pp R L D (dput T (f 9) 0) S:=⟨P.rn,P.rr,P.ln,P.dn,zU P.tn,P.sn,P.rl,P.rrl,P.ll,P.dl,F9 k7 (by omega),P.sl⟩;have q7:=Vw P7 (due:=false) (Hd.no λh=>h.n6 (fresh 9 (by decide) (by decide)));have two {o p:Fs}:(dput (dput D (f 10) o) (f 11) p).length<=20:=F9 k7 (F9 (Nat.succ_le_succ k7) (by omega));have q9:=Vw (p8 (a:=f 10) (b:=f 11) (κ:=g 10) (c0:=c0) (c1:=c1) (l0:=c0+x) (l1:=c1) (t0:=c0) (t1:=c1) (D':=dput (dput D (f 10) (some (g 10))) (f 11) (some (g 10))) z (zU (zU z.dn)) two) (due:=false) (Hd.no λh=>ab (h.u (f 10) (f 11) (g 10) (by rw[JB,if_neg (Ne.symm ab),JB,if_pos rfl]) (by rw[JB,if_pos rfl])));have q11:=Vw (p8 (a:=f 10) (b:=f 11) (κ:=g 10) (c0:=c0) (c1:=c1) (l0:=c0+x) (l1:=c1) (t0:=c0) (t1:=c1) (D':=dput (dput D (f 10) (some (g 10))) (f 11) none) z (zU (zU z.dn)) two) (due:=true) (Hd.yes (Bi H ha hb ab kfresh x0));have dd:dput (dput (dput D (f 10) (some (g 10))) (f 11) (some (g 10))) (f 11) none=dput (dput D (f 10) (some (g 10))) (f 11) none:=by
  have n:f 11∉dom (dput D (f 10) (some (g 10))):=by rw[jr λm=>ha ((H.d _).mpr m)];exact λh=>(N3.mp h).elim (λh=>hb ((H.d _).mpr h)) λh=>ab (E8.mp h).symm
  rw[jA n,iH n,jA n]
 have ifn:∀{c:HMT}{ρ:kJ}{G:AH},c ρ G=.ok false G->hIf c (cJ (hP [] (mC (.b false)))) Y1 ρ G=.nx ρ G:=λh=>(eD h).trans rfl;have G0:∀D',kG (shG (.d (vK (dput (iK T) (f 9) (.i 0)))) (dput (dput (vK (cK R)) (f 10) (.g 6)) (f 11) (.g 7)) (dput (dput L (f 10) (c0+x)) (f 11) c1) D' (dput (dput T (f 10) c0) (f 11) c1) (dput S (g 10) 0) [.d (vK (iK [(g 10,c0)])),.d (vK (iK [(g 10,c1)]))]) 8 (.t [.g 1,.g 2,.g 3,.g 4,.g 5])=_:=λD'=>Bh ha hb ab;have run:∃G,cW [some (.v (.sc ns)),none,none,none,none,none,none,none,none,none] []=.rt (.v (.b true)) G:=by
  obtain⟨Dn,eDn,en⟩:=nZ (ns:=ns) (R:=R) z.rn (by omega) λt=>by have:=z.rrl t;omega
  obtain⟨y,_,_,ey⟩:=yr (ns:=ns) (k:=100) (m:=3) (by decide) (by decide) (by decide);obtain⟨D6,z6,e12⟩:∃D6,Pz 0 R L D6 T S/\∀{G:AH}{o7 o8:Option HV},hIf (hPT [true] (zW (mOp (j2 false) (zg zi (zb (zc 0) (zb (mC (.i 100)) (zb (mC (.i 3)) zr)))) (mC (.i 0))))) (wX 6 (mW (ya (yn 1) (ya (yn 2) (ya (hW [true,true] (zg qD (zb (zc 0) (zb (zc 1) zr)))) (ya (yn 4) (ya (yn 5) aW))))))) Y1 [some (.v (.sc ns)),some (.v (.d (cK R))),some (.v (.d (iK L))),some (.v (.d (dtP D))),some (.v (.d (iK T))),some (.v (.d (iK S))),some (.v (Km R L D T S)),o7,o8,none] G=.nx [some (.v (.sc ns)),some (.v (.d (cK R))),some (.v (.d (iK L))),some (.v (.d (dtP D))),some (.v (.d (iK T))),some (.v (.d (iK S))),some (.v (Km R L D6 T S)),o7,o8,none] G:=by
   by_cases hy:y=0
   .refine⟨Dn,⟨z.rn,z.rr,z.ln,eDn▸z.rn,z.tn,z.sn,z.rl,z.rrl,z.ll,?_,z.tl,z.sl⟩,λ{G o7 o8}=>?_⟩
    .have:=G8 List.length eDn;rw[u8,u8]at this;omega
    .exact(nM (Qr rfl ((vH (zy (xs:=[.sc ns,.i 100,.i 3]) rfl ey)).trans (by rw[L9 hy])))).trans (yF (Xz (xs:=[.v (.d (cK R)),.v (.d (iK L)),.v (.d (dtP Dn)),.v (.d (iK T)),.v (.d (iK S))]) (vI rfl (vI rfl (vI (C6 rfl (zy (xs:=[.sc ns,.d (cK R)]) rfl en)) rfl))) (G7 rfl)))
   .exact⟨D,z,λ{G o7 o8}=>(eD (Qr rfl ((vH (zy (xs:=[.sc ns,.i 100,.i 3]) rfl ey)).trans (by rw[G6 hy])))).trans rfl⟩
  obtain⟨R1,L1,D1,T1,S1,z1,t1⟩:=iZ Dd (k:=0) (by decide) (by decide) z6 (G:=shG (.d (vK (dput (iK T) (f 9) (.i 0)))) (dput (dput (vK (cK R)) (f 10) (.g 6)) (f 11) (.g 7)) (dput (dput L (f 10) (c0+x)) (f 11) c1) (dput (dput D (f 10) (some (g 10))) (f 11) none) (dput (dput T (f 10) c0) (f 11) c1) (dput S (g 10) 0) [.d (vK (iK [(g 10,c0)])),.d (vK (iK [(g 10,c1)]))]) (o1:=some (.v (.d (cK R)))) (o2:=some (.v (.d (iK L)))) (o3:=some (.v (.d (dtP D)))) (o4:=some (.v (.d (iK T)))) (o5:=some (.v (.d (iK S)))) (o7:=some (.g 0)) (o8:=some (.t [.g 1,.g 2,.g 3,.g 4,.g 5]));obtain⟨R2,L2,D2,T2,S2,z2,t2⟩:=iZ Dd (k:=1) (by decide) (by decide) z1 (G:=shG (.d (vK (dput (iK T) (f 9) (.i 0)))) (dput (dput (vK (cK R)) (f 10) (.g 6)) (f 11) (.g 7)) (dput (dput L (f 10) (c0+x)) (f 11) c1) (dput (dput D (f 10) (some (g 10))) (f 11) none) (dput (dput T (f 10) c0) (f 11) c1) (dput S (g 10) 0) [.d (vK (iK [(g 10,c0)])),.d (vK (iK [(g 10,c1)]))]) (o1:=some (.v (.d (cK R)))) (o2:=some (.v (.d (iK L)))) (o3:=some (.v (.d (dtP D)))) (o4:=some (.v (.d (iK T)))) (o5:=some (.v (.d (iK S)))) (o7:=some (.g 0)) (o8:=some (.t [.g 1,.g 2,.g 3,.g 4,.g 5]));refine⟨shG (.d (vK (dput (iK T) (f 9) (.i 0)))) (dput (dput (vK (cK R)) (f 10) (.g 6)) (f 11) (.g 7)) (dput (dput L (f 10) (c0+x)) (f 11) c1) (dput (dput D (f 10) (some (g 10))) (f 11) none) (dput (dput T (f 10) c0) (f 11) c1) (dput S (g 10) 0) [.d (vK (iK [(g 10,c0)])),.d (vK (iK [(g 10,c1)]))],?_⟩;refine zv (i4 (iY rfl rfl (zy (xs:=[.sc ns]) rfl ec)) rfl) ?_;refine zv (i4 (iY rfl rfl (zy (xs:=[.d (cK R),.d (iK L)]) rfl ed)) rfl) ?_;refine zv (yF (Xz (xs:=[.v (.d (cK R)),.v (.d (iK L)),.v (.d (dtP D)),.v (.d (iK T)),.v (.d (iK S))]) rfl (G7 rfl))) ?_;refine zv (ifn (Qr rfl (jT (x:=true) (zP (zy (xs:=[Km R L D T S,.b true]) rfl (Vw P (Hd.yes H))))))) ?_;refine zv (yF (lq (x:=.d (iK T)) rfl (zy (xs:=[.d (iK T)]) rfl rfl) rfl)) ?_;refine zv (kA (q:=f 9) (kvs:=iK T) (y:=.i 0) (k:=0) rfl rfl (bo rfl (nT Dd (n:=9) rfl rfl (by decide))) rfl (L8 (show _<=100 by rw[Z5];omega) (by decide))) ?_;refine zv (ifn (Vp (r:=[none,some (.d (cK R)),some (.d (iK L)),some (.d (dtP D)),none,some (.d (iK S)),none,some (.d (iK (dput T (f 9) 0))),none,none]) rfl (by rw[JA];exact vt (V4 rfl (V4 rfl (V4 rfl (vt (V4 rfl (vt (V4 (Jg rfl) rfl)))))))) (jT (x:=true) (zP (zy (xs:=[Km R L D (dput T (f 9) 0) S,.b false]) (zx (bj (xs:=[.d (cK R),.d (iK L),.d (dtP D),.d (iK (dput T (f 9) 0)),.d (iK S)]) rfl (G7 rfl)) rfl) q7))))) ?_;refine zv (yF (Kh (xs:=[.v (.sc ns),.v (Km R L D T S)]) rfl es)) ?_;refine zv (ifn (Vp (r:=[none,none,none,none,none,none,none,none,some _,none]) rfl (vt (vt (vt (vt (vt (vt (vt (vt (V4 (G0 _) rfl))))))))) (jT (x:=true) (zP (zy (zx rfl rfl) q9))))) ?_;refine zv (kA (q:=f 11) (kvs:=dtP (dput (dput D (f 10) (some (g 10))) (f 11) (some (g 10)))) (y:=.n) (k:=3) rfl (pS (x:=.t [.g 1,.g 2,.g 3,.g 4,.g 5]) (y:=.v (.i 2)) rfl rfl rfl) (AO (r:=[none,none,none,none,none,none,none,none,some _,none]) rfl (vt (vt (vt (vt (vt (vt (vt (vt (V4 (G0 _) rfl))))))))) (zj (x:=.l ((dom R++[f 10]).map kP++[kP (f 11)])) (zy (zx (zj rfl rfl rfl) rfl) (show yX [.d (cK (dput (dput R (f 10) [(g 10,c0)]) (f 11) [(g 10,c1)]))]=_ by rw[put2 ha hb ab rfl];exact G8 (λz=>Out.ok (PV.l z)) (by unfold cK;rw[F4,F8,F8,F4,T3];rfl))) rfl n8) (US _)) rfl (L8 (show _<=100 by rw[XF];exact F9 two (by decide)) (by decide))) ?_;rw[show PV.n=oP none from rfl,Xw,dd];refine zv (ifn (Vp (r:=[none,none,none,none,none,none,none,none,some _,none]) rfl (vt (vt (vt (vt (vt (vt (vt (vt (V4 (G0 _) rfl))))))))) (jT (x:=true) (zP (zy (zx rfl rfl) q11))))) ?_;refine zv e12 (zv (ifn (dA (z6.pp (by decide)) rfl rfl)) (zv (Kj rfl (Us (n:=2) rfl (by decide)) ((XH rfl t1).trans ((XH rfl t2).trans rfl))) rfl))
 obtain⟨G,e⟩:=run;refine⟨G,?_⟩;show(match cW [some (.v (.sc ns)),none,none,none,none,none,none,none,none,none] []with | .nx _ G'=>HX.ok (HV.v .n) G' | .rt x G'=>.ok x G' | .exc c fs G'=>.exc c fs G'|_=>.wall)=_;rw[e]
end NCS
def i5(K:Fm):Sp:=λd H Q _=>∃(a:Addr)(b:EW),d=[.ref a]/\SqL K H a (b.map V.int)/\b.length<=63/\∀c,Q (.bl true) c
def all_mk{l:W.OpenLaw}{w:EF}{K:Fm}{h:Heap}{f:Er}{fa c d b JM JR S QJ o q VI n vd Zr g J Zv VH JL dC C M kC Zt P vM Yg JS O L I QN JP QK QQ i:Addr}{JQ JK D x u Yh VG vc k9 A wF Z7 F VJ JO z Ya t kE Zu B vO Y JN y QI r QP Z QD N j:EL}{U8 Zs QF:Tok}(X:K.In h)(G:h.Ns mainGlobals f)(m:f "law"=some (.ref fa))
  (a9:W.nsIn K mainGlobals "LIMIT"=some (some (.int 1000000000 U8)))
  (vW:W.nsIn K mainGlobals "MOST_THINGS"=some (some (.int 40 Zs)))
  (Yx:W.nsIn K mainGlobals "MOST_KEYS"=some (some (.int 80 QF)))
  (Yy:NsR K "BadNumber" c)
  (K7:NsR K "TooMany" d)
  (K8:NsR K "Dealing" b)
  (nH:NsN K "all")
  (nI:NsN K "any")
  (ia:NsN K "bool")
  (jS:NsN K "dict")
  (Zb:NsN K "isinstance")
  (vE:NsN K "len")
  (kM:NsN K "list")
  (Yz:NsN K "range")
  (nJ:NsN K "set")
  (eh:NsN K "sum")
  (st:K.lookup cStatics=some L2.BF)
  (zq:DfN K "_law_draw" Q9 JM JQ)
  (ZE:DfN K "_law_name" Q_ JR JK)
  (yE:DfN K "_law_thing" Yp S D)
  (je:DfN K "_law_costs" Yq QJ x)
  (eI:XMk K d o)
  (Ye:Fun K "__init__" "TooMany.__init__" vj o u)
  (jE:DfN K "check_most" wZ q Yh)
  (yY:DfN K "keys_of" K3 VI VG)
  (U7:XMk K c n)
  (R:Fun K "__init__" "BadNumber.__init__" jM n vc)
  (yZ:DfN K "checked_number" jN vd k9)
  (jW:DfN K "check_costs" vS Zr A)
  (V5:W.findIn K (.ref b) "__init__"=some (some (.ref g)))
  (U:Fun K "__init__" "Dealing.__init__" vk g wF)
  (kN:DfN K "least_step" w4 J Z7)
  (qh:DfN K "move_prices" vT Zv F)
  (vF:DfN K "hand_on" K4 VH VJ)
  (j3:DfN K "deal_one" Ja JL JO)
  (Wj:DfN K "deal" h_ dC z)
  (qJ:DfN K "_law_shared" w6 C Ya)
  (jX:DfN K "prices_hold" vU M t)
  (qi:DfN K "cost_of_dealing" jd kC kE)
  (qT:DfN K "same_things" vV Zt Zu)
  (kO:DfN K "none_twice" w8 P B)
  (qU:DfN K "dealing_holds" ki vM vO)
  (kQ:DfN K "deal_holds" w_ Yg Y)
  (qj:DfN K "_law_true" Jb JS JN)
  (zl:DfN K "_law_other_dict" jO O y)
  (kl:DfN K "_law_great" Yr L QI)
  (kR:DfN K "_law_spoilt" Za I r)
  (jf:DfN K "_law_drawn" Ys QN QP)
  (jg:DfN K "_law_same" Jc JP Z)
  (vX:DfN K "_law_spent" Yt QK QD)
  (km:DfN K "_law_holds" Yu QQ N)
  (ib:DfN K "law" t5 i j)
  (XJ:XN K c)
  (YI:W.takerIn K c "value"=some none)
  (bD:XN K d)
  (J1:W.takerIn K d "most"=some none)
  (bF:Cls K b)
  (bz:W.makesIn K b=true)
  (bG:W.keepIn K (.ref b)=true)
  (Ji:W.findIn K (.ref b) "costs"=some none)
  (Jh:W.findIn K (.ref b) "dealt"=some none)
  (wH:W.findIn K (.ref b) "key_prices"=some none)
  (YH:W.findIn K (.ref b) "leaving"=some none)
  (QE:W.findIn K (.ref b) "owners"=some none)
  (vN:W.findIn K (.ref b) "thing_prices"=some none)
  (J2:W.isFn K (.ref g)=true)
  (Zc:W.kitOne K (.type "bool") (.type "bool")=some true)
  (YA:W.kitOne K (.type "int") (.type "bool")=some false)
  : ∃fd:FuncData,(∀(s:Eu)(v:Value),BindsTo s fd ⟨[v],[]⟩ [("_law_script",v)])/\∀a:Heap,K.In a->a.Ns mainGlobals f->qY l.prog w K f a (CXe l.prog w) 6 fa fd ["_law_script"] (i5 K):=by
 have e:i=fa:=by have e:=m.symm.trans (a1u X G ib.1);injection e with e;injection e with e;exact e.symm
 subst e;have T:Txt K f ⟨c,d,b,JM,JR,S,QJ,o,q,VI,n,vd,Zr,g,J,Zv,VH,JL,dC,C,M,kC,Zt,P,vM,Yg,JS,O,L,I,QN,JP,QK,QQ,i,JQ,JK,D,x,u,Yh,VG,vc,k9,A,wF,Z7,F,VJ,JO,z,Ya,t,kE,Zu,B,vO,Y,JN,y,QI,r,QP,Z,QD,N,j,U8,Zs,QF⟩:=⟨⟨a1u X G a9,a1u X G vW,a1u X G Yx,a1u X G Yy,a1u X G K7,a1u X G K8,a0e X G nH,a0e X G nI⟩,⟨a0e X G ia,a0e X G jS,a0e X G Zb,a0e X G vE,a0e X G kM,a0e X G Yz,a0e X G nJ,a0e X G eh⟩,⟨st,yB X G zq bn3,yB X G ZE bn3,yB X G yE bn4,yB X G je bn1,Ye,Ye.binds bn2,yB X G jE bn2⟩,⟨yB X G yY bn1,R,R.binds bn2,yB X G yZ bn2,yB X G jW bn2,U,U.binds bn3,yB X G kN bn3⟩,⟨yB X G qh bn4,yB X G vF bn4,yB X G j3 bn2,yB X G Wj bn2,yB X G qJ bn2,yB X G jX bn4,yB X G qi bn3,yB X G qT bn2⟩,⟨yB X G kO bn1,yB X G qU bn2,yB X G kQ bn5,yB X G qj bn2,yB X G zl bn5,yB X G kl bn2,yB X G kR bn3,yB X G jf bn2⟩,⟨yB X G jg bn2,yB X G vX bn3,yB X G km bn5,yB X G ib bn1,XJ,U7,YI,bD⟩,⟨eI,J1,bF,Ji,Jh,wH,YH,QE⟩,⟨vN,⟨bz,V5,J2,bG⟩,Zc,YA⟩⟩;have eb:∀(s:Eu)(v:Value),BindsTo s j ⟨[v],[]⟩ [("_law_script",v)]:=by obtain⟨_,_,_,_,_,_,_,_,_,rfl,_,_⟩:=ib.2.ex;exact λs v=>.of_eq rfl
 refine⟨_,eb,λa _ _=>(AJ T).imp λvs H Q E ⟨p,ns,e,hS,hl,k⟩=>?_⟩;subst e;exact tx hS (n_ ns hl) k
def walk{l:W.OpenLaw}{q:Ez}{c:EB}{t:(Str->Option Value)->Heap->Prop}{i:World->Heap->Prop}{d:DefRec}{K:Params->W.Frag}(hn:l.most=some 63)(g:d.params.defaults=[])
  (hY:∀(w:EF)(h:Heap),i w h->(K w.params).In h)
  (F:∀(w:EF)(e:Er)(fa:Addr)(h:Heap),(K w.params).In h->h.Ns mainGlobals e->e d.name=some (.ref fa)->
   ∃j:FuncData,(∀(s:Eu)(u:Value),BindsTo s j ⟨[u],[]⟩ [("_law_script",u)])/\∀b:Heap,(K w.params).In b->b.Ns mainGlobals e->qY l.prog w (K w.params) e b (CXe l.prog w) 6 fa j ["_law_script"] (i5 (K w.params))):
  W.WalkO q c t i l.row.toRowW d [] (λf p=>PySem.call f p):=
 L2.rR (n:=63) (k:=6) (x:="_law_script") (CX:=λw=>CXe l.prog w) (sp:=λw=>i5 (K w.params)) hn (by decide) g ⟨rfl,by decide,by decide⟩ hY F (λ_ H a o r v m=>⟨a,o,rfl,m,r,λ_=>rfl⟩) λ_ _ _ _ _ z=>gC z
end K87
open PySem PySem.W PyProof.Rows
namespace PySem.W.Fast
def tw15016019217638921177:=()
def tw5583795606508164359:=()
def tw6207475201720652116:=()
def tw617357782092686184:=()
def tw215618807704444210:=()
def tw5393528941285221647:=()
def tw14455016049462921652:=()
def tw10354605910049336638:=()
def tw6277823265880992127:=()
def tw12483733930887303337:=()
def tw9623190516285486035:=()
def tw12390429084174744100:=()
def tw8244738008266916755:=()
def tw9723162560906633021:=()
def tw6509195640479957913:=()
def tw4863277323629547581:=()
def tw17235206934859195830:=()
def tw8270072957918661042:=()
def tw2405423047240047494:=()
def tw10570578447998591044:=()
def tw6846681177473092285:=()
def tw5597365114693583903:=()
def tw11787161044751071966:=()
def tw959181590259935971:=()
def tw5605221543105937828:=()
def tw1386269274418395401:=()
def tw3538055861977734741:=()
def tw1942108261283388266:=()
def tw4925075548704636527:=()
def tw11362250337079703663:=()
def tw18265383034431663647:=()
def tw8187029133288916206:=()
def tw6242176219116964589:=()
def tw191599517191599554:=()
def tw10675403674710327408:=()
end PySem.W.Fast
set_option maxRecDepth 100000 in
set_option maxHeartbeats 0 in
theorem PySem.Challenge.cw_fleetpath_k87_deal_held_holds : PySem.Challenge.rw_fleetpath_k87_deal_held.Holds := by
 w_on;o_law;k_head;(case hw=>w_witness2)
 k_fill
 refine K87.walk (l:=PySem.Challenge.rw_fleetpath_k87_deal_held) rfl rfl (λw h Y=>PySem.W.kIn_of Y) ?F
 case F=>
  intro w mg fa h KX G hmg;refine' K87.all_mk KX G hmg ?_ ?_ ?_ ?_ ?_ ?_ ?_ ?_ ?_ ?_ ?_ ?_ ?_ ?_ ?_ ?_ ?_ ?_ ?_ ?_ ?_ ?_ ?_ ?_ ?_ ?_ ?_ ?_ ?_ ?_ ?_ ?_ ?_ ?_ ?_ ?_ ?_ ?_ ?_ ?_ ?_ ?_ ?_ ?_ ?_ ?_ ?_ ?_ ?_ ?_ ?_ ?_ ?_ ?_ ?_ ?_ ?_ ?_ ?_ ?_ ?_ ?_ ?_ ?_ ?_ ?_ ?_ ?_
  all_goals try(first|((first|refine'⟨?_,L2.oG ?_ ?_ ?_⟩|refine' L2.oG ?_ ?_ ?_|refine' K87.AI ?_ ?_ ?_ ?_ ?_)<;>try first|k_is|kernel_rfl)|(show _=_;first|k_is|kernel_rfl)|(first|refine⟨?_,?_,?_,?_,?_⟩|refine⟨?_,?_,?_,?_⟩|refine⟨?_,?_,?_⟩)<;>first|k_is|kernel_rfl)
#print axioms PySem.Challenge.cw_fleetpath_k87_deal_held_holds
