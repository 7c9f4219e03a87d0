import PyProof.Rows.All
import Wide.All
import OpenK.AllK
import Wide.FinOn
import Lean
import PyProof.EqAt
import PyProof.EqKinds
import PyProof.TupleCall
import PyProof.NeKinds
import PyProof.Rows.CountFlat
import PyProof.Rows.SumAny
import PyProof.Rows.Range3
import KE.KEqDict
import KE.KRevIter
import PyProof.DictIter
import PyProof.DictWalks
import PyProof.IsiH_list
import KE.KDictOf
import PyProof.Rows.SetFrom
import PyProof.Conv_int_bool
import PyProof.Rows.StrNews
import PyProof.CallStr
import PyProof.Rows.StrMeet
import PyProof.FitsReplace
import PyProof.MeetsStr3
import PyProof.Rows.StrSplitAre
import PyProof.StrLawsIn
import PyProof.ReprLen
import PyProof.StrLawsChain
import KE.IntTextLaws
import PyProof.Rows.StrClose5
import KE.KSortTup
import PyProof.Rows.SortKey
import PyProof.DictUpdate
import KE.KDictSum
import PyProof.WalksEnum
import PyProof.EnumMake
import PyProof.ZipIter
import PyProof.Rows.EnumRows
import PyProof.Rows.ZipForRows
import PyProof.Rows.FactsT2
import PySem.Challenge.RW_fleetpath_k45_legs_are_trips
set_option compiler.extract_closed false
set_option bootstrap.genMatcherCode false
set_option genInjectivity false
set_option genSizeOf false
set_option genSizeOfSpec false
set_option Elab.async false
set_option linter.all false
set_option maxRecDepth 100000
noncomputable section
def f8:=@PySem.wpAny_bind
def u8:=@List.length_map
def v0:=@List.length_cons
def v4:=@Option.map_eq_some_iff
def O0:=@List.mem_cons_self
def O1:=@List.length_append
def O2:=@Nat.le_refl
def O3:=@PySem.Heap.get?_push_of_some
def O4:=@List.mem_cons_of_mem
def O5:=@PySem.wpAny_pure
def O6:=@List.map_cons
def O7:=@PySem.Heap.lt_size
def O8:=@decide_eq_false
def O9:=@decide_eq_true
def P0:=@List.size_toArray
def P1:=@List.getElem?_eq_getElem
def P2:=@Nat.le_of_ble_eq_true
def P4:=@Nat.lt_of_lt_of_le
def P5:=@Bool.false_ne_true
def P6:=@Nat.ne_of_lt
def P7:=@List.append_nil
def P8:=@List.getElem?_eq_some_iff
def P9:=@List.mem_cons
def R4:=@Option.bind_eq_some_iff
def R7:=@List.map_append
def R8:=@List.mem_append_right
def R9:=@List.mem_singleton
def S0:=@List.append_assoc
def S4:=@List.getElem?_cons_succ
def S5:=@PySem.Heap.get?_push_size
def S6:=@Nat.le_trans
def S7:=@List.getElem?_map
def S8:=@List.getElem?_set_ne
def S9:=@beq_iff_eq
def T1:=@PySem.Heap.get?_update_other
def T2:=@Classical.choose_spec
def T4:=@List.lookup_cons
def T5:=@List.getElem?_set_self
def T6:=@List.take_succ_eq_append_getElem
def T7:=@List.mem_map
def T8:=@List.mem_append
def T9:=@List.getElem?_append_left
def SS:=@congrArg
def Tg:=@PySem.wpAny_mono
def ν:=@Option.some.inj
def Ν:=@beq_eq_false_iff_ne
def Tx:=@Nat.zero_le
def TC:=@PySem.sizeLine_eq
def SR:=@PySem.W.mg_of
def τ:=@List.length_set
def Β:=@List.getElem_mem
def Μ:=@List.flatten_cons
def ϩ:=@List.getElem?_append_right
def γ:=@List.map_map
def ό:=@List.length_range
def ρ:=@PySem.wpAny_holding
def π:=@List.any_cons
def Ϩ:=@Int.eq_ofNat_of_zero_le
def ϋ:=@Nat.lt_succ_self
def Λ:=@List.mem_range
def ϊ:=@List.nodup_cons
def Ω:=@Nat.not_lt_zero
def a0u:=@Option.isSome_iff_exists
def Α:=@PySem.W.mg_none_of
def Κ:=@Nat.lt_irrefl
def ϧ:=@List.mem_of_getElem?
def Ϙ:=@PySem.wpAny_newObj_type
def ϗ:=@of_decide_eq_true
def ϱ:=@List.replicate_succ
def ϰ:=@List.mem_map_of_mem
def Δ:=@Nat.le_succ
def Γ:=@Int.le_refl
def a0E:=@List.take_of_length_le
def a0F:=@List.getD_eq_getElem?_getD
def Ϛ:=@List.length_drop
def ϯ:=@PySem.wpAny_Call_Name_kw
def Ϯ:=@Nat.lt_of_le_of_lt
def a0J:=@PySem.Heap.get?_update_self
def ϑ:=@Bool.false_xor
def a0L:=@List.mem_append_left
def a0M:=@List.getElem?_replicate
def a0N:=@PySem.F.plainAttrs_list
def a0O:=@Array.length_toList
def ϭ:=@List.length_take
def Ϭ:=@List.getElem_map
def ϫ:=@PySem.wpAny_passesOwn
def a0S:=@List.length_replicate
def a0T:=@List.length_singleton
def a0U:=@Int.toNat_natCast
def ύ:=@PySem.wpAny_call
def Ϫ:=@PySem.Heap.size_push
def ϙ:=@PySem.codeAny_mono
def a0Y:=@List.all_eq_true
def a0Z:=@beq_self_eq_true
def a00:=@List.take_length
def a01:=@Nat.succ_le_succ
def a02:=@PySem.mem_of_lookup
def a03:=@List.map_congr_left
def ϳ:=@PySem.Paired.length
def ϲ:=@List.map_take
def a06:=@PySem.wpAny_execs_nil
def a07:=@PySem.W.callWith_K
def a08:=@List.foldl_cons
def a09:=@PySem.tupleKind_room_in1
def a1a:=@List.find?_cons
def a1b:=@List.pairwise_cons
def ϖ:=@Sum.inr.inj
def ϕ:=@PySem.wpAny_field
def a1e:=@Option.isSome_map
def a1f:=@List.nodup_append
def Ϧ:=@Nat.ne_of_gt
def a1h:=@PySem.wpAny_loadPart
def ϥ:=@PySem.wpAny_typeOf
def a1j:=@PyProof.Rows.callWith_type1
def a1k:=@PySem.codeAny_call_builtin
def a1l:=@List.filter_cons
def a1m:=@List.mem_of_mem_take
def a1n:=@PySem.wpAny_attempt
def a1o:=@Array.getElem?_eq_some_iff
def a1p:=@List.drop_eq_getElem_cons
def ϻ:=@PySem.W.looks_findIn
def a1r:=@of_decide_eq_false
def a1s:=@Int.emod_lt_of_pos
def a1t:=@List.getElem?_cons_zero
def a1u:=@List.pairwise_singleton
def a1v:=@PySem.wpAny_truthy_bool
def a1w:=@Nat.lt_succ_of_lt
def a1x:=@Nat.le_succ_of_le
def a1y:=@List.getLast?_map
def a1z:=@PySem.Calls.callWith_builtin
def a1A:=@PySem.wpAny_standAt
def a1B:=@Bool.and_eq_true
def a1C:=@PySem.wpAny_isInstance
def a1D:=@PySem.F.slot_dict_get
def a1E:=@PySem.builtinLookup_eq_fast
def a1F:=@List.take_append_drop
def a1G:=@PySem.plainObj_wpAny_Assign_Attribute
def a1H:=@PyProof.Rows.slot_tuple_getitem
def a1I:=@Nat.le_of_lt
def a1J:=@Nat.le_of_eq
def a1K:=@PySem.call_meets
def a1L:=@List.nil_append
def a1M:=@List.length_nil
def a1N:=@Nat.lt_trans
def a1O:=@List.getElem?_append
def a1P:=@Int.emod_nonneg
def a1Q:=@List.getLast?_append
def a1R:=@List.range_eq_range'
def a1S:=@List.eq_nil_of_length_eq_zero
def a1T:=@List.filterMap_cons
def a1U:=@PySem.W.plainGet_of
def a1V:=@PySem.Heap.get?_update_ne
def a1W:=@Bool.and_false
def a1X:=@PySem.W.looks_mroIn
def a1Y:=@List.getElem_range
def a1Z:=@PySem.Calls.Name_function_global
def a10:=@Bool.true_xor
def a11:=@List.map_drop
def a12:=@Array.perm_iff_toList_perm
def a13:=@PyProof.Rows.listUpdate_at
def a14:=@List.sum_cons
def a15:=@List.nodup_iff_pairwise_ne
def a16:=@PySem.Within.cons
def a17:=@Nat.le_of_succ_le
def a18:=@List.getElem?_eq_none_iff
def a19:=@List.pairwise_iff_getElem
def a2a:=@PySem.codeAny_handlers_suite_as
def a2b:=@List.getLast?_eq_none_iff
def a2c:=@PySem.wpAny_eqBool_int
def a2d:=@PySem.wpAny_execs_cons
def a2e:=@PySem.wpAny_lookBehind
def a2f:=@PySem.pastItsLine_dict
def a2g:=@PySem.F.args_tuple_add_2
def a2h:=@PySem.wpAny_mkText
def a2i:=@PySem.wpAny_comprehension_free
def a2j:=@PySem.F.slot_list_append
def a2k:=@PySem.F.type_list_append
def a2l:=@List.drop_length
def a2m:=@Nat.succ_lt_succ
def a2n:=@Nat.sub_self
def a2o:=@PyProof.Rows.KeyOrd.kle_trans
def a2p:=@PyProof.Rows.KeyOrd.klt_asymm
def a2q:=@Array.toList_inj
def a2r:=@PySem.F.slot_list_insert
def a2s:=@Nat.le_add_right
def a2t:=@List.eq_of_mem_replicate
def a2u:=@List.cons_ne_nil
def a2v:=@List.nil_sublist
def a2w:=@List.mem_flatten
def a2x:=@PySem.F.entry_tuple_add
def a2y:=@PySem.F.args_dict_get_2
def a2z:=@List.of_mem_zip
def a2A:=@PySem.pushCells_keeps
def a2B:=@PySem.typeLookup_type
def a2C:=@PySem.wpAny_updateSeq
def a2D:=@PySem.W.cellsFrom_some
def a2E:=@PySem.F.slot_tuple_add
def a2F:=@PyProof.Rows.subscriptTail_builtinR
def a2G:=@PySem.F.entry_dict_get
def a2H:=@Array.getElem?_eq_none
def a2I:=@PySem.wpAny_of_eq
def a2J:=@PySem.wpAny_setField
def a2K:=@PySem.W.methodCall_KW
def a2L:=@List.getElem?_toArray
def a2M:=@PySem.codeAny_handlers_test
def a2N:=@PySem.wpAny_loadName_local
def a2O:=@PySem.wpAny_load
def a2P:=@Array.mem_toList_iff
def a2Q:=@PySem.Calls.evalArgs_plain
def a2R:=@Bool.and_eq_true_iff
def a2S:=@PySem.wpAny_rule
def a2T:=@PySem.Around.under_plainId
def a2U:=@Nat.mod_lt
def a2V:=@List.mem_iff_getElem
def a2W:=@List.pairwise_append
def a2X:=@List.all_cons
def a2Y:=@PySem.plainId_quiet
def a2Z:=@PySem.wpAny_loadName_cell
def a20:=@List.take_succ_cons
def a21:=@List.drop_succ_cons
def a22:=@PySem.wpAny_handleBy_cons
def a23:=@List.flatten_append
def a24:=@PySem.SeqAt.EqAt.int_str
def a25:=@PySem.SeqAt.EqAt.str_int
def a26:=@List.mem_filterMap
def a27:=@Array.find?_toList
def a28:=@PySem.wpAny_nsSet1
def a29:=@PySem.Calls.spliced_cons
def a3a:=@List.map_nil
def a3b:=@PySem.Code.quiet_builtin
def a3c:=@Nat.zero_add
def a3d:=@Array.forIn_toList
def a3e:=@Int.add_zero
def a3f:=@PySem.W.looks_clsIn
def a3g:=@PySem.wpAny_throw
def a3h:=@Prod.ext
section
open PySem PySem.Spec PyProof.Rows PySem.W
abbrev OP:=List Str
abbrev OQ:=(Str->Option Value)
abbrev OR:=(List (Addr×Obj))
abbrev OS:=List Nat
abbrev OT:=(Value->Shared->Prop)
abbrev OU:=(Addr->Prop)
abbrev OV:=Shared
abbrev OW:=List Bool
abbrev OX:=List Expr
abbrev OY:=PySem.W.Frag
abbrev OZ:=List Value
abbrev O_:=(Nat->Addr)
abbrev Pc:=Expr
abbrev Pf:=List (Option Nat)
abbrev Pg:=Program
abbrev Pk:=World
abbrev Pl:=FuncData
abbrev Pn:=List Int
abbrev Po:=Around
abbrev Pq:=W.Frag
abbrev Pr:=(List (Str×Addr))
abbrev Pt:=List Stmt
abbrev Pw:=Frag
abbrev Px:=(List (Str×NameKind))
abbrev Py:=Array (Option Value)
abbrev Pz:=Option Int
abbrev PB:=Stmt
abbrev PC:=Option Addr
abbrev PD:=List Addr
abbrev PF:=(List (Str×Value))
abbrev PJ:=Array Nat
abbrev PL:=List (List Str)
abbrev PQ:=Array Value
abbrev PU:=(Str->Option NameKind)
abbrev PY:=(Nat->Nat->Bool)
abbrev P_:=(Nat->Prop)
abbrev Rb:=Option Expr
abbrev Rc:=(Value->Option Bool)
abbrev Rf:=(Nat->Value)
abbrev Rg:=(Nat->Str)
end
abbrev Rh:List Nat:=[0,0,0,0,0,0]
abbrev Ri:List Nat:=[0,0,0,0,0,0,0,0,0,0,0]
abbrev Rj:List Nat:=[0,0,0,0,0,0,0,0,0,0,0,0,0,0,0,0,0,0]
abbrev Rp:=[false,false,false,false,false,false,false,false,false,false,false,false,false,false,false,true]
abbrev Rq:=[false,false,false,false,false,false,false,false,false,true]
abbrev Rr:=[false,false,false,false,true]
abbrev Rt:=[false,false,false,false,false,false,false,false,false,false,true]
abbrev Ru:=[false,false,false,false,false,false,false,false,false,false,true,true,true,true]
abbrev Rv:=[false,false,false,false,true,false,false,true,false,true,true,false,false,false,false,false,true]
abbrev Rw:=[false,false,false,false,false,true,false,false,true,false,true]
abbrev Rx:=[false,false,false,false,true,true,true,false,true,false,true]
abbrev Rz:=[false,false,false,false,false,false,false,false,false,false,false,true,false,false,true]
abbrev RA:=[false,true,true,false,false,false,false,false,true,true]
abbrev RB:=[false,false,false,false,false,false,false,false,false,false,false,false,false,true]
abbrev RD:=[false,false,false,false,false,false,false,false,true]
abbrev RE:=[true,false,true]
abbrev RF:=[false,false,false,false,false,true]
abbrev RG:=[false,false,false,false,false,false,false,true]
abbrev RH:=[true,false,false,false,false,false,false,false,false,false,true]
abbrev RI:=[true,true,true]
abbrev RJ:=[false,false,false,false,true,false,true,false,false,true,true]
abbrev RK:=[true,true]
abbrev RL:=[false,false,false,true]
abbrev RM:=[false,false,false,false,false,false,true,false,true]
abbrev RN:=[false,false]
abbrev RO:=[true,true,false,true]
abbrev RP:=[false,true]
abbrev RQ:=[true,false,false]
abbrev RS:=[false,false,false,false,true,true]
abbrev RT:=[false,true,false,true]
abbrev RU:=[true,false,true,true]
abbrev RW:=[false]
abbrev RX:=[false,false,true]
abbrev RY:=[true,false,false,true]
abbrev RZ:=[false,false,true,true]
namespace L2
open PySem PySem.Spec PyProof.Rows
abbrev Key:=Sum Int Str
abbrev PH:=(List (Key×Value))
abbrev PM:=List Key
abbrev PR:=(List (List Key×Int))
def gY:Key->Value->Bool
 |.inl k,v=>Value.isInt k v
 |.inr x,v=>Value.isStrOf x v
def N4(w:Pk):Key->Int
 |.inl k=>hashInt k
 |.inr x=>hashStr w x
def yO:∀{k:Key}{v:Value},gY k v=true->(∃i t,k=Sum.inl i/\v=Value.int i t)\/(∃x t,k=Sum.inr x/\v=Value.str x t)
 |.inl i,v,h=>by obtain⟨t,e⟩:=Value.isInt_shape (k:=i) (v:=v) h;exact .inl ⟨i,t,rfl,e⟩
 |.inr x,v,h=>by obtain⟨t,e⟩:=Value.isStrOf_shape (x:=x) (v:=v) h;exact .inr ⟨x,t,rfl,e⟩
def oY(i:Int)(t:Tok):gY (.inl i) (.int i t)=true:=by simp[gY,Value.isInt]
def oZ(x:Str)(t:Tok):gY (.inr x) (.str x t)=true:=by simp[gY,Value.isStrOf]
def FF(a b:Int):decide ((Sum.inl a:Key)=Sum.inl b)=(a==b):=by
 by_cases e:a=b
 .subst e;simp
 .have h:¬(Sum.inl a:Key)=Sum.inl b:=λq=>e (Sum.inl.inj q);rw[O8 h];exact(Ν.mpr e).symm
def FG(a b:Str):decide ((Sum.inr a:Key)=Sum.inr b)=decide (a=b):=by
 by_cases e:a=b
 .subst e;simp
 .have h:¬(Sum.inr a:Key)=Sum.inr b:=λq=>e (ϖ q);rw[O8 h,O8 e]
def FH(a:Int)(b:Str):decide ((Sum.inl a:Key)=Sum.inr b)=false:=O8 (λq=>nomatch q)
def FI(a:Str)(b:Int):decide ((Sum.inr a:Key)=Sum.inl b)=false:=O8 (λq=>nomatch q)
def yP(prog:Pg)(w:Pk):PySem.KeyKind prog w Key where
 is:=gY
 hash:=N4 w
 inj:=λv a b ha hb=>by
  rcases yO ha with⟨i,t,rfl,rfl⟩|⟨x,t,rfl,rfl⟩
  .rcases yO hb with⟨j,u,rfl,e⟩|⟨y,u,rfl,e⟩
   .injection e with e1 _;rw[e1]
   .exact nomatch e
  .rcases yO hb with⟨j,u,rfl,e⟩|⟨y,u,rfl,e⟩
   .exact nomatch e
   .injection e with e1 _;rw[e1]
 byValue:=λk v h=>by rcases yO h with⟨i,t,rfl,rfl⟩|⟨x,t,rfl,rfl⟩<;>rfl
 pyHash:=λhv h=>by
  rcases yO hv with⟨i,t,rfl,rfl⟩|⟨x,t,rfl,rfl⟩
  .exact wpAny_pyHash_int h
  .exact wpAny_pyHash_str h
 eqBool:=λhu hv h=>by
  rcases yO hu with⟨i,t,rfl,rfl⟩|⟨x,t,rfl,rfl⟩
  .rcases yO hv with⟨j,u,rfl,rfl⟩|⟨y,u,rfl,rfl⟩
   .rw[FF]at h;exact a2c h
   .rw[FH]at h;exact a24 i t y u _ _ _ _ h
  .rcases yO hv with⟨j,u,rfl,rfl⟩|⟨y,u,rfl,rfl⟩
   .rw[FI]at h;exact a25 x t j u _ _ _ _ h
   .rw[FG]at h;exact wpAny_eqBool_str h
 «strs»:=λk x t v h=>by
  rcases yO h with⟨i,u,rfl,e⟩|⟨y,u,rfl,e⟩
  .exact nomatch e
  .injection e with e1 _
   subst e1;cases v<;>rfl
def nA(prog:Pg)(w:Pk)(k:Key)(v:Value):(yP prog w).is k v=gY k v:=rfl
def gZ(prog:Pg)(w:Pk)(i:Int)(t:Tok):(yP prog w).is (.inl i) (.int i t)=true:=oY i t
def g5(prog:Pg)(w:Pk)(x:Str)(t:Tok):(yP prog w).is (.inr x) (.str x t)=true:=oZ x t
inductive V where
 |non|bl (b:Bool)|int (i:Int)|str (x:Str)|byt (b:Array UInt8)|flt (b:UInt64)|ref (a:Addr)|ty (n:String)
 deriving DecidableEq
abbrev Pa:=List V
abbrev Pb:=(List (Key×V))
abbrev Pp:=(List (Str×V))
abbrev PX:=(List (List Key×V))
def RelV:V->Value->Prop
 |.non,u=>u=Value.none
 |.bl b,u=>u=Value.bool b
 |.int i,u=>∃t,u=Value.int i t
 |.str x,u=>∃t,u=Value.str x t
 |.byt b,u=>∃t,u=Value.bytes b t
 |.flt b,u=>∃t,u=Value.float b t
 |.ref a,u=>u=Value.ref a
 |.ty n,u=>u=Value.type n
abbrev Vals:List V->List Value->Prop:=Paired RelV
def Vals.length(r:Vals xs us):xs.length=us.length:=ϳ r
def Vals.get:∀{xs:Pa}{us:OZ}{i:Nat}{x:V},Vals xs us->xs[i]?=some x->∃u,us[i]?=some u/\RelV x u
 |_,_,_,_,.nil,e=>by simp at e
 |_,_,0,_,.cons r _,e=>by simp at e;subst e;exact⟨_,rfl,r⟩
 |_,_,i+1,x,.cons _ t,e=>by obtain⟨u,h1,h2⟩:=Vals.get (i:=i) (x:=x) t (by simpa using e);exact⟨u,by simpa using h1,h2⟩
def Vals.append:∀{xs ys:Pa}{us ws:OZ},Vals xs us->Vals ys ws->Vals (xs++ys) (us++ws)
 |_,_,_,_,.nil,s=>s
 |_,_,_,_,.cons r t,s=>.cons r (Vals.append t s)
def Vals.take:∀{xs:Pa}{us:OZ}(n:Nat),Vals xs us->Vals (xs.take n) (us.take n)
 |_,_,0,_=>.nil
 |_,_,_+1,.nil=>.nil
 |_,_,n+1,.cons r t=>.cons r (Vals.take n t)
def Vals.drop:∀{xs:Pa}{us:OZ}(n:Nat),Vals xs us->Vals (xs.drop n) (us.drop n)
 |_,_,0,r=>r
 |_,_,_+1,.nil=>.nil
 |_,_,n+1,.cons _ t=>Vals.drop n t
def Xi:Option V->Option Value->Prop
 |some v,some u=>RelV v u
 |none,none=>True
 |_,_=>False
def KV{κ:Type}:List (κ×V)->List (κ×Value)->Prop:=Paired λ(p:κ×V) (q:κ×Value)=>p.1=q.1/\RelV p.2 q.2
def kV:Key->V
 |.inl i=>.int i
 |.inr x=>.str x
inductive HO where
 |lst (xs:Pa)
 |tup (xs:Pa)
 |dK (kvs:Pb)|dT (kvs:PX)
 |set (S:Int->Bool) (n:Nat)
 |ins (C dx:Addr) (fs:Pp)
 |own (x:Addr)
 |xd (fs:Pp)
 |met (f x:Addr)
 |rng (lo hi:Int)
 |frz (o:Obj) (u:HO)
 |tbl (ps:PQ)
 |ext (φ:Heap->Prop)
abbrev Hp:=Addr->Option HO
def upd(H:Hp)(a:Addr)(o:HO):Hp:=λb=>if b=a then some o else H b
def zh:upd H a o a=some o:=by unfold upd;rw[if_pos rfl]
def zl(h:b≠a):upd H a o b=H b:=by unfold upd;rw[if_neg h]
def vw:upd (upd H a o) a u=upd H a u:=by
 funext b;unfold upd;split<;>rfl
def Ly{H:Hp}{a b:Addr}{o u:HO}(h:H a=some o)(h':H b=some u)(d:o≠u):a≠b:=by intro e;subst e;rw[h]at h';exact d (ν h')
def zQ{H:Hp}{a b:Addr}{o:HO}(h:H a=some o)(h':H b=none):a≠b:=by intro e;subst e;rw[h]at h';cases h'
section
variable (P:Pg) (w:Pk)
def ql(H:Hp)(h:Heap)(a:Addr):HO->Prop
 |.lst xs=>xs.length<=sizeLine/\∃(Sf:OZ)(n:Nat),Vals xs Sf/\h.get? a=some { cls:=.type "list",data:=.seq Sf.toArray n }
 |.tup xs=>xs.length<=sizeLine/\∃Sf:List Value,Vals xs Sf/\IsTup h a Sf.toArray
 |.dK kvs=>kvs.length<=sizeLine/\(a==sysModules)=false/\∃vs,KV kvs vs/\h.DictOf (yP P w) a vs
 |.dT kvs=>kvs.length<=sizeLine/\(a==sysModules)=false/\∃xs:List (List Key×Addr×Value),
   Paired (λ(p:List Key×V) (q:List Key×Addr×Value)=>p.1=q.1/\H q.2.1=some (.tup (p.1.map kV))/\RelV p.2 q.2.2) kvs xs/\
   ∃o es ep,h.get? a=some o/\o.ExactDict/\o.data=.dict es ep/\es.toList=xs.map (entryOfKey (tupleKind (yP P w)))/\(xs.map (·.1)).Nodup
 |.set S n=>h.SetOf (intKind P w) a S n
 |.ins C dx fs=>H dx=some (.own a)/\fs.length<=1000/\dx≠a/\h.get? a=some (PySem.W.instObj C dx)/\
   ∃mA,h.Ns1 dx mA/\(∀f,Xi (fs.lookup f) (mA f))/\PySem.Within mA (fs.map (·.1))
 |.own _=>∃o,h.get? a=some o
 |.xd fs=>∃mA,h.Ns1 a mA/\∀f,Xi (fs.lookup f) (mA f)
 |.rng lo hi=>∃t u v,h.get? a=some { cls:=.type "range",data:=.fields #[.int lo t,.int hi u,.int 1 v] }
 |.frz o u=>h.get? a=some o/\ql H h a u
 |.tbl ps=>h.get? a=some { cls:=.none,data:=.fields ps }
 |.met f x=>h.get? a=some (PySem.W.methodObj (.ref f) (.ref x))
 |.ext φ=>φ h/\(∃o,h.get? a=some o)/\∀h1 h2:Heap,φ h1->(∀o,h1.get? a=some o->h2.get? a=some o)->φ h2
def SK(H:Hp)(h:Heap):Prop:=∀a o,H a=some o->ql P w H h a o
end
section
variable {P:Pg}{w:Pk}{H H':Hp}{h h':Heap}{a:Addr}{o:HO}
def ql.lt(x:ql P w H h a o):a<h.objs.size:=by
 cases o with
 |lst xs=>obtain⟨_,_,_,_,e⟩:=x;exact O7 e
 |tup xs=>obtain⟨_,_,_,p⟩:=x;exact p.lt
 |dK kvs=>obtain⟨_,_,_,_,o,_,_,e,_⟩:=x;exact O7 e
 |dT kvs=>obtain⟨_,_,_,_,o,_,_,e,_⟩:=x;exact O7 e
 |set S n=>obtain⟨o,_,_,_,e,_⟩:=x;exact O7 e
 |ins C dx fs=>obtain⟨_,_,_,e,_⟩:=x;exact O7 e
 |own y=>obtain⟨_,e⟩:=x;exact O7 e
 |xd fs=>obtain⟨_,⟨_,_,_,e,_⟩,_⟩:=x;exact O7 e
 |rng lo hi=>obtain⟨_,_,_,e⟩:=x;exact O7 e
 |frz ob u=>obtain⟨e,_⟩:=x;exact O7 e
 |tbl ps=>exact O7 (show h.get? a=some _ from x)
 |met f y=>exact O7 (show h.get? a=some _ from x)
 |ext φ=>obtain⟨_,⟨_,e⟩,_⟩:=x;exact O7 e
def Paired.Lz{α β:Type}{F G:α->β->Prop}:∀{l₁:List α}{l₂:List β},Paired F l₁ l₂->(∀a b,F a b->G a b)->Paired G l₁ l₂
 |_,_,.nil,_=>.nil
 |_,_,.cons r t,f=>.cons (f _ _ r) (Paired.Lz t f)
def ql.oP(x:ql P w H h a o)(k:∀b u,(b=a\/H b=some (.own a))->h.get? b=some u->h'.get? b=some u)(ho:∀b,H b=some (.own a)->H' b=some (.own a))(ht:∀b xs,H b=some (.tup xs)->H' b=some (.tup xs)):ql P w H' h' a o:=by
 induction o with
 |lst xs=>obtain⟨z,Sf,n,r,e⟩:=x;exact⟨z,Sf,n,r,k _ _ (.inl rfl) e⟩
 |tup xs=>obtain⟨z,Sf,r,ob,e,c⟩:=x;exact⟨z,Sf,r,ob,k _ _ (.inl rfl) e,c⟩
 |dK kvs=>obtain⟨z,y,vs,r,ob,es,ep,e,c⟩:=x;exact⟨z,y,vs,r,ob,es,ep,k _ _ (.inl rfl) e,c⟩
 |dT kvs=>obtain⟨z,y,xs,r,ob,es,ep,e,c⟩:=x;exact⟨z,y,xs,Paired.Lz r λp q z=>⟨z.1,ht _ _ z.2.1,z.2.2⟩,ob,es,ep,k _ _ (.inl rfl) e,c⟩
 |set S n=>obtain⟨ob,es,ep,t,e,c⟩:=x;exact⟨ob,es,ep,t,k _ _ (.inl rfl) e,c⟩
 |ins C dx fs=>obtain⟨d,z,ne,e,mA,⟨od,es,ep,e2,c⟩,r⟩:=x;exact⟨ho _ d,z,ne,k _ _ (.inl rfl) e,mA,⟨od,es,ep,k _ _ (.inr d) e2,c⟩,r⟩
 |own y=>obtain⟨ob,e⟩:=x;exact⟨ob,k _ _ (.inl rfl) e⟩
 |xd fs=>obtain⟨mA,⟨od,es,ep,e,c⟩,r⟩:=x;exact⟨mA,⟨od,es,ep,k _ _ (.inl rfl) e,c⟩,r⟩
 |rng lo hi=>obtain⟨t,u,v,e⟩:=x;exact⟨t,u,v,k _ _ (.inl rfl) e⟩
 |frz ob u ih=>obtain⟨e,q⟩:=x;exact⟨k _ _ (.inl rfl) e,ih q⟩
 |tbl ps=>have e:h.get? a=some { cls:=.none,data:=.fields ps }:=x;show h'.get? a=some { cls:=.none,data:=.fields ps };exact k a _ (.inl rfl) e
 |met f y=>have e:h.get? a=some (PySem.W.methodObj (.ref f) (.ref y)):=x;show h'.get? a=some (PySem.W.methodObj (.ref f) (.ref y));exact k a _ (.inl rfl) e
 |ext φ=>obtain⟨p,⟨o,e⟩,st⟩:=x;exact⟨st _ _ p λo q=>k _ _ (.inl rfl) q,⟨o,k _ _ (.inl rfl) e⟩,st⟩
def SK.lt(x:SK P w H h)(e:H a=some o):a<h.objs.size:=(x a o e).lt
def SK.fresh(x:SK P w H h)(e:h.objs.size<=a):H a=none:=by
 cases q:H a with
 |none=>rfl
 |some u=>exact absurd (P4 (x.lt q) e) (Κ _)
def SK.kept(x:SK P w H h)(k:∀b u,h.get? b=some u->h'.get? b=some u):SK P w H h':=λa o e=>
 (x a o e).oP (λb u _ q=>k b u q) (λ_ q=>q) λ_ _ q=>q
def SK.laid(x:SK P w H h)(k:∀b u,h.get? b=some u->h'.get? b=some u)(hp:h.objs.size<=a)(new:ql P w (upd H a o) h' a o):SK P w (upd H a o) h':=λb u e=>by
 have hn:=x.fresh hp;by_cases hb:b=a
 .subst hb;rw[zh]at e;cases e;exact new
 .rw[zl hb]at e;exact(x b u e).oP (λc v _ q=>k c v q) (λc q=>by rw[zl (zQ q hn)];exact q) λc xs q=>by rw[zl (zQ q hn)];exact q
end
def Rd(H:Hp)(a:Addr)(u:HO):Prop:=H a=some u\/∃o,H a=some (.frz o u)
def Rd.ok(r:Rd H a u)(x:SK P w H h):ql P w H h a u:=by
 rcases r with r|⟨o,r⟩
 .exact x a u r
 .obtain⟨_,q⟩:=x a _ r;exact q
def Mut:Option HO->Prop
 |some (.lst _)=>True
 |some (.dK _)=>True
 |some (.dT _)=>True
 |some (.set _ _)=>True
 |some (.ins _ _ _)=>True
 |some (.ext _)=>True
 |_=>False
def SK.write(ok:SK P w H h)(mu:Mut (H x))(he:e=x\/H e=some (.own x))(k:∀b u,b≠e->h.get? b=some u->h'.get? b=some u)(heo:∃u,h'.get? e=some u)(new:ql P w (upd H x o') h' x o'):SK P w (upd H x o') h':=λb u q=>by
 have nown:∀c y,H c=some (.own y)->c≠x:=λc y r z=>by subst z;rw[r]at mu;exact mu
 have ntup:∀c xs,H c=some (.tup xs)->c≠x:=λc xs r z=>by subst z;rw[r]at mu;exact mu
 by_cases hb:b=x
 .subst hb;rw[zh]at q;cases q;exact new
 .rw[zl hb]at q;by_cases hbe:b=e
  .have q':H b=some (.own x):=by
    rcases he with z|z
    .exact absurd (hbe.trans z) hb
    .rw[hbe];exact z
   rw[q]at q';cases q';obtain⟨v,hv⟩:=heo;exact⟨v,by rw[hbe];exact hv⟩
  .refine(ok b u q).oP (λc v hc r=>k c v ?_ r) (λc r=>by rw[zl (nown c b r)];exact r) λc xs r=>by rw[zl (ntup c xs r)];exact r
   rcases hc with rfl|hc
   .exact hbe
   .rintro rfl
    rcases he with z|z
    .exact nown c b hc z
    .rw[hc]at z;cases z;exact hb rfl
structure Un(fs ex:PD)(H H':Hp)(h h':Heap):Prop where
 keep:∀b o,h.get? b=some o->H b=none->b∉fs->b∉ex->h'.get? b=some o
 slot:∀b o,h.get? b=some o->H b=none->b∈fs->b∉ex->∃sl,h'.get? b=some { o with slots:=sl }
 free:∀b o,h.get? b=some o->H b=none->b∉ex->H' b=none
 there:∀b o,h.get? b=some o->b∉ex->∃o',h'.get? b=some o'
 oX:∀b xs,H b=some (.tup xs)->H' b=some (.tup xs)
 u7:∀b o u,H b=some (.frz o u)->H' b=some (.frz o u)
 Bn:∀b ps,H b=some (.tbl ps)->∃more,H' b=some (.tbl (ps++more))
section
variable {fs fs' ex ex':PD}{H H1 H2:Hp}{h h1 h2 h':Heap}{a x e:Addr}{o:HO}
def Un.any(u:Un fs ex H H1 h h1)(q:h.get? b=some ob)(n:H b=none)(hx:b∉ex):∃sl,h1.get? b=some { ob with slots:=sl }:=by
 by_cases hb:b∈fs
 .exact u.slot b ob q n hb hx
 .exact⟨ob.slots,u.keep b ob q n hb hx⟩
def Un.kept(k:∀b u,h.get? b=some u->h'.get? b=some u):Un fs ex H H h h':=
 ⟨λb ob q _ _ _=>k b ob q,λb ob q _ _ _=>⟨ob.slots,k b ob q⟩,λ_ _ _ n _=>n,λb ob q _=>⟨ob,k b ob q⟩,λ_ _ q=>q,λ_ _ _ q=>q,λ_ ps q=>⟨#[],by rw[q];simp⟩⟩
def Un.refl:Un fs ex H H h h:=Un.kept λ_ _ q=>q
def Un.laid(k:∀b u,h.get? b=some u->h'.get? b=some u)(hp:h.objs.size<=a)(hn:H a=none):Un fs ex H (upd H a o) h h' where
 keep:=λb u q _ _ _=>k b u q
 slot:=λb u q _ _ _=>⟨u.slots,k b u q⟩
 free:=λb u q n _=>by rw[zl (P6 (P4 (O7 q) hp))];exact n
 there:=λb u q _=>⟨u,k b u q⟩
 oX:=λb xs q=>by rw[zl (zQ q hn)];exact q
 u7:=λb u xs q=>by rw[zl (zQ q hn)];exact q
 Bn:=λb ps q=>⟨#[],by rw[zl (zQ q hn),q];simp⟩
def Un.write(mu:Mut (H x))(he:e=x\/H e=some (.own x))(k:∀b u,b≠e->h.get? b=some u->h'.get? b=some u)(heo:∃u,h'.get? e=some u):Un fs ex H (upd H x o) h h':=by
 have hx:∀b,H b=none->b≠x:=λb n z=>by subst z;rw[n]at mu;exact mu
 have hb:∀b,H b=none->b≠e:=λb n z=>by
  subst z;rcases he with r|r
  .exact hx b n r
  .rw[n]at r;cases r
 have hm:∀b u,H b=some u->¬Mut (some u)->b≠x:=λb u q nm z=>by subst z;rw[q]at mu;exact nm mu
 refine⟨λb u q n _ _=>k b u (hb b n) q,λb u q n _ _=>⟨u.slots,k b u (hb b n) q⟩,λb u q n _=>by rw[zl (hx b n)];exact n,λb u q _=>?_,
  λb xs q=>by rw[zl (hm b _ q λz=>z)];exact q,λb u xs q=>by rw[zl (hm b _ q λz=>z)];exact q,λb ps q=>⟨#[],by rw[zl (hm b _ q λz=>z),q];simp⟩⟩
 by_cases hbe:b=e
 .subst hbe;exact heo
 .exact⟨u,k b u hbe q⟩
end
def trk(h:Heap)(H:Hp):List Addr:=(List.range h.objs.size).filter λa=>(H a).isSome
def u9(h:Heap)(H:Hp):Heap:=PySem.W.hideAll h (trk h H)
def o6(h:Heap)(H:Hp):(u9 h H).objs.size=h.objs.size:=PySem.W.hideAll_size _ _
def u_(e:h.get? b=some o)(n:H b=none):(u9 h H).get? b=some o:=
 PySem.W.hideAll_get _ e λhm=>by have q:(H b).isSome=true:=(List.mem_filter.mp hm).2;rw[n]at q;simp at q
def C3(e:(u9 h H).get? b=some o):h.get? b=some o/\H b=none:=by
 have e':h.get? b=some o:=PySem.W.of_hideAll (trk h H) e;refine⟨e',?_⟩;cases q:H b with
 |none=>rfl
 |some x=>have hm:b∈trk h H:=List.mem_filter.mpr ⟨Λ.mpr (O7 e'),by simp[q]⟩;have z:(u9 h H).get? b=none:=PySem.W.hideAll_none (trk h H) hm;rw[z]at e;cases e
structure Mod(K:OY)(mg:OQ)(base:Heap):Prop where
 kin:K.In base
 glob:base.Ns mainGlobals mg
 blt:∃mb,base.Ns builtinsNs mb/\∀x:Str,x≠"__name__"->mb x=bootBuiltins x
 nolimit:base.NoLimit
structure Cx where
 prog:Program
 w:World
 K:PySem.W.Frag
 mg:Str->Option Value
 base:Heap
 A:Around
 N:List Str
 s₀:Shared
 H₀:Hp
 env:Env
 outer:List Env
 stack:List Env
 ex:List Addr
 fn:Str->Bool
 calm:Bool
 pn:List (Addr×Obj)
 xe:Value->Shared->Prop
abbrev Rm(X:Cx)(x:Str):Prop:=X.fn x=true\/X.env.scope.names.lookup x=some .local
abbrev Rn(x:Str):Prop:=(x==("__debug__":Str))=false
abbrev Ro(X:Cx)(e:Expr)(x:Str)(pos' pos:Pos):Prop:=swapsWith e (some (.Name x pos')) pos.line X.env=pure false
abbrev Rk(X:Cx):=model X.prog X.w
def TB(l:List Env):List Addr:=l.filterMap (·.frame)
abbrev Cx.fs(X:Cx):List Addr:=TB X.outer
def Vis(sc:Scope)(x:Str):Prop:=sc.names.lookup x=some .local\/sc.names.lookup x=some .cell\/sc.names.lookup x=some .free
def Loc(sc:Scope)(x:Str):Prop:=sc.names.lookup x=some .local\/sc.names.lookup x=some .cell
def Look(env:Env)(h:Heap)(m:OQ)(x:Str)(u:Value):Prop:=
 (env.kindOf x=some .local/\m x=some u)\/((env.kindOf x=some .cell\/env.kindOf x=some .free)/\∃c,env.cells.lookup x=some c/\h.IsCell c (some u))
structure Cx.Ok(X:Cx):Prop where
 mod:Mod X.K X.mg X.base
 kind:X.env.scope.kind=.function
 glob:X.env.globals=mainGlobals
 blt:X.env.builtins=builtinsNs
 above:X.s₀.heap.objs.size<=X.env.locals
 inj:∀x y c,X.env.cells.lookup x=some c->X.env.cells.lookup y=some c->x=y
 has:∀x,(X.env.kindOf x=some .cell\/X.env.kindOf x=some .free)->∃c,X.env.cells.lookup x=some c
 cab:∀x c,X.fn x=true->X.env.cells.lookup x=some c->X.s₀.heap.objs.size<=c
 hd:X.calm=true->X.A.handled=none
 frames:X.A.frames=some X.stack
 stk:X.stack=X.outer\/(X.stack=X.env::X.outer/\X.env.frame=some X.env.locals)
 exf:∀b∈X.ex,b≠X.env.locals/\∀x c,X.env.cells.lookup x=some c->c≠b
 bs:∀b o,X.base.get? b=some o->X.s₀.heap.get? b=some o/\X.H₀ b=none
 bsz:X.base.objs.size<=X.s₀.heap.objs.size
 FD:∀b o,X.base.get? b=some o->b∉X.ex
 FE:∀b∈X.ex,b∉X.fs
 g6:X.s₀.heap.FunFrames X.base X.outer
 frf:∀b∈X.fs,X.H₀ b=none
structure Inv(X:Cx)(Sa:OR)(Y:List (Option V))(H:Hp)(s:OV):Prop where
 ok:X.Ok
 os:s.os=X.s₀.os
 bare:AllBare s.gens
 base:Un X.fs X.ex X.H₀ H X.s₀.heap s.heap
 loc:∃m,s.heap.Ns X.env.locals m/\∀(i:Nat)(x:Str)(v:V),X.N[i]?=some x->Y[i]?=some (some v)->Vis X.env.scope x->∃u,RelV v u/\Look X.env s.heap m x u
 cell:∀x c,X.env.cells.lookup x=some c->∃v,s.heap.IsCell c v
 free:H X.env.locals=none
 Wo:∀x c,X.env.cells.lookup x=some c->H c=none
 pin:∀p∈X.pn++Sa,s.heap.get? p.1=some p.2/\H p.1=none/\p.1≠X.env.locals/\p.1∉X.fs/\∀v,p.2.data≠.cell v
 hok:SK X.prog X.w H s.heap
 len:Y.length=X.N.length
section
variable {X:Cx}{Sa:OR}{Y:List (Option V)}{H H':Hp}{s:OV}{h':Heap}
def Cx.Ok.N5(ok:X.Ok)(e:X.base.get? b=some o):b∉X.fs:=λhb=>by have:=(ok.g6.mem hb).1;rw[e]at this;cases this
def Inv.bs(I:Inv X Sa Y H s):∀b o,X.base.get? b=some o->s.heap.get? b=some o/\H b=none:=λb o e=>
 ⟨I.base.keep b o (I.ok.bs b o e).1 (I.ok.bs b o e).2 (I.ok.N5 e) (I.ok.FD b o e),I.base.free b o (I.ok.bs b o e).1 (I.ok.bs b o e).2 (I.ok.FD b o e)⟩
def Inv.bk(I:Inv X Sa Y H s):∀b o,X.base.get? b=some o->s.heap.get? b=some o:=λb o e=>(I.bs b o e).1
def Inv.mod(I:Inv X Sa Y H s):Mod X.K X.mg X.base:=I.ok.mod
def Inv.kIn(I:Inv X Sa Y H s):X.K.In s.heap:=I.ok.mod.kin.keeps I.bk
def Inv.lt(I:Inv X Sa Y H s):X.env.locals<s.heap.objs.size:=let⟨_,hn,_⟩:=I.loc;hn.lt
def Inv.sz(I:Inv X Sa Y H s):X.s₀.heap.objs.size<=s.heap.objs.size:=S6 I.ok.above (a1I I.lt)
def Inv.N6(I:Inv X Sa Y H s)(h:s.heap.objs.size<=a):a∉X.fs:=λhb=>by obtain⟨_,o,ho,_⟩:=I.ok.g6.mem hb;exact absurd (P4 (O7 ho) (S6 I.sz h)) (Κ _)
def Inv.cne(I:Inv X Sa Y H s):∀x c,X.env.cells.lookup x=some c->c≠X.env.locals:=λx c e z=>by obtain⟨v,o,ho,hd⟩:=I.cell x c e;obtain⟨m,⟨o',es,ep,ho',hd',_⟩,_⟩:=I.loc;rw[z,ho']at ho;cases ho;rw[hd']at hd;cases hd
def Inv.g6(I:Inv X Sa Y H s):s.heap.FunFrames X.base X.outer:=by
 have all:∀(l:List Env),(∀b∈TB l,b∈X.fs)->X.s₀.heap.FunFrames X.base l->s.heap.FunFrames X.base l:=by
  intro l
  induction l with
  |nil=>intro _ _;trivial
  |cons env r ih=>intro hs hl;obtain⟨hk,⟨L,o,hf,hn,ho,hd⟩,hr⟩:=hl;have hL:L∈X.fs:=hs L (by unfold TB;rw[a1T,hf];exact O0);obtain⟨sl,e⟩:=I.base.slot L o ho (I.ok.frf L hL) hL λz=>I.ok.FE L z hL;exact⟨hk,⟨L,_,hf,hn,e,hd⟩,ih (λb hb=>hs b (by unfold TB;rw[a1T,hf];exact O4 _ hb)) hr⟩
 exact all X.outer (λ_ hb=>hb) I.ok.g6
def Inv.stack(I:Inv X Sa Y H s):s.heap.FunFrames X.base X.stack:=by
 rcases I.ok.stk with e|⟨e,hf⟩
 .rw[e];exact I.g6
 .rw[e];obtain⟨m,hn,_⟩:=I.loc;refine .cons (by rw[I.ok.kind];decide) hf hn ?_ I.g6;exact Heap.get?_none_of_le (S6 I.ok.bsz I.ok.above)
def Inv.bK(I:Inv X Sa Y H s):∀b∈TB X.stack,b∈X.env.locals::X.fs:=λb hb=>by
 rcases I.ok.stk with e|⟨e,hf⟩
 .rw[e]at hb;exact O4 _ hb
 .rw[e]at hb;unfold TB at hb;rw[a1T,hf]at hb;exact hb
def Inv.cA(I:Inv X Sa Y H s):∀b∈TB X.stack,H b=none:=λb hb=>by
 rcases P9.mp (I.bK b hb)with e|hb
 .rw[e];exact I.free
 .obtain⟨_,o,ho,_⟩:=I.ok.g6.mem hb;exact I.base.free b o ho (I.ok.frf b hb) λz=>I.ok.FE b z hb
def Inv.step{g':Array GenState}{t':Nat}{d':Drawn}{ch:PD}(I:Inv X Sa Y H s)(hch:∀b∈ch,(b∈X.ex\/X.s₀.heap.objs.size<=b)/\b≠X.env.locals/\(∀x c,X.env.cells.lookup x=some c->c≠b)/\∀p∈X.pn++Sa,p.1≠b)(keep:∀b o,b≠X.env.locals->b∉X.fs->b∉ch->s.heap.get? b=some o->H b=none->h'.get? b=some o)(slot:∀b o,b≠X.env.locals->b∈X.fs->b∉ch->s.heap.get? b=some o->H b=none->∃sl,h'.get? b=some { o with slots:=sl })(free:∀b o,b∉ch->s.heap.get? b=some o->H b=none->H' b=none)(there:∀b o,b∉ch->s.heap.get? b=some o->∃o',h'.get? b=some o')(oX:∀b xs,H b=some (.tup xs)->H' b=some (.tup xs))(u7:∀b o u,H b=some (.frz o u)->H' b=some (.frz o u))(Bn:∀b ps,H b=some (.tbl ps)->∃more,H' b=some (.tbl (ps++more)))(ns:∀m,s.heap.Ns X.env.locals m->h'.Ns X.env.locals m)(hok:SK X.prog X.w H' h')(hg:AllBare g'):
  Inv X Sa Y H' { s with heap:=h',gens:=g',drawn:=d',toks:=t' }:=by
 have neL:∀b o,X.s₀.heap.get? b=some o->b≠X.env.locals:=λb o e=>P6 (P4 (O7 e) I.ok.above);have neC:∀b o,X.s₀.heap.get? b=some o->b∉X.ex->b∉ch:=λb o e hx hb=>by
  rcases(hch b hb).1 with z|z
  .exact hx z
  .exact absurd (P4 (O7 e) z) (Κ _)
 have cellK:∀x c,X.env.cells.lookup x=some c->∀v,s.heap.IsCell c v->h'.IsCell c v:=λx c e v ⟨o,ho,hd⟩=>by
  have nch:c∉ch:=λz=>(hch c z).2.2.1 x c e rfl;by_cases hc:c∈X.fs
  .obtain⟨sl,q⟩:=slot c o (I.cne x c e) hc nch ho (I.Wo x c e);exact⟨_,q,hd⟩
  .exact⟨o,keep c o (I.cne x c e) hc nch ho (I.Wo x c e),hd⟩
 refine⟨I.ok,I.os,hg,⟨λb o e n hb hx=>?_,λb o e n hb hx=>?_,λb o e n hx=>?_,λb o e hx=>?_,λb xs e=>oX b xs (I.base.oX b xs e),λb o xs e=>u7 b o xs (I.base.u7 b o xs e),λb ps e=>?_⟩,?_,λx c e=>?_,?_,λx c e=>?_,λp hp=>?_,hok,I.len⟩
 .exact keep b o (neL b o e) hb (neC b o e hx) (I.base.keep b o e n hb hx) (I.base.free b o e n hx)
 .obtain⟨sl,e1⟩:=I.base.slot b o e n hb hx;obtain⟨sl',e2⟩:=slot b _ (neL b o e) hb (neC b o e hx) e1 (I.base.free b o e n hx);exact⟨sl',e2⟩
 .obtain⟨o',e1⟩:=I.base.there b o e hx;exact free b o' (neC b o e hx) e1 (I.base.free b o e n hx)
 .obtain⟨o',e1⟩:=I.base.there b o e hx;exact there b o' (neC b o e hx) e1
 .obtain⟨m1,e1⟩:=I.base.Bn b ps e;obtain⟨m2,e2⟩:=Bn b _ e1;exact⟨m1++m2,by rw[e2,Array.append_assoc]⟩
 .obtain⟨m,hn,hl⟩:=I.loc;refine⟨m,ns m hn,λi x v e1 e2 e3=>?_⟩;obtain⟨u,r,l⟩:=hl i x v e1 e2 e3;refine⟨u,r,?_⟩;rcases l with l|⟨k,c,e,z⟩
  .exact .inl l
  .exact .inr ⟨k,c,e,cellK x c e _ z⟩
 .obtain⟨v,z⟩:=I.cell x c e;exact⟨v,cellK x c e v z⟩
 .obtain⟨m,⟨o,_,_,ho,_⟩,_⟩:=I.loc;exact free _ o (λz=>(hch _ z).2.1 rfl) ho I.free
 .obtain⟨v,o,ho,hd⟩:=I.cell x c e;exact free c o (λz=>(hch c z).2.2.1 x c e rfl) ho (I.Wo x c e)
 .obtain⟨e,n,ne,nf,d⟩:=I.pin p hp;have nch:p.1∉ch:=λz=>(hch p.1 z).2.2.2 p hp rfl;exact⟨keep p.1 p.2 ne nf nch e n,free p.1 p.2 nch e n,ne,nf,d⟩
def Inv.un(I:Inv X Sa Y H s)(u:Un X.fs [] H H' s.heap h')(hok:SK X.prog X.w H' h'):Inv X Sa Y H' { s with heap:=h',toks:=t' }:=by
 obtain⟨m,⟨o,es,ep,ho,r⟩,_⟩:=id I.loc;obtain⟨sl,hL⟩:=u.any ho I.free (by simp);exact I.step (g':=s.gens) (d':=s.drawn) (ch:=[]) (λ_ z=>nomatch z) (λb o _ hb _ e n=>u.keep b o e n hb (by simp)) (λb o _ hb _ e n=>u.slot b o e n hb (by simp)) (λb o _ e n=>u.free b o e n (by simp)) (λb o _ e=>u.there b o e (by simp)) u.oX u.u7 u.Bn (λm' hm=>by
  obtain⟨o',es',ep',ho',r'⟩:=hm;rw[ho]at ho';cases ho';exact⟨_,es',ep',hL,r'⟩) hok I.bare
def Inv.call(I:Inv X Sa Y H s)(u:Un (TB X.stack) ch H H' s.heap h')(hok:SK X.prog X.w H' h')(hg:AllBare g')(hch:∀b∈ch,(b∈X.ex\/X.s₀.heap.objs.size<=b)/\b≠X.env.locals/\(∀x c,X.env.cells.lookup x=some c->c≠b)/\∀p∈X.pn++Sa,p.1≠b):
  Inv X Sa Y H' { s with heap:=h',gens:=g',drawn:=d',toks:=t' }:=by
 obtain⟨m,⟨o,es,ep,ho,r⟩,_⟩:=id I.loc;obtain⟨sl,hL⟩:=u.any ho I.free λz=>(hch _ z).2.1 rfl;exact I.step (ch:=ch) hch (λb o hL hb hc e n=>u.keep b o e n (λz=>(P9.mp (I.bK b z)).elim hL hb) hc) (λb o _ _ hc e n=>u.any e n hc) (λb o hc e n=>u.free b o e n hc) (λb o hc e=>u.there b o e hc) u.oX u.u7 u.Bn (λm' hm=>by
  obtain⟨o',es',ep',ho',r'⟩:=hm;rw[ho]at ho';cases ho';exact⟨_,es',ep',hL,r'⟩) hok hg
def Inv.turned(I:Inv X Sa Y H s)(k:∀b o,b≠it->s.heap.get? b=some o->h'.get? b=some o)(hn:H it=none)(hL:it≠X.env.locals)(h1:it∈X.ex\/X.s₀.heap.objs.size<=it)(h2:∀x c,X.env.cells.lookup x=some c->c≠it)(h3:∀p∈X.pn++Sa,p.1≠it):Inv X Sa Y H { s with heap:=h',toks:=t' }:=by
 have nit:∀b u,H b=some u->b≠it:=λb u e z=>by rw[z,hn]at e;cases e
 refine I.step (g':=s.gens) (d':=s.drawn) (ch:=[it]) (λb hb=>?_) (λb o _ _ hc e _=>k b o (λz=>hc (by simp[z])) e) (λb o _ _ hc e _=>⟨o.slots,k b o (λz=>hc (by simp[z])) e⟩) (λ_ _ _ _ n=>n)
  (λb o hc e=>⟨o,k b o (λz=>hc (by simp[z])) e⟩) (λ_ _ e=>e) (λ_ _ _ e=>e) (λb ps e=>⟨#[],by rw[e];simp⟩) (λm hm=>?_) (λb u e=>?_) I.bare
 .have e:b=it:=by simpa using hb
  subst e;exact⟨h1,hL,h2,h3⟩
 .obtain⟨o,es,ep,ho,r⟩:=hm;exact⟨o,es,ep,k _ o (Ne.symm hL) ho,r⟩
 .refine(I.hok b u e).oP (λc v hc q=>k c v ?_ q) (λ_ q=>q) λ_ _ q=>q;rcases hc with z|z
  .rw[z];exact nit b u e
  .exact nit c _ z
def Inv.tok(I:Inv X Sa Y H s)(t:Nat):Inv X Sa Y H { s with toks:=t }:=I.un (h':=s.heap) (t':=t) Un.refl I.hok
def Inv.kept(I:Inv X Sa Y H s)(k:∀b u,s.heap.get? b=some u->h'.get? b=some u):Inv X Sa Y H { s with heap:=h',toks:=t' }:=I.un (Un.kept k) (I.hok.kept k)
def Inv.laid(I:Inv X Sa Y H s)(k:∀b u,s.heap.get? b=some u->h'.get? b=some u)(hp:s.heap.objs.size<=a)(new:ql X.prog X.w (upd H a o) h' a o):
  Inv X Sa Y (upd H a o) { s with heap:=h',toks:=t' }:=I.un (Un.laid k hp (I.hok.fresh hp)) (I.hok.laid k hp new)
def Inv.write(I:Inv X Sa Y H s)(mu:Mut (H x))(he:e=x\/H e=some (.own x))(k:∀b u,b≠e->s.heap.get? b=some u->h'.get? b=some u)(heo:∃u,h'.get? e=some u)(new:ql X.prog X.w (upd H x o) h' x o):Inv X Sa Y (upd H x o) { s with heap:=h',toks:=t' }:=I.un (Un.write mu he k heo) (I.hok.write mu he k heo new)
def Inv.cB(I:Inv X Sa Y H s)(h:∀p∈pins',s.heap.get? p.1=some p.2/\H p.1=none/\p.1≠X.env.locals/\p.1∉X.fs/\∀v,p.2.data≠.cell v):Inv X pins' Y H s:=
 ⟨I.ok,I.os,I.bare,I.base,I.loc,I.cell,I.free,I.Wo,λp hp=>(T8.mp hp).elim (λz=>I.pin p (a0L _ z)) (h p),I.hok,I.len⟩
def lE{N:OP}(hN:N.Nodup){i j:Nat}{x:Str}(a:N[i]?=some x)(b:N[j]?=some x):i=j:=by obtain⟨h1,e1⟩:=P8.mp a;obtain⟨h2,e2⟩:=P8.mp b;exact(List.getElem_inj hN).mp (e1.trans e2.symm)
def d9(I:Inv X Sa Y H s)(hN:X.N.Nodup)(hi:X.N[i]?=some x)(hx:Loc X.env.scope x)(r:RelV v u)(h:∀s',Inv X Sa (Y.set i (some v)) H s'->(∃a,Heap.SameBut a s.heap s'.heap/\(a=X.env.locals\/X.env.cells.lookup x=some a))->Q () s')(hf:Rm X x:=by first|exact .inl rfl|exact .inr rfl|assumption):wpAny M A (storeName X.env x u) Q E s:=by
 obtain⟨m,hn,hl⟩:=id I.loc;have hcls:(X.env.scope.kind == .class||(X.env.scope.kind == .module&&X.env.locals != X.env.globals))=false:=by rw[I.ok.kind];rfl
 have hiσ:i<Y.length:=by rw[I.len];exact(P8.mp hi).1
 have cne:=I.cne;have tracked:∀{a:Addr}{h':Heap},(∃o,s.heap.get? a=some o/\H a=none)->Heap.SameBut a s.heap h'->SK X.prog X.w H h':=λ{a h'} ha hs b ob e=>by
  obtain⟨_,_,hfree⟩:=ha;refine(I.hok b ob e).oP (λc w' hc q=>(hs.2 c ?_).trans q) (λ_ q=>q) λ_ _ q=>q
  rintro rfl
  rcases hc with rfl|hc
  .rw[hfree]at e;cases e
  .rw[hfree]at hc;cases hc
 rcases hx with hk|hk
 .refine wpAny_storeName_local hk hn (λh' hn' hs=>?_) hcls;obtain⟨oL,_,_,hoL,_⟩:=id hn;refine h _ ⟨I.ok,I.os,I.bare,⟨λb o e n hb hx=>?_,λb o e n hb hx=>?_,I.base.free,λb o e hx=>?_,I.base.oX,I.base.u7,I.base.Bn⟩,⟨_,hn',λj y v' e1 e2 e3=>?_⟩,λy c e=>?_,I.free,I.Wo,λp hp=>?_,tracked ⟨oL,hoL,I.free⟩ hs,by simpa using I.len⟩ ⟨_,hs,.inl rfl⟩
  .exact(hs.2 b (P6 (P4 (O7 e) I.ok.above))).trans (I.base.keep b o e n hb hx)
  .obtain⟨sl,e1⟩:=I.base.slot b o e n hb hx;exact⟨sl,(hs.2 b (P6 (P4 (O7 e) I.ok.above))).trans e1⟩
  .obtain⟨o',e1⟩:=I.base.there b o e hx;exact⟨o',(hs.2 b (P6 (P4 (O7 e) I.ok.above))).trans e1⟩
  .by_cases hj:j=i
   .subst hj;rw[hi]at e1;cases e1;rw[T5 hiσ]at e2;cases e2;exact⟨u,r,.inl ⟨hk,by simp⟩⟩
   .rw[S8 (Ne.symm hj)]at e2;obtain⟨u',r',q⟩:=hl j y v' e1 e2 e3;refine⟨u',r',?_⟩;rcases q with⟨k,e⟩|⟨k,c,e,z⟩
    .refine .inl ⟨k,?_⟩;have:y≠x:=λe=>hj (lE hN e1 (e▸hi));simp[this,e]
    .exact .inr ⟨k,c,e,z.sameBut hs (cne y c e)⟩
  .obtain⟨w',z⟩:=I.cell y c e;exact⟨w',z.sameBut hs (cne y c e)⟩
  .obtain⟨e,n,ne,nf,d⟩:=I.pin p hp;exact⟨(hs.2 p.1 ne).trans e,n,ne,nf,d⟩
 .have hfn:X.fn x=true:=by
   rcases hf with z|z
   .exact z
   .rw[z]at hk;cases hk
  obtain⟨c,hc⟩:=I.ok.has x (.inl hk);obtain⟨w',z⟩:=I.cell x c hc;refine wpAny_storeName_cell I.ok.kind hk hc z (λh' hc' hs=>?_);obtain⟨oc,hoc,hocd⟩:=id z;refine h { s with heap:=h' } ⟨I.ok,I.os,I.bare,⟨λb o e n hb hx=>?_,λb o e n hb hx=>?_,I.base.free,λb o e hx=>?_,I.base.oX,I.base.u7,I.base.Bn⟩,⟨m,hn.sameBut hs (Ne.symm (cne x c hc)),λj y v' e1 e2 e3=>?_⟩,λy c' e=>?_,I.free,I.Wo,λp hp=>?_,tracked ⟨oc,hoc,I.Wo x c hc⟩ hs,by simpa using I.len⟩ ⟨c,hs,.inr hc⟩
  .exact(hs.2 b (P6 (P4 (O7 e) (I.ok.cab x c hfn hc)))).trans (I.base.keep b o e n hb hx)
  .obtain⟨sl,e1⟩:=I.base.slot b o e n hb hx;exact⟨sl,(hs.2 b (P6 (P4 (O7 e) (I.ok.cab x c hfn hc)))).trans e1⟩
  .obtain⟨o',e1⟩:=I.base.there b o e hx;exact⟨o',(hs.2 b (P6 (P4 (O7 e) (I.ok.cab x c hfn hc)))).trans e1⟩
  .by_cases hj:j=i
   .subst hj;rw[hi]at e1;cases e1;rw[T5 hiσ]at e2;cases e2;exact⟨u,r,.inr ⟨.inl hk,c,hc,hc'⟩⟩
   .rw[S8 (Ne.symm hj)]at e2;obtain⟨u',r',q⟩:=hl j y v' e1 e2 e3;refine⟨u',r',?_⟩;rcases q with q|⟨k,c',e,z'⟩
    .exact .inl q
    .refine .inr ⟨k,c',e,z'.sameBut hs ?_⟩
     rintro rfl
     exact hj (lE hN e1 (I.ok.inj _ _ _ e hc▸hi))
  .by_cases hcc:c'=c
   .subst hcc;exact⟨_,hc'⟩
   .obtain⟨w2,z2⟩:=I.cell y c' e;exact⟨w2,z2.sameBut hs hcc⟩
  .obtain⟨e,n,ne,nf,d⟩:=I.pin p hp;refine⟨(hs.2 p.1 ?_).trans e,n,ne,nf,d⟩;intro q;rw[q,hoc]at e;have q':oc=p.2:=ν e;exact d w' (by rw[<- q'];exact hocd)
def Q2(I:Inv X Sa Y H s)(hN:X.N.Nodup)(hi:X.N[i]?=some x)(hx:Loc X.env.scope x)(r:RelV v u)(h:∀s',Inv X Sa (Y.set i (some v)) H s'->Q () s')(hf:Rm X x:=by first|exact .inl rfl|exact .inr rfl|assumption):wpAny M A (storeName X.env x u) Q E s:=
 d9 I hN hi hx r (λs' I' _=>h s' I') hf
def Inv.FJ(I:Inv X Sa Y H s)(ho:s'.os=s.os)(u:Un (TB X.stack) ch H H' s.heap s'.heap)(hok:SK X.prog X.w H' s'.heap)(hg:AllBare s'.gens)(hch:∀b∈ch,(b∈X.ex\/X.s₀.heap.objs.size<=b)/\b≠X.env.locals/\(∀x c,X.env.cells.lookup x=some c->c≠b)/\∀p∈X.pn++Sa,p.1≠b):Inv X Sa Y H' s':=by
 obtain⟨h',g',d',t',o'⟩:=s';have e:o'=s.os:=ho;subst e;exact I.call (g':=g') (t':=t') (d':=d') u hok hg hch
end
abbrev XK:=Value->Option Addr->Hp->Prop
abbrev St:=List (Option V)
abbrev VK:=V->Hp->Prop
abbrev TE:=St->Hp->VK->Prop
abbrev TT:=St->Hp->(Bool->Hp->Prop)->Prop
abbrev TA:=St->Hp->(List V->Hp->Prop)->Prop
structure Ends where
 nx:St->Hp->Prop
 rt:VK
 bk:St->Hp->Prop:=λ_ _=>False
 ct:St->Hp->Prop:=λ_ _=>False
abbrev TS:=Ends->St->Hp->Prop
def EP(X:Cx)(Sa:OR)(Y:St)(Q:VK)(u:Value)(s':OV):Prop:=∃v H',Inv X Sa Y H' s'/\RelV v u/\Q v H'
def TP(X:Cx)(Sa:OR)(Y:St)(Q:Bool->Hp->Prop)(b:Bool)(s':OV):Prop:=∃H',Inv X Sa Y H' s'/\Q b H'
def AP(X:Cx)(Sa:OR)(Y:St)(Q:List V->Hp->Prop)(us:OZ)(s':OV):Prop:=∃vs H',Inv X Sa Y H' s'/\Vals vs us/\Q vs H'
def SP(X:Cx)(Sa:OR)(D:Ends)(f:Flow)(s':OV):Prop:=
 match f with
 |.next=>∃Y' H',Inv X Sa Y' H' s'/\D.nx Y' H'
 |.brk=>∃Y' H',Inv X Sa Y' H' s'/\D.bk Y' H'
 |.cont=>∃Y' H',Inv X Sa Y' H' s'/\D.ct Y' H'
 |.ret u=>∃v Y' H',Inv X Sa Y' H' s'/\RelV v u/\D.rt v H'
def PE(X:Cx)(e:Pc)(t:TE):Prop:=
 ∀(Sa:OR)(s:OV)(Y:St)(H:Hp)(Q:VK),Inv X Sa Y H s->t Y H Q->wpAny (Rk X) X.A (eval e X.env) (EP X Sa Y Q) X.xe s
def PT(X:Cx)(e:Pc)(t:TT):Prop:=
 ∀(Sa:OR)(s:OV)(Y:St)(H:Hp)(Q:Bool->Hp->Prop),Inv X Sa Y H s->t Y H Q->wpAny (Rk X) X.A (isTrue e X.env (eval e X.env)) (TP X Sa Y Q) X.xe s
def PW(X:Cx)(e:Pc)(t:TT):Prop:=
 ∀(whole:Sem Value)(Sa:OR)(s:OV)(Y:St)(H:Hp)(Q:Bool->Hp->Prop),Inv X Sa Y H s->t Y H Q->wpAny (Rk X) X.A (isTrue e X.env whole) (TP X Sa Y Q) X.xe s
def PW.pt(h:PW X e t):PT X e t:=h _
def PA(X:Cx)(es:OX)(t:TA):Prop:=
 ∀(pos:Pos)(Sa:OR)(s:OV)(Y:St)(H:Hp)(Q:List V->Hp->Prop),Inv X Sa Y H s->t Y H Q->wpAny (Rk X) X.A (spliced (backTo pos (starEach es X.env))) (AP X Sa Y Q) X.xe s
def PS(X:Cx)(st:PB)(t:TS):Prop:=
 ∀(Sa:OR)(s:OV)(Y:St)(H:Hp)(D:Ends),Inv X Sa Y H s->t D Y H->wpAny (Rk X) X.A (exec st X.env) (SP X Sa D) X.xe s
def TR(X:Cx)(st:Pt)(t:TS):Prop:=
 ∀(Sa:OR)(s:OV)(Y:St)(H:Hp)(D:Ends),Inv X Sa Y H s->t D Y H->wpAny (Rk X) X.A (execs st X.env) (SP X Sa D) X.xe s
def Sk{α:Type}{t:Sem α}{Q Q':α->Shared->Prop}(h:wpAny M A t Q E s)(hQ:∀a s,Q a s->Q' a s):wpAny M A t Q' E s:=Tg h hQ λ_ _ x=>x
section
variable {X:Cx}
def nC(i:Nat):TE:=λY H Q=>∃v,Y[i]?=some (some v)/\Q v H
def tC(v:V):TE:=λ_ H Q=>Q v H
def FK(hN:X.N[i]?=some x)(hv:Vis X.env.scope x)(hd:Rn x:=by decide)(hcd:(x==("__classdict__":Str))=false:=by decide):PE X (.Name x pos) (nC i):=by
 intro Sa s Y H Q I h;obtain⟨v,e,h⟩:=h;obtain⟨m,hn,hl⟩:=I.loc;obtain⟨u,r,l⟩:=hl i x v hN e hv;have fin:EP X Sa Y Q u s:=⟨v,H,I,r,h⟩;rcases l with⟨hk,hm⟩|⟨hk,c,hc,hcell⟩
 .exact wpAny_Name (a2N I.ok.kind hk hn hm fin) hd
 .rcases hk with hk|hk
  .exact wpAny_Name (a2Z I.ok.kind hk hc hcell fin) hd
  .exact wpAny_Name (wpAny_loadName_free I.ok.kind hk hc hcell fin hcd) hd
def FL{i j pos}:PE X (.Constant (.int i) j pos) (tC (.int i)):=λ_ _ _ H _ I h=>wpAny_Constant_int ⟨.int i,H,I.tok _,⟨_,rfl⟩,h⟩
def Y2{b j pos}:PE X (.Constant (.bool b) j pos) (tC (.bl b)):=λ_ _ _ H _ I h=>Constant_bool ⟨.bl b,H,I,rfl,h⟩
def KD{j pos}:PE X (.Constant .none j pos) (tC .non):=λ_ _ _ H _ I h=>Constant_none ⟨.non,H,I,rfl,h⟩
def ZA{x j pos}:PE X (.Constant (.str x) j pos) (tC (.str x)):=λ_ _ _ H _ I h=>Calls.Constant_str ⟨.str x,H,I.tok _,⟨_,rfl⟩,h⟩
def Gl(X:Cx)(x:Str):Prop:=X.env.kindOf x=some .globalImplicit
def JZ(I:Inv X Sa Y H s)(hg:Gl X x)(hm:X.mg x=some u)(h:Q u s)(hd:Rn x:=by decide):wpAny (Rk X) X.A (eval (.Name x pos) X.env) Q E s:=
 a1Z I.ok.kind hg (Calls.loadGlobal_global (by rw[I.ok.glob];exact I.mod.glob.keeps I.bk) hm h) hd
def bL(I:Inv X Sa Y H s)(hg:Gl X x)(hm:X.mg x=none)(hv:bootBuiltins x=some u)(h:Q u s)(hn:x≠"__name__":=by decide)(hd:Rn x:=by decide):wpAny (Rk X) X.A (eval (.Name x pos) X.env) Q E s:=by
 obtain⟨mb,h1,h2⟩:=I.mod.blt;exact a1Z I.ok.kind hg (Calls.loadGlobal_builtin (by rw[I.ok.glob];exact I.mod.glob.keeps I.bk) hm (by rw[I.ok.blt];exact h1.keeps I.bk) ((h2 x hn).trans hv) h) hd
def zC(hg:Gl X x)(hm:X.mg x=some u)(r:RelV v u)(hd:Rn x:=by decide):PE X (.Name x pos) (tC v):=
 λ_ _ _ H _ I h=>JZ I hg hm ⟨v,H,I,r,h⟩ hd
def Ua(hg:Gl X x)(hm:X.mg x=none)(hv:bootBuiltins x=some u)(r:RelV v u)(hn:x≠"__name__":=by decide)(hd:Rn x:=by decide):PE X (.Name x pos) (tC v):=
 λ_ _ _ H _ I h=>bL I hg hm hv ⟨v,H,I,r,h⟩ hn hd
variable {a b:Pc}{ta tb:TE}{pos:Pos}
def cC(b:Pc)(h:op≠.In)(h2:op≠.NotIn):behindInMarks op b=false:=by
 have e1:(op==CmpOp.In)=false:=by cases op<;>first|rfl|exact absurd rfl h
 have e2:(op==CmpOp.NotIn)=false:=by cases op<;>first|rfl|exact absurd rfl h2
 cases b<;>simp[behindInMarks,e1,e2]
def tB(t:TE):TT:=λY H Q=>t Y H λx H1=>∃c,x=.bl c/\Q c H1
def Bw(h:PE X e t)(he:∀whole,isTrue e X.env whole=(do let v<-whole;standAt e.pos;holding [v] (truthy v)):=by intro _;rfl):PT X e (tB t):=by intro Sa s Y H Q I hw;refine isTrue_plain (Sk (h Sa s Y H _ I hw) λv s1 ⟨x,H1,I1,r1,q1⟩=>?_) (he _);obtain⟨d,rfl,q⟩:=q1;cases r1;exact a1v ⟨H1,I1,q⟩
variable {tA tB':TT}{rest:OX}
def N7(t u:TT):TT:=λY H Q=>t Y H λc H1=>if c=true then u Y H1 Q else Q false H1
def tOr(t u:TT):TT:=λY H Q=>t Y H λc H1=>if c=true then Q true H1 else u Y H1 Q
def N8(t:TT):TT:=λY H Q=>t Y H λc H1=>Q (!c) H1
def ε(ha:PT X a tA):PW X (.BoolOp .And [a] pos) tA:=by
 intro wh Sa s Y H Q I h;refine isTrue_and (Sk (ha Sa s Y H Q I h) λc s1 e=>?_);cases c with
 |true=>exact isTrue_and_nil e
 |false=>exact e
def Ϟ(ha:PT X a tA):PW X (.BoolOp .Or [a] pos) tA:=by
 intro wh Sa s Y H Q I h;refine isTrue_or (Sk (ha Sa s Y H Q I h) λc s1 e=>?_);cases c with
 |false=>exact isTrue_or_nil e
 |true=>exact e
def Η(ha:PT X a tA)(hb:PW X (.BoolOp .And (b::rest) pos) tB'):PW X (.BoolOp .And (a::b::rest) pos) (N7 tA tB'):=by
 intro wh Sa s Y H Q I h;refine isTrue_and (Sk (ha Sa s Y H _ I h) λc s1 ⟨H1,I1,q1⟩=>?_);cases c with
 |true=>exact hb wh Sa s1 Y H1 Q I1 q1
 |false=>exact⟨H1,I1,q1⟩
def pw_or(ha:PT X a tA)(hb:PW X (.BoolOp .Or (b::rest) pos) tB'):PW X (.BoolOp .Or (a::b::rest) pos) (tOr tA tB'):=by
 intro wh Sa s Y H Q I h;refine isTrue_or (Sk (ha Sa s Y H _ I h) λc s1 ⟨H1,I1,q1⟩=>?_);cases c with
 |true=>exact⟨H1,I1,q1⟩
 |false=>exact hb wh Sa s1 Y H1 Q I1 q1
def Bx(ha:PT X a tA):PT X (.UnaryOp .Not a pos) (N8 tA):=by intro Sa s Y H Q I h;exact isTrue_not (ha Sa s Y H (λc H1=>Q (!c) H1) I h)
def LB(ta tb:TE):TE:=λY H Q=>ta Y H λx H1=>∃c,x=.bl c/\if c=true then tb Y H1 Q else Q (.bl false) H1
def N9(ta tb:TE):TE:=λY H Q=>ta Y H λx H1=>∃c,x=.bl c/\if c=true then Q (.bl true) H1 else tb Y H1 Q
def FN{op}(h:PE X a t):PE X (.BoolOp op [a] pos) t:=λSa s Y H Q I hw=>BoolOp_one (h Sa s Y H Q I hw)
def FO(ha:PE X a ta)(hb:PE X (.BoolOp .And (b::rest) pos) tb):PE X (.BoolOp .And (a::b::rest) pos) (LB ta tb):=by
 intro Sa s Y H Q I h;refine BoolOp_and (Sk (ha Sa s Y H _ I h) λv s1 ⟨x,H1,I1,r1,q1⟩=>?_);obtain⟨c,rfl,q1⟩:=q1;cases r1;refine a1v ?_;cases c with
 |true=>exact hb Sa s1 Y H1 Q I1 q1
 |false=>exact⟨.bl false,H1,I1,rfl,q1⟩
def LD(ha:PE X a ta)(hb:PE X (.BoolOp .Or (b::rest) pos) tb):PE X (.BoolOp .Or (a::b::rest) pos) (N9 ta tb):=by
 intro Sa s Y H Q I h;refine BoolOp_or (Sk (ha Sa s Y H _ I h) λv s1 ⟨x,H1,I1,r1,q1⟩=>?_);obtain⟨c,rfl,q1⟩:=q1;cases r1;refine a1v ?_;cases c with
 |false=>exact hb Sa s1 Y H1 Q I1 q1
 |true=>exact⟨.bl true,H1,I1,rfl,q1⟩
def tIf(t:TT)(ta tb:TE):TE:=λY H Q=>t Y H λc H1=>if c=true then ta Y H1 Q else tb Y H1 Q
def xa(hc:PT X c tA)(ha:PE X a ta)(hb:PE X b tb):PE X (.IfExp c a b pos) (tIf tA ta tb):=by
 intro Sa s Y H Q I h;refine wpAny_IfExp (Sk (hc Sa s Y H _ I h) λd s1 ⟨H1,I1,q1⟩=>?_);cases d with
 |true=>exact ha Sa s1 Y H1 Q I1 q1
 |false=>exact hb Sa s1 Y H1 Q I1 q1
end
def Sq(K:OY)(H:Hp)(a:Addr)(xs:Pa):Prop:=
 Rd H a (.lst xs)\/
  ∃(o:Obj)(Sf:PQ)(n:Nat),K.lookup a=some o/\o.cls=.type "list"/\o.dict=none/\o.data=.seq Sf n/\Sf.size<=sizeLine/\Vals xs Sf.toList
def SN(K:OY)(H:Hp)(a:Addr)(xs:Pa):Prop:=
 Rd H a (.tup xs)\/
  ∃(o:Obj)(Sf:PQ)(n:Nat),K.lookup a=some o/\o.cls=.type "tuple"/\o.data=.seq Sf n/\Sf.size<=sizeLine/\Vals xs Sf.toList
def N_:Value->Option V
 |.none=>some .non
 |.bool b=>some (.bl b)
 |.int i _=>some (.int i)
 |.str x _=>some (.str x)
 |.bytes b _=>some (.byt b)
 |.float b _=>some (.flt b)
 |.ref a=>some (.ref a)
 |.type n=>some (.ty n)
 |_=>none
def RelV.abs(r:RelV x u):N_ u=some x:=by
 cases x with
 |non=>cases r;rfl
 |bl _=>cases r;rfl
 |int _=>obtain⟨t,rfl⟩:=r;rfl
 |str _=>obtain⟨t,rfl⟩:=r;rfl
 |byt _=>obtain⟨t,rfl⟩:=r;rfl
 |flt _=>obtain⟨t,rfl⟩:=r;rfl
 |ref _=>cases r;rfl
 |ty _=>cases r;rfl
def RelV.inj(r:RelV x u)(q:RelV y u):x=y:=ν (r.abs.symm.trans q.abs)
def Vals.inj:∀{xs ys:Pa}{us:OZ},Vals xs us->Vals ys us->xs=ys
 |_,_,_,.nil,.nil=>rfl
 |_,_,_,.cons r t,.cons r' t'=>by rw[r.inj r',Vals.inj t t']
def Sq.of{K:OY}(h:H a=some (.lst xs)):Sq K H a xs:=.inl (.inl h)
def SN.of{K:OY}(h:H a=some (.tup xs)):SN K H a xs:=.inl (.inl h)
def Inv.list(I:Inv X Sa Y H s)(h:Sq X.K H a xs):∃Sf:List Value,Vals xs Sf/\PlainL s.heap a Sf.toArray/\xs.length<=sizeLine:=by
 rcases h with h|⟨o,Sf,n,hk,hc,hd,hs,hz,r⟩
 .obtain⟨z,Sf,n,r,e⟩:=h.ok I.hok;exact⟨Sf,r,⟨_,n,e,rfl,rfl,rfl⟩,z⟩
 .refine⟨Sf.toList,r,⟨o,n,I.kIn a o hk,hc,hd,by simpa using hs⟩,?_⟩;have e:=r.length;simp only[Array.length_toList]at e;omega
def Inv.tuple(I:Inv X Sa Y H s)(h:SN X.K H a xs):∃Sf:List Value,Vals xs Sf/\IsTup s.heap a Sf.toArray/\xs.length<=sizeLine:=by
 rcases h with h|⟨o,Sf,n,hk,hc,hs,hz,r⟩
 .obtain⟨z,Sf,r,p⟩:=h.ok I.hok;exact⟨Sf,r,p,z⟩
 .refine⟨Sf.toList,r,⟨o,I.kIn a o hk,hc,n,by simpa using hs⟩,?_⟩;have e:=r.length;simp only[Array.length_toList]at e;omega
def Inv.xb(I:Inv X Sa Y H s)(h:Sq X.K H a xs)(h':Sq X.K H a ys):xs=ys:=by
 obtain⟨Sf,r,⟨o,n,e,_,_,d⟩,_⟩:=I.list h;obtain⟨its',r',⟨o',n',e',_,_,d'⟩,_⟩:=I.list h';rw[e]at e';cases e';rw[d]at d';injection d' with d1 _
 have:Sf=its':=by simpa using SS Array.toList d1
 subst this;exact r.inj r'
def Inv.d_(I:Inv X Sa Y H s)(h:SN X.K H a xs)(h':SN X.K H a ys):xs=ys:=by
 obtain⟨Sf,r,⟨o,e,_,n,d⟩,_⟩:=I.tuple h;obtain⟨its',r',⟨o',e',_,n',d'⟩,_⟩:=I.tuple h';rw[e]at e';cases e';rw[d]at d';injection d' with d1 _
 have:Sf=its':=by simpa using SS Array.toList d1
 subst this;exact r.inj r'
abbrev Cx.d7(X:Cx)(E:OT):Cx:={ X with xe:=E }
abbrev Cx.nox(X:Cx):Cx:=X.d7 λ_ _=>False
def Cx.Ok.d7{X:Cx}(ok:X.Ok)(E:OT):(X.d7 E).Ok:=
 ⟨ok.mod,ok.kind,ok.glob,ok.blt,ok.above,ok.inj,ok.has,ok.cab,ok.hd,ok.frames,ok.stk,ok.exf,ok.bs,ok.bsz,ok.FD,ok.FE,ok.g6,ok.frf⟩
def Cx.Ok.Y3{X:Cx}{E:OT}(ok:(X.d7 E).Ok):X.Ok:=
 ⟨ok.mod,ok.kind,ok.glob,ok.blt,ok.above,ok.inj,ok.has,ok.cab,ok.hd,ok.frames,ok.stk,ok.exf,ok.bs,ok.bsz,ok.FD,ok.FE,ok.g6,ok.frf⟩
def Inv.d7(I:Inv X Sa Y H s)(E:OT):Inv (X.d7 E) Sa Y H s:=⟨I.ok.d7 E,I.os,I.bare,I.base,I.loc,I.cell,I.free,I.Wo,I.pin,I.hok,I.len⟩
def Inv.Y3(I:Inv (X.d7 E) Sa Y H s):Inv X Sa Y H s:=⟨I.ok.Y3,I.os,I.bare,I.base,I.loc,I.cell,I.free,I.Wo,I.pin,I.hok,I.len⟩
def SP.Y3(h:SP (X.d7 E) Sa D f s'):SP X Sa D f s':=by
 cases f with
 |next=>obtain⟨Y',H',I,q⟩:=h;exact⟨Y',H',I.Y3,q⟩
 |brk=>obtain⟨Y',H',I,q⟩:=h;exact⟨Y',H',I.Y3,q⟩
 |cont=>obtain⟨Y',H',I,q⟩:=h;exact⟨Y',H',I.Y3,q⟩
 |ret u=>obtain⟨v,Y',H',I,r,q⟩:=h;exact⟨v,Y',H',I.Y3,r,q⟩
section
variable {X:Cx}{st:PB}{rest:Pt}{t u:TS}{e:Pc}{te:TE}{pos:Pos}
def LF:TS:=λD Y H=>D.nx Y H
def LH(t u:TS):TS:=λD Y H=>t { D with nx:=u D } Y H
def o7:TR X [] LF:=λ_ _ Y H _ I h=>a06 ⟨Y,H,I,h⟩
def XG(h1:PS X st t)(h2:TR X rest u):TR X (st::rest) (LH t u):=by
 intro Sa s Y H D I h;refine a2d (Sk (h1 Sa s Y H { D with nx:=u D } I h) λf s1 q=>?_);cases f with
 |next=>obtain⟨Y',H',I',q⟩:=q;exact h2 Sa s1 Y' H' D I' q
 |ret v=>exact q
 |brk=>exact q
 |cont=>exact q
def kQ(h1:PS X st t):TR X [st] t:=by
 intro Sa s Y H D I h;refine a2d (Sk (h1 Sa s Y H D I h) λf s1 q=>?_);cases f with
 |next=>exact a06 q
 |ret v=>exact q
 |brk=>exact q
 |cont=>exact q
def Inv.quiet(I:Inv X Sa Y H s):interactive X.env=false:=by simp[interactive,I.ok.kind]
def LJ(te:TE):TS:=λD Y H=>te Y H λ_ H1=>D.nx Y H1
def J3(he:PE X e te)(hs:swapsWith e none pos.line X.env=pure false:=by rfl):PS X (.Expr e pos) (LJ te):=by intro Sa s Y H D I h;exact wpAny_Expr_any (Sk (he Sa s Y H _ I h) λv s1 ⟨x,H1,I1,r1,q1⟩=>⟨Y,H1,I1,q1⟩) I.quiet hs
def Oa(te:TE):TS:=λD Y H=>te Y H D.rt
def lF(he:PE X e te):PS X (.Return (some e) pos) (Oa te):=by intro Sa s Y H D I h;exact wpAny_Return_some (Sk (he Sa s Y H _ I h) λv s1 ⟨x,H1,I1,r1,q1⟩=>⟨x,Y,H1,I1,r1,q1⟩)
def Ob(c:TT)(t u:TS):TS:=λD Y H=>c Y H λb H1=>if b=true then t D Y H1 else u D Y H1
def FP(hc:PT X c tc)(ha:TR X a t)(hb:TR X b u):PS X (.If c a b pos) (Ob tc t u):=by
 intro Sa s Y H D I h;refine wpAny_If (Sk (hc Sa s Y H _ I h) λd s1 ⟨H1,I1,q1⟩=>?_);cases d with
 |true=>exact ha Sa s1 Y H1 D I1 q1
 |false=>exact hb Sa s1 Y H1 D I1 q1
end
abbrev TG:=V->St->Hp->(St->Hp->Prop)->Prop
abbrev TGs:=List V->St->Hp->(St->Hp->Prop)->Prop
def PG(X:Cx)(target:Pc)(t:TG):Prop:=
 ∀(Sa:OR)(s:OV)(Y:St)(H:Hp)(v:V)(u:Value)(Q:St->Hp->Prop),Inv X Sa Y H s->RelV v u->t v Y H Q->
  wpAny (Rk X) X.A (assign target X.env u) (λ_ s'=>∃Y' H',Inv X Sa Y' H' s'/\Q Y' H') X.xe s
def PGs(X:Cx)(ts:OX)(t:TGs):Prop:=
 ∀(Sa:OR)(s:OV)(Y:St)(H:Hp)(vs:Pa)(us:OZ)(Q:St->Hp->Prop),Inv X Sa Y H s->Vals vs us->t vs Y H Q->
  wpAny (Rk X) X.A (assignInOrder ((assignEach ts X.env).map (·.2)) us) (λ_ s'=>∃Y' H',Inv X Sa Y' H' s'/\Q Y' H') X.xe s
abbrev TIp:=V->V->Hp->VK->Prop
def PIp(X:Cx)(op:Operator)(t:TIp):Prop:=
 ∀(Sa:OR)(s:OV)(Y:St)(H:Hp)(x y:V)(v u:Value)(Q:VK),Inv X Sa Y H s->RelV x v->RelV y u->t x y H Q->
  wpAny (Rk X) X.A (inplaceOp op v u) (EP X Sa Y Q) X.xe s
section
variable {X:Cx}{pos:Pos}
def g7(i:Nat):TG:=λv Y H Q=>Q (Y.set i (some v)) H
def o8(hN:X.N.Nodup)(hi:X.N[i]?=some x)(hx:Loc X.env.scope x)(hf:Rm X x:=by first|exact .inl rfl|exact .inr rfl|assumption):PG X (.Name x pos) (g7 i):=by intro Sa s Y H v u Q I r h;exact wpAny_assign_Name (Q2 I hN hi hx r (λs' I'=>⟨_,H,I',h⟩) hf)
def Oc:TGs:=λvs Y H Q=>vs=[]/\Q Y H
def LK(t:TG)(u:TGs):TGs:=λvs Y H Q=>∃v r,vs=v::r/\t v Y H λY' H'=>u r Y' H' Q
def o9:PGs X [] Oc:=by intro Sa s Y H vs us Q I r h;obtain⟨e,h⟩:=h;subst e;cases r;exact assignInOrder_nil ⟨Y,H,I,h⟩
def lG(h1:PG X e t)(h2:PGs X es u)(hs:(assignEach (e::es) X.env).map (·.2)=assign e X.env::(assignEach es X.env).map (·.2):=by rfl):PGs X (e::es) (LK t u):=by
 intro Sa s Y H vs us Q I r h;obtain⟨v,vr,e1,h⟩:=h;subst e1;cases r with
 |cons r rr=>rw[hs];refine assignInOrder_cons (Sk (h1 Sa s Y H _ _ _ I r h) λ_ s1 ⟨σ1,H1,I1,q1⟩=>?_);exact h2 Sa s1 σ1 H1 _ _ Q I1 rr q1
def Od(K:OY)(n:Nat)(t:TGs):TG:=λv Y H Q=>∃a xs,v=.ref a/\SN K H a xs/\xs.length=n/\t xs Y H Q
def By(hc:X.calm=true)(h:PGs X es t)(hn:(assignEach es X.env).length=n:=by rfl)(hst:(assignEach es X.env).findIdx? (·.1)=none:=by rfl):PG X (.Tuple es k pos) (Od X.K n t):=by
 intro Sa s Y H v u Q I r hw;obtain⟨a,xs,e1,hq,hl,hw⟩:=hw;subst e1;cases r;obtain⟨Sf,rv,ht,hz⟩:=I.tuple hq;refine assign_Tuple_tuple (I.ok.hd hc) ht (by simp[hn,<- hl,rv.length]) hst λh' hx=>?_;have I1:Inv X Sa Y H { s with heap:=h' }:=I.kept (t':=s.toks) λb o e=>hx b o (P6 (O7 e)) e;exact h Sa _ Y H xs _ Q I1 (by simpa using rv) hw
def Fq(te:TE)(g:TG):TS:=λD Y H=>te Y H λx H1=>g x Y H1 D.nx
def Bz(he:PE X e te)(hg:PG X tg g)(hs:swapsWithSole [tg] e pos.line X.env=pure false:=by rfl)(hw:swappedStores [tg] e X.env=pure none:=by rfl)(h1:(assignEach [tg] X.env).map (·.2)=[assign tg X.env]:=by rfl):PS X (.Assign [tg] e pos) (Fq te g):=by
 intro Sa s Y H D I h;refine wpAny_Assign_stores (Sk (he Sa s Y H _ I h) λv s1 ⟨x,H1,I1,r1,q1⟩=>?_) hs hw;rw[h1];exact Sk (hg Sa s1 Y H1 x v _ I1 r1 q1) λ_ s2 q=>q
def o_(hN:X.N.Nodup)(hi:X.N[i]?=some x)(hx:Loc X.env.scope x)(he:PE X e te)(hs:Ro X e x pos' pos:=by rfl)(hf:Rm X x:=by first|exact .inl rfl|exact .inr rfl|assumption):
  PS X (.Assign [.Name x pos'] e pos) (Fq te (g7 i)):=by
 intro Sa s Y H D I h;refine wpAny_Assign_Name (Sk (he Sa s Y H _ I h) λv s1 ⟨y,H1,I1,r1,q1⟩=>?_) hs;exact Q2 I1 hN hi hx r1 (λs2 I2=>⟨_,H1,I2,q1⟩) hf
def Oe(i:Nat)(te:TE)(ti:TIp):TS:=λD Y H=>∃x,Y[i]?=some (some x)/\te Y H λy H1=>ti x y H1 λz H2=>D.nx (Y.set i (some z)) H2
def FQ(hN:X.N.Nodup)(hi:X.N[i]?=some x)(hx:Loc X.env.scope x)(he:PE X e te)(ho:PIp X op ti)(hf:Rm X x:=by first|exact .inl rfl|exact .inr rfl|assumption):
  PS X (.AugAssign (.Name x pos') op e pos) (Oe i te ti):=by
 intro Sa s Y H D I h;obtain⟨v,e1,h⟩:=h;obtain⟨m,hn,hl⟩:=I.loc;have vis:Vis X.env.scope x:=by rcases hx with k|k;exact .inl k;exact .inr (.inl k)
 obtain⟨u,r,l⟩:=hl i x v hi e1 vis;refine wpAny_AugAssign_Name ?_;have go:wpAny (Rk X) X.A (eval e X.env) (λw s₂=>wpAny (Rk X) X.A (inplaceOp op u w) (λr s₃=>wpAny (Rk X) X.A (storeName X.env x r) (λ_=>SP X Sa D .next) X.xe s₃) X.xe s₂) X.xe s:=by refine Sk (he Sa s Y H _ I h) λw s1 ⟨y,H1,I1,r1,q1⟩=>?_;refine Sk (ho Sa s1 Y H1 v y u w _ I1 r r1 q1) λz s2 ⟨zv,H2,I2,r2,q2⟩=>?_;exact Q2 I2 hN hi hx r2 (λs3 I3=>⟨_,H2,I3,q2⟩) hf
 rcases l with⟨hk,hm⟩|⟨hk,c,hc,hcell⟩
 .exact a2N I.ok.kind hk hn hm go
 .rcases hk with hk|hk
  .exact a2Z I.ok.kind hk hc hcell go
  .rcases hx with k|k
   .have:X.env.scope.names.lookup x=some .free:=hk;rw[k]at this;cases this
   .have:X.env.scope.names.lookup x=some .free:=hk;rw[k]at this;cases this
def ipI(f:Int->Int->Int):TIp:=λx y H Q=>∃i j,x=.int i/\y=.int j/\Q (.int (f i j)) H
def FR:PIp X .Add (ipI λi j=>i+j):=by intro Sa s Y H x y v u Q I r1 r2 h;obtain⟨i,j,e1,e2,q⟩:=h;subst e1;subst e2;obtain⟨t,rfl⟩:=r1;obtain⟨t',rfl⟩:=r2;exact iadd_int ⟨.int _,H,I.tok _,⟨_,rfl⟩,q⟩
def BA(c:TT)(tb:TS):TS:=λD Y H=>∃W:Nat->St->Hp->Prop,(∃m,W m Y H)/\∀m Y H,W m Y H->
 c Y H λb H1=>if b=true then ∃N:St->Hp->Prop,(∀Y' H',N Y' H'->∃m',m'<m/\W m' Y' H')/\tb { D with nx:=N,ct:=N,bk:=D.nx } Y H1 else D.nx Y H1
def xf(hp:PassesOwn (Rk X) X.A X.env X.xe)(hc:PT X c tc)(hb:TR X body tb):PS X (.While c body [] pos) (BA tc tb):=by
 intro Sa s Y H D I h;obtain⟨W,⟨m0,w0⟩,turn⟩:=h;refine wpAny_While (codeAny_whileLoop (λn s'=>∃Y' H',Inv X Sa Y' H' s'/\W n Y' H') ?_ m0 ⟨Y,H,I,w0⟩)
 rintro n s1 ⟨σ1,H1,I1,w1⟩
 refine ϫ hp (Sk (hc Sa s1 σ1 H1 _ I1 (turn n σ1 H1 w1)) λb s2 ⟨H2,I2,q2⟩=>?_);cases b with
 |true=>
  obtain⟨N,hN,q2⟩:=q2;rw[if_pos rfl];refine ϫ hp (Sk (hb Sa s2 σ1 H2 _ I2 q2) λf s3 q3=>?_);cases f with
  |next=>obtain⟨σ3,H3,I3,n3⟩:=q3;obtain⟨m',hm,w3⟩:=hN σ3 H3 n3;exact⟨m',hm,σ3,H3,I3,w3⟩
  |cont=>obtain⟨σ3,H3,I3,n3⟩:=q3;obtain⟨m',hm,w3⟩:=hN σ3 H3 n3;exact⟨m',hm,σ3,H3,I3,w3⟩
  |brk=>exact q3
  |ret v=>exact q3
 |false=>rw[if_neg P5];exact a06 ⟨σ1,H2,I2,q2⟩
end
structure It where
 go:Nat->Hp->Prop
 yld:Nat->Hp->V->Hp->Prop
 stop:Nat->Hp->Prop
def nE(X:Cx)(Sa:OR)(H:Hp)(b:Addr):Prop:=
 H b=none/\b≠X.env.locals/\b∉X.fs/\(b∈X.ex\/X.s₀.heap.objs.size<=b)/\(∀x c,X.env.cells.lookup x=some c->c≠b)/\∀p∈X.pn++Sa,p.1≠b
def Inv.Fs(I:Inv X Sa Y H s)(hb:s.heap.objs.size<=b)(hn:H' b=none):nE X Sa H' b:=by
 refine⟨hn,Ϧ (P4 I.lt hb),I.N6 hb,.inr (S6 I.sz hb),λx c e z=>?_,λp hp z=>?_⟩
 .obtain⟨v,q⟩:=I.cell x c e;exact absurd (P4 q.lt (by rw[z];exact hb)) (Κ _)
 .exact absurd (P4 (O7 (I.pin p hp).1) (by rw[z];exact hb)) (Κ _)
structure Turn(P:Pg)(w:Pk)(K:OY)(tg:Pc)(J:It)(fp:PD)(it:Addr)(tn:Nat->Heap->Prop):Prop where
 mem:it∈fp
 obj:∀i h,tn i h->∀b∈fp,∃o,h.get? b=some o/\∀v,o.data≠.cell v
 keep:∀i h h',tn i h->(∀b∈fp,∀o,h.get? b=some o->h'.get? b=some o)->tn i h'
 item:∀(X:Cx),X.prog=P->X.w=w->X.K=K->X.calm=true->∀(i:Nat)(Sa:OR)(s:OV)(Y:St)(H:Hp)(E:OT),Inv X Sa Y H s->(∀b∈fp,nE X Sa H b)->tn i s.heap->J.go i H->
  wpAny (model P w) X.A (pyNext (.ref it)) (λr s1=>∃u,r=some u/\ wpAny (model P w) X.A (letOwnedTupleGo tg (.ref it) u) (λ_ s2=>∃x H',Inv X Sa Y H' s2/\RelV x u/\J.yld i H x H'/\tn (i+1) s2.heap/\∀b∈fp,H' b=none) E s1) E s
 done:∀(X:Cx),X.prog=P->X.w=w->X.K=K->X.calm=true->∀(i:Nat)(Sa:OR)(s:OV)(Y:St)(H:Hp)(E:OT),Inv X Sa Y H s->(∀b∈fp,nE X Sa H b)->tn i s.heap->J.stop i H->
  wpAny (model P w) X.A (pyNext (.ref it)) (λr s1=>r=none/\Inv X Sa Y H s1) E s
 self:∀(A:Po)(i:Nat)(s:OV)(Q:OT)(E:OT),tn i s.heap->Q (.ref it) s->wpAny (model P w) A (pyIter (.ref it)) Q E s
abbrev TI:=St->Hp->(It->Hp->Prop)->Prop
def PIE(X:Cx)(Sa:OR)(Y:St)(tg:Pc)(R:It->Hp->Prop)(itv:Value)(s2:OV):Prop:=
 ∃(it:Addr)(fp:PD)(tn:Nat->Heap->Prop)(J:It)(H':Hp),itv=.ref it/\Inv X Sa Y H' s2/\Turn X.prog X.w X.K tg J fp it tn/\tn 0 s2.heap/\(∀b∈fp,nE X Sa H' b)/\R J H'
def PI(X:Cx)(tg jD:Pc)(wi:TI):Prop:=
 ∀(Sa:OR)(s:OV)(Y:St)(H:Hp)(R:It->Hp->Prop),Inv X Sa Y H s->wi Y H R->
  wpAny (Rk X) X.A (eval jD X.env) (λv s1=>wpAny (Rk X) X.A (pyIter v) (PIE X Sa Y tg R) X.xe s1) X.xe s
def C4(ho:s.heap.get? it=some o)(hc:o.cls=.type n)(hd:o.data=.fields vs)(hn:["enumerate","zip","dict_itemiterator","dict_reverseitemiterator","odict_iterator","itertools.zip_longest","itertools.pairwise"].contains n=false)(hQ:Q () s):wpAny M A (letOwnedTupleGo tg (.ref it) u) Q E s:=by
  unfold letOwnedTupleGo;cases tg<;>first
    |exact O5 hQ
    | (cases u<;>first
        |exact O5 hQ
        | (refine f8 (a2O ho ?_)
           rw[hc,hd];show wpAny M A (if(["enumerate","zip","dict_itemiterator","dict_reverseitemiterator","odict_iterator","itertools.zip_longest","itertools.pairwise"].contains n&&vs[0]?==some (rawInt _))=true then _ else _) Q E s;rw[if_neg (by intro h;rw[hn,Bool.false_and]at h;cases h)];exact O5 hQ))
def Itl(K:OY)(a:Addr):It:=
 ⟨λi H=>∃xs x,Sq K H a xs/\xs[i]?=some x,λi H x H'=>H'=H/\∀xs,Sq K H a xs->xs[i]?=some x,λi H=>∃xs,Sq K H a xs/\xs.length<=i⟩
def Itt(K:OY)(a:Addr):It:=
 ⟨λi H=>∃xs x,SN K H a xs/\xs[i]?=some x,λi H x H'=>H'=H/\∀xs,SN K H a xs->xs[i]?=some x,λi H=>∃xs,SN K H a xs/\xs.length<=i⟩
def Itr(lo:Int)(n:Nat):It:=⟨λi _=>i<n,λi H x H'=>H'=H/\x=.int (lo+i),λi _=>n<=i⟩
def pb{P:Pg}{w:Pk}{K:OY}{tg:Pc}(a it:Addr):Turn P w K tg (Itl K a) [it] it (λi h=>h.IsListIter it a i)where
 mem:=by simp
 obj:=λi h st b hb=>by
  have e:b=it:=by simpa using hb
  subst e;obtain⟨o,e,c,d⟩:=st;exact⟨o,e,λv z=>by rw[d]at z;cases z⟩
 keep:=λi h h' st k=>st.at λo e=>k it (by simp) o e
 item:=by intro X hP hw hK hc i Sa s Y H E I hf st hg;subst hP hw hK;obtain⟨xs,x,hq,hx⟩:=hg;obtain⟨Sf,rv,p,hz⟩:=I.list hq;obtain⟨u,hu,ru⟩:=rv.get hx;obtain⟨f0,f1,f2,f3,f4,f5⟩:=hf it (by simp);refine wpAny_pyNext_list_item st p.isList (x:=u) (by simpa using hu) λh' st' sb=>?_;have I1:Inv X Sa Y H { s with heap:=h' }:=I.turned (t':=s.toks) (λb o hb e=>(sb.2 b hb).trans e) f0 f1 f3 f4 f5;obtain⟨o,e,c,d⟩:=id st';exact⟨u,rfl,C4 (s:={ s with heap:=h' }) e c d (by decide) ⟨x,H,I1,ru,⟨rfl,λys hy=>by rw[I.xb hy hq];exact hx⟩,st',λb hb=>(hf b hb).1⟩⟩
 done:=by intro X hP hw hK hc i Sa s Y H E I hf st hg;subst hP hw hK;obtain⟨xs,hq,hx⟩:=hg;obtain⟨Sf,rv,p,hz⟩:=I.list hq;obtain⟨f0,f1,f2,f3,f4,f5⟩:=hf it (by simp);have hl:=rv.length;exact wpAny_pyNext_list_end (I.ok.hd hc) st p.isList (by simp;omega) λh' eb=>⟨rfl,I.turned (t':=s.toks) (λb o hb e=>eb b o hb e) f0 f1 f3 f4 f5⟩
 self:=λ_ _ _ _ _ st h=>wpAny_pyIter_listiter st h
def nF{P:Pg}{w:Pk}{K:OY}{tg:Pc}(a it:Addr):Turn P w K tg (Itt K a) [it] it (λi h=>h.IsTupleIter it a i)where
 mem:=by simp
 obj:=λi h st b hb=>by
  have e:b=it:=by simpa using hb
  subst e;obtain⟨o,e,c,d⟩:=st;exact⟨o,e,λv z=>by rw[d]at z;cases z⟩
 keep:=λi h h' st k=>st.at λo e=>k it (by simp) o e
 item:=by intro X hP hw hK hc i Sa s Y H E I hf st hg;subst hP hw hK;obtain⟨xs,x,hq,hx⟩:=hg;obtain⟨Sf,rv,p,hz⟩:=I.tuple hq;obtain⟨u,hu,ru⟩:=rv.get hx;obtain⟨f0,f1,f2,f3,f4,f5⟩:=hf it (by simp);refine wpAny_pyNext_tuple_item st (show s.heap.IsTuple a Sf.toArray from p) (x:=u) (by simpa using hu) λh' st' sb=>?_;have I1:Inv X Sa Y H { s with heap:=h' }:=I.turned (t':=s.toks) (λb o hb e=>(sb.2 b hb).trans e) f0 f1 f3 f4 f5;obtain⟨o,e,c,d⟩:=id st';exact⟨u,rfl,C4 (s:={ s with heap:=h' }) e c d (by decide) ⟨x,H,I1,ru,⟨rfl,λys hy=>by rw[I.d_ hy hq];exact hx⟩,st',λb hb=>(hf b hb).1⟩⟩
 done:=by intro X hP hw hK hc i Sa s Y H E I hf st hg;subst hP hw hK;obtain⟨xs,hq,hx⟩:=hg;obtain⟨Sf,rv,p,hz⟩:=I.tuple hq;obtain⟨f0,f1,f2,f3,f4,f5⟩:=hf it (by simp);have hl:=rv.length;exact wpAny_pyNext_tuple_end (I.ok.hd hc) st (show s.heap.IsTuple a Sf.toArray from p) (by simp;omega) λh' eb=>⟨rfl,I.turned (t':=s.toks) (λb o hb e=>eb b o hb e) f0 f1 f3 f4 f5⟩
 self:=λ_ _ _ _ _ st h=>wpAny_pyIter_tupleiter st h
def nG{P:Pg}{w:Pk}{K:OY}{tg:Pc}(it:Addr)(lo:Int)(n:Nat):Turn P w K tg (Itr lo n) [it] it (λi h=>IsRangeIter h it (lo+(i:Nat)*1) ((n:Int)-(i:Nat)) 1)where
 mem:=by simp
 obj:=λi h st b hb=>by
  have e:b=it:=by simpa using hb
  subst e;exact⟨_,st,λv z=>by
   have z':Data.fields _=Data.cell v:=z;cases z'⟩
 keep:=λi h h' st k=>k it (by simp) _ st
 item:=by intro X hP hw hK hc i Sa s Y H E I hf st hg;subst hP hw hK;obtain⟨f0,f1,f2,f3,f4,f5⟩:=hf it (by simp);have W:=Walks.range (prog:=X.prog) (w:=X.w) (I.ok.hd hc) it lo 1 n;refine W.item i s _ _ hg st λv h' tk hv st' kk=>?_;obtain⟨t,rfl⟩:=hv;have I1:Inv X Sa Y H { s with heap:=h',toks:=tk }:=I.turned (λb o hb e=>kk b o (by simpa using hb) e) f0 f1 f3 f4 f5;refine⟨_,rfl,C4 (s:={ s with heap:=h',toks:=tk }) (n:="range_iterator") st' rfl rfl (by decide) ⟨.int (lo+i),H,I1,⟨t,?_⟩,⟨rfl,rfl⟩,st',λb hb=>(hf b hb).1⟩⟩;rw[Int.mul_one]
 done:=by intro X hP hw hK hc i Sa s Y H E I hf st hg;subst hP hw hK;obtain⟨f0,f1,f2,f3,f4,f5⟩:=hf it (by simp);exact wpAny_pyNext_range_end (I.ok.hd hc) st (by have:n<=i:=hg;omega) λh' eb=>⟨rfl,I.turned (t':=s.toks) (λb o hb e=>eb b o hb e) f0 f1 f3 f4 f5⟩
 self:=λ_ _ _ _ _ st h=>wpAny_pyIter_rangeiter st h
section
variable {X:Cx}{tg:Pc}
def xg{Sa:OR}{Y:St}{H:Hp}{s:OV}{R:It->Hp->Prop}{E:OT}{lo hi:Int}{t u v:Tok}{tk:Nat}(I:Inv X Sa Y H s)(h1:-(2 ^ 62)<=lo)(h2:lo<2 ^ 62)(h3:-(2 ^ 62)<=hi)(h4:hi<2 ^ 62)(q:R (Itr lo (hi-lo).toNat) H):wpAny (Rk X) X.A (pyIter (.ref s.heap.objs.size)) (PIE X Sa Y tg R) E { s with heap:=s.heap.push { cls:=.type "range",data:=.fields #[.int lo t,.int hi u,.int 1 v] },toks:=tk }:=by
 refine wpAny_pyIter_range (IsRange.new ..) (small_one h1 h2 h3 h4) ?_;have I1:Inv X Sa Y H { s with heap:=s.heap.push { cls:=.type "range",data:=.fields #[.int lo t,.int hi u,.int 1 v] },toks:=tk }:=I.kept λb o e=>O3 _ e;refine⟨(s.heap.push { cls:=.type "range",data:=.fields #[.int lo t,.int hi u,.int 1 v] }).objs.size,[(s.heap.push { cls:=.type "range",data:=.fields #[.int lo t,.int hi u,.int 1 v] }).objs.size],_,_,H,rfl,
  I1.kept (t':=tk) λb o e=>O3 _ e,nG _ lo (hi-lo).toNat,?_,λb hb=>?_,q⟩
 .have e1:lo+((0:Nat):Int)*1=lo:=by simp
  have e2:(((hi-lo).toNat:Nat):Int)-((0:Nat):Int)=Builtin.Range.rangeSize lo hi 1:=by rw[rangeSize_one];split<;>omega
  show IsRangeIter _ _ (lo+((0:Nat):Int)*1) ((((hi-lo).toNat:Nat):Int)-((0:Nat):Int)) 1;rw[e1,e2];exact S5 _ rfl
 .have e:b=(s.heap.push { cls:=.type "range",data:=.fields #[.int lo t,.int hi u,.int 1 v] }).objs.size:=by simpa using hb
  subst e;exact I1.Fs (O2 _) (I1.hok.fresh (O2 _))
def LL(ta:TA):TI:=λY H R=>ta Y H λvs H1=>∃j:Int,vs=[.int j]/\-(2 ^ 62)<=j/\j<2 ^ 62/\R (Itr 0 j.toNat) H1
def pd(hg:Gl X "range")(hm:X.mg "range"=none)(ha:PA X [a] ta)(hs:starEach [a] X.env=[(false,eval a X.env)]:=by rfl):PI X tg (.Call (.Name "range" p) [a] [] pos) (LL ta):=by
 intro Sa s Y H R I h;refine Call_ (bL I hg hm boot_range (a1j (Sk (ha pos Sa s Y H _ I h) λus s1 ⟨vs,H1,I1,r1,q1⟩=>?_) hs rfl));obtain⟨j,e,q1,q2,q⟩:=q1;subst e;cases r1 with
 |cons r rr=>cases rr;obtain⟨t,rfl⟩:=r;exact call_range_1 (xg I1 (by omega) (by omega) q1 q2 (by simpa using q))
def IY(wi:TI)(g:TG)(tb:TS):TS:=λD Y H=>wi Y H λJ H1=>∃W:Nat->Nat->St->Hp->Prop,(∃m,W 0 m Y H1)/\∀i m Y H,W i m Y H->
 (J.stop i H/\D.nx Y H)\/(J.go i H/\∃N:St->Hp->Prop,(∀Y' H',N Y' H'->∃m',m'<m/\W (i+1) m' Y' H')/\∀x H',J.yld i H x H'->g x Y H' λσ2 H2=>tb { D with nx:=N,ct:=N,bk:=D.nx } σ2 H2)
def ej(fp:PD)(h:Heap):List (Addr×Obj):=fp.filterMap λb=>(h.get? b).map λo=>(b,o)
def Q3(hb:b∈fp)(e:h.get? b=some o):(b,o)∈ej fp h:=a26.mpr ⟨b,hb,by rw[e];rfl⟩
def pe(hp:p∈ej fp h):p.1∈fp/\h.get? p.1=some p.2:=by
 obtain⟨b,hb,e⟩:=a26.mp hp;cases q:h.get? b with
 |none=>rw[q]at e;cases e
 |some o=>rw[q]at e;have e':(b,o)=p:=ν e;subst e';exact⟨hb,q⟩
def Inv.pinned(I:Inv X Sa Y H s)(hf:∀b∈fp,nE X Sa H b)(ho:∀b∈fp,∃o,s.heap.get? b=some o/\∀v,o.data≠.cell v):Inv X (Sa++ej fp s.heap) Y H s:=
 I.cB λp hp=>(T8.mp hp).elim (λz=>I.pin p (R8 _ z)) λz=>by obtain⟨hb,e⟩:=pe z;obtain⟨f0,f1,f2,_⟩:=hf p.1 hb;obtain⟨o,e',d⟩:=ho p.1 hb;rw[e]at e';cases e';exact⟨e,f0,f1,f2,d⟩
def Inv.wm(I:Inv X (Sa++pl) Y H s):Inv X Sa Y H s:=I.cB λp hp=>I.pin p (R8 _ (a0L _ hp))
def pf(hp:PassesOwn (Rk X) X.A X.env X.xe)(hc:X.calm=true)(hi:PI X tg jD wi)(hg:PG X tg g)(hb:TR X body tb)(hs:∀x,foldedSetIterable jD X.env x=pure x:=by intro _;rfl):PS X (.For tg jD body [] pos) (IY wi g tb):=by
 intro Sa s Y H D I h;refine wpAny_For (Sk (hi Sa s Y H _ I h) λv s1 h1=>Sk h1 λitv s2 h2=>?_) hs;obtain⟨it,fp,tn,J,H2,e,I2,T,st2,f2,W,⟨m0,w0⟩,turn⟩:=h2;subst e
 have stat:∀{H':Hp},(∀b∈fp,H' b=none)->∀b∈fp,nE X Sa H' b:=λhn b hb=>⟨hn b hb,(f2 b hb).2⟩;refine codeAny_forLoop_any (λn s'=>∃i Y' H',Inv X Sa Y' H' s'/\tn i s'.heap/\(∀b∈fp,H' b=none)/\W i n Y' H') ?_ m0 ⟨0,Y,H2,I2,st2,λb hb=>(f2 b hb).1,w0⟩
 rintro n s3 ⟨i,σ3,H3,I3,st3,fr3,w3⟩
 rcases turn i n σ3 H3 w3 with⟨stop,qn⟩|⟨go,N,hN,step⟩
 .refine ϫ hp (Sk (T.done X rfl rfl rfl hc i Sa s3 σ3 H3 X.xe I3 (stat fr3) st3 stop) λr s4 ⟨hr,I4⟩=>?_);subst hr;exact a06 ⟨σ3,H3,I4,qn⟩
 .refine ϫ hp (Sk (T.item X rfl rfl rfl hc i Sa s3 σ3 H3 X.xe I3 (stat fr3) st3 go) λr s4 ⟨u,hr,h4⟩=>?_);subst hr;refine ϫ hp (Sk h4 λ_ s5 ⟨x,H5,I5,r5,y5,st5,fr5⟩=>?_);have I5':=I5.pinned (stat fr5) (T.obj _ _ st5);refine ϫ hp (Sk (hg _ s5 σ3 H5 x u _ I5' r5 (step x H5 y5)) λ_ s6 ⟨σ6,H6,I6,q6⟩=>?_);refine ϫ hp (Sk (hb _ s6 σ6 H6 _ I6 q6) λf s7 q7=>?_);have again:∀{σ7:St}{H7:Hp},Inv X (Sa++ej fp s5.heap) σ7 H7 s7->N σ7 H7->∃m,m<n/\∃i Y' H',Inv X Sa Y' H' s7/\tn i s7.heap/\(∀b∈fp,H' b=none)/\W i m Y' H':=λ{σ7 H7} I7 n7=>by obtain⟨m',hm,w7⟩:=hN σ7 H7 n7;refine⟨m',hm,i+1,σ7,H7,I7.wm,T.keep _ _ _ st5 λb hb o e=>(I7.pin (b,o) (R8 _ (R8 _ (Q3 hb e)))).1,λb hb=>?_,w7⟩;obtain⟨o,e,d⟩:=T.obj _ _ st5 b hb;exact(I7.pin (b,o) (R8 _ (R8 _ (Q3 hb e)))).2.1
  cases f with
  |next=>obtain⟨σ7,H7,I7,n7⟩:=q7;exact again I7 n7
  |cont=>obtain⟨σ7,H7,I7,n7⟩:=q7;exact again I7 n7
  |brk=>obtain⟨σ7,H7,I7,q7⟩:=q7;exact⟨σ7,H7,I7.wm,q7⟩
  |ret v=>obtain⟨x7,σ7,H7,I7,r7,q7⟩:=q7;exact⟨x7,σ7,H7,I7.wm,r7,q7⟩
end
abbrev R2:=V->V->Hp->VK->Prop
def Sx(X:Cx)(f:Value->Value->Sem Value)(r:R2):Prop:=
 ∀(Sa:OR)(s:OV)(Y:St)(H:Hp)(x y:V)(v u:Value)(Q:VK),Inv X Sa Y H s->RelV x v->RelV y u->r x y H Q->
  wpAny (Rk X) X.A (f v u) (EP X Sa Y Q) X.xe s
def UnR(X:Cx)(f:Value->Sem Value)(r:V->Hp->VK->Prop):Prop:=
 ∀(Sa:OR)(s:OV)(Y:St)(H:Hp)(x:V)(v:Value)(Q:VK),Inv X Sa Y H s->RelV x v->r x H Q->
  wpAny (Rk X) X.A (f v) (EP X Sa Y Q) X.xe s
def ZV(X:Cx)(f:Value)(r:List V->Hp->VK->Prop):Prop:=
 ∀(Sa:OR)(s:OV)(Y:St)(H:Hp)(xs:Pa)(us:OZ)(Q:VK),Inv X Sa Y H s->Vals xs us->r xs H Q->
  wpAny (Rk X) X.A (call f us) (EP X Sa Y Q) X.xe s
def Ϲ(r:R2)(ta tb:TE):TE:=λY H Q=>ta Y H λx H1=>tb Y H1 λy H2=>r x y H2 Q
def tUn(r:V->Hp->VK->Prop)(ta:TE):TE:=λY H Q=>ta Y H λx H1=>r x H1 Q
def rI(C:Int->Int->Prop)(g:Int->Int->V):R2:=λx y H Q=>∃i j,x=.int i/\y=.int j/\C i j/\Q (g i j) H
def TY(g:Int->Int->V):R2:=λx y H Q=>∃i j,x=.int i/\y=.int j/\Q (g i j) H
def rU(g:Int->V):V->Hp->VK->Prop:=λx H Q=>∃i,x=.int i/\Q (g i) H
section
variable {X:Cx}{a b c:Pc}{ta tb tc:TE}{pos:Pos}
def LM(ha:PE X a ta)(hb:PE X b tb){Sa:OR}{s:OV}{Y:St}{H:Hp}{R:V->V->Hp->Prop}(I:Inv X Sa Y H s)(h:ta Y H λx H1=>tb Y H1 λy H2=>R x y H2){Q:OT}{f:Value->Value->Sem Value}(hf:∀v u s2 x y H2,Inv X Sa Y H2 s2->RelV x v->RelV y u->R x y H2->wpAny (Rk X) X.A (f v u) Q X.xe s2):
  wpAny (Rk X) X.A (eval a X.env) (λv s₁=>wpAny (Rk X) X.A (eval b X.env) (λu s₂=>wpAny (Rk X) X.A (f v u) Q X.xe s₂) X.xe s₁) X.xe s:=by
 refine Sk (ha Sa s Y H _ I h) λv s1 ⟨x,H1,I1,r1,q1⟩=>?_;refine Sk (hb Sa s1 Y H1 _ I1 q1) λu s2 ⟨y,H2,I2,r2,q2⟩=>?_;exact hf v u s2 x y H2 I2 r1 r2 q2
def FT(ho:Sx X (binaryOp op) r)(ha:PE X a ta)(hb:PE X b tb):PE X (.BinOp a op b pos) (Ϲ r ta tb):=by intro Sa s Y H Q I h;exact wpAny_BinOp (LM ha hb I h λv u s2 x y H2 I2 rx ry q=>ho Sa s2 Y H2 x y v u Q I2 rx ry q)
def LN(ho:UnR X (unaryOp op) r)(ha:PE X a ta):PE X (.UnaryOp op a pos) (tUn r ta):=by intro Sa s Y H Q I h;exact UnaryOp_ (Sk (ha Sa s Y H _ I h) λv s1 ⟨x,H1,I1,r1,q1⟩=>ho Sa s1 Y H1 x v Q I1 r1 q1)
def ϟ{f:Value->Value->Sem Value}{C:Int->Int->Prop}{g:Int->Int->Int}(rule:∀(i j:Int)(t u:Tok)(s:OV)(Q:OT)(E:OT),C i j->Q (.int (g i j) s.toks) { s with toks:=s.toks+1 }->wpAny (Rk X) X.A (f (.int i t) (.int j u)) Q E s):
  Sx X f (rI C λi j=>.int (g i j)):=by
 intro Sa s Y H x y v u Q I rx ry h;obtain⟨i,j,rfl,rfl,hc,q⟩:=h;obtain⟨t,rfl⟩:=rx;obtain⟨t',rfl⟩:=ry;exact rule i j t t' s _ _ hc ⟨.int (g i j),H,I.tok _,⟨_,rfl⟩,q⟩
def Nu{f:Value->Value->Sem Value}{g:Int->Int->Int}(rule:∀(i j:Int)(t u:Tok)(s:OV)(Q:OT)(E:OT),Q (.int (g i j) s.toks) { s with toks:=s.toks+1 }->wpAny (Rk X) X.A (f (.int i t) (.int j u)) Q E s):
  Sx X f (TY λi j=>.int (g i j)):=by
 intro Sa s Y H x y v u Q I rx ry h;obtain⟨i,j,rfl,rfl,q⟩:=h;obtain⟨t,rfl⟩:=rx;obtain⟨t',rfl⟩:=ry;exact rule i j t t' s _ _ ⟨.int (g i j),H,I.tok _,⟨_,rfl⟩,q⟩
def IZ{f:Value->Value->Sem Value}{g:Int->Int->Bool}(rule:∀(i j:Int)(t u:Tok)(s:OV)(Q:OT)(E:OT),Q (.bool (g i j)) s->wpAny (Rk X) X.A (f (.int i t) (.int j u)) Q E s):
  Sx X f (TY λi j=>.bl (g i j)):=by
 intro Sa s Y H x y v u Q I rx ry h;obtain⟨i,j,rfl,rfl,q⟩:=h;obtain⟨t,rfl⟩:=rx;obtain⟨t',rfl⟩:=ry;exact rule i j t t' s _ _ ⟨.bl (g i j),H,I,rfl,q⟩
def Ft(i j:Int):Prop:=0<j/\j<1073741824
def FU(i j:Int):Prop:=0<=j/\j<=1000000/\i.natAbs<2 ^ 64
def BB(i j:Int):Prop:=(-(2 ^ 64)<i/\i<2 ^ 64)\/(-(2 ^ 64)<j/\j<2 ^ 64)
def BB.ok(h:BB i j):IntMulOk i j:=by
 rcases h with⟨h1,h2⟩|⟨h1,h2⟩
 .exact .of_left (intBits_le_64 h1 h2)
 .exact .of_right (intBits_le_64 h1 h2)
def FV:Sx X (binaryOp .Add) (TY λi j=>.int (i+j)):=Nu λ_ _ _ _ _ _ _ q=>add_int q
def ZC:Sx X (binaryOp .Sub) (TY λi j=>.int (i-j)):=Nu λ_ _ _ _ _ _ _ q=>sub_int q
def FW:Sx X (binaryOp .Mult) (rI BB λi j=>.int (i*j)):=ϟ λ_ _ _ _ _ _ _ hc q=>mul_int q hc.ok
def C5:Sx X (binaryOp .FloorDiv) (rI Ft λi j=>.int (i / j)):=ϟ λi j _ _ _ _ _ hc q=>by have h1:(0:Int)<j:=hc.1;have h2:j<1073741824:=hc.2;exact floordiv_int (by omega) (by rw[Int.fdiv_eq_ediv_of_nonneg i (by omega)];exact q) (.inl (PyProof.noPylong_small (by omega)))
def FX:Sx X (binaryOp .Mod) (rI (λ_ j=>0<j) λi j=>.int (i % j)):=ϟ λi j _ _ _ _ _ hc q=>by have h1:(0:Int)<j:=hc;exact mod_int' (by omega) (by rw[Int.fmod_eq_emod_of_nonneg i (by omega)];exact q)
def C6:Sx X (binaryOp .Mod) (rI (λ_ j=>j≠0) λi j=>.int (i.fmod j)):=ϟ λ_ _ _ _ _ _ _ hc q=>mod_int' hc q
def BC:Sx X (binaryOp .Pow) (rI FU λi j=>.int (i ^ j.toNat)):=ϟ λ_ _ _ _ _ _ _ hc q=>pow_int_small hc.1 hc.2.1 hc.2.2 q
def unI{f:Value->Sem Value}{g:Int->Int}(rule:∀(i:Int)(t:Tok)(s:OV)(Q:OT)(E:OT),Q (.int (g i) s.toks) { s with toks:=s.toks+1 }->wpAny (Rk X) X.A (f (.int i t)) Q E s):
  UnR X f (rU λi=>.int (g i)):=by
 intro Sa s Y H x v Q I rx h;obtain⟨i,rfl,q⟩:=h;obtain⟨t,rfl⟩:=rx;exact rule i t s _ _ ⟨.int (g i),H,I.tok _,⟨_,rfl⟩,q⟩
def ph:UnR X (unaryOp .USub) (rU λi=>.int (-i)):=unI λ_ _ _ _ _ q=>neg_int q
def pq(I:Inv X Sa Y H s)(q:Q (.bl k) H)(e:k=k'):EP X Sa Y Q (.bool k') s:=by subst e;exact⟨.bl k,H,I,rfl,q⟩
def er:Sx X (compareOp .Lt) (TY λi j=>.bl (decide (i<j))):=IZ λ_ _ _ _ _ _ _ q=>lt_int q
def LP:Sx X (compareOp .LtE) (TY λi j=>.bl (decide (i<=j))):=IZ λ_ _ _ _ _ _ _ q=>le_int q
def cD:Sx X (compareOp .Gt) (TY λi j=>.bl (decide (j<i))):=IZ λ_ _ _ _ _ _ _ q=>gt_int q
def LQ:Sx X (compareOp .GtE) (TY λi j=>.bl (decide (j<=i))):=IZ λ_ _ _ _ _ _ _ q=>ge_int q
def px:Sx X (compareOp .In) (λx y H Q=>∃i j,x=.str i/\y=.str j/\Q (.bl (!(Builtin.Str.occurrences j i 0 j.length 1).isEmpty)) H):=by intro Sa s Y H x y v u Q I rx ry h;obtain⟨i,j,rfl,rfl,q⟩:=h;obtain⟨t,rfl⟩:=rx;obtain⟨t',rfl⟩:=ry;exact in_str (pq I q rfl)
def pA:Sx X (compareOp .Is) (λx y H Q=>y=.non/\Q (.bl (decide (x=.non))) H):=by
 intro Sa s Y H x y v u Q I rx ry h;obtain⟨rfl,q⟩:=h;cases ry;refine is_none_gen (pq I q ?_);cases x<;>first
  | (cases rx;rfl)
  | (obtain⟨t,rfl⟩:=rx;rfl)
def C7:Sx X (compareOp .IsNot) (λx y H Q=>y=.non/\Q (.bl (!decide (x=.non))) H):=by
 intro Sa s Y H x y v u Q I rx ry h;obtain⟨rfl,q⟩:=h;cases ry;refine isnot_none_gen (pq I q ?_);cases x<;>first
  | (cases rx;rfl)
  | (obtain⟨t,rfl⟩:=rx;rfl)
def Sx.or(h:Sx X f r)(h':Sx X f r'):Sx X f (λx y H Q=>r x y H Q\/r' x y H Q):=by
 intro Sa s Y H x y v u Q I rx ry q;rcases q with q|q
 .exact h Sa s Y H x y v u Q I rx ry q
 .exact h' Sa s Y H x y v u Q I rx ry q
def qv(b:Pc)(h:op≠.In:=by decide)(h2:op≠.NotIn:=by decide):behindInMarks op b=false:=by
 have e1:(op==CmpOp.In)=false:=by cases op<;>first|rfl|exact absurd rfl h
 have e2:(op==CmpOp.NotIn)=false:=by cases op<;>first|rfl|exact absurd rfl h2
 cases b<;>simp[behindInMarks,e1,e2]
def C8(ho:Sx X (compareOp op) r)(ha:PE X a ta)(hb:PE X b tb)(hm:behindInMarks op b=false):PE X (.Compare a [op] [b] pos) (Ϲ r ta tb):=by intro Sa s Y H Q I h;exact wpAny_Compare1 (LM ha hb I h λv u s2 x y H2 I2 rx ry q=>ho Sa s2 Y H2 x y v u Q I2 rx ry q) hm
def FY(t:TE):TT:=λY H Q=>t Y H λx H'=>∃k,x=.bl k/\Q k H'
def g8(ho:Sx X (compareOp op) r)(ha:PE X a ta)(hb:PE X b tb)(hm:behindInMarks op b=false):PT X (.Compare a [op] [b] pos) (FY (Ϲ r ta tb)):=by
 intro Sa s Y H Q I h;refine wpAny_isTrue_Compare1 (Sk (ha Sa s Y H _ I h) λv s1 ⟨x,H1,I1,r1,q1⟩=>Sk (hb Sa s1 Y H1 _ I1 q1) λu s2 ⟨y,H2,I2,r2,q2⟩=>
  Sk (ho Sa s2 Y H2 x y v u _ I2 r1 r2 q2) λc s3 ⟨z,H3,I3,r3,k,e,q3⟩=>?_) hm
 subst e;cases r3;exact a1v ⟨H3,I3,q3⟩
def lH:(sizeLine:Nat)<2 ^ 63:=by rw[TC];decide
def nH:Sx X (binaryOp .Add) (λx y H Q=>∃i j,x=.str i/\y=.str j/\i.length+j.length<=sizeLine/\Q (.str (i++j)) H):=by intro Sa s Y H x y v u Q I rx ry h;obtain⟨i,j,rfl,rfl,hz,q⟩:=h;obtain⟨t,rfl⟩:=rx;obtain⟨t',rfl⟩:=ry;exact add_str (λt' tk=>⟨.str (i++j),H,I.tok _,⟨_,rfl⟩,q⟩) hz
def vals1(r:Vals [x] us):∃u,us=[u]/\RelV x u:=by
 cases r with
 |cons r1 r2=>cases r2;exact⟨_,rfl,r1⟩
def vals2(r:Vals [x,y] us):∃u w',us=[u,w']/\RelV x u/\RelV y w':=by
 cases r with
 |cons r1 r2=>
  cases r2 with
  |cons r3 r4=>cases r4;exact⟨_,_,rfl,r1,r3⟩
def pB(hc:X.calm=true):ZV X (.builtin "max") (λxs H Q=>∃i j,xs=[.int i,.int j]/\Q (.int (if j>i then j else i)) H):=by
 intro Sa s Y H xs us Q I r h;obtain⟨i,j,rfl,q⟩:=h;obtain⟨u,w',rfl,⟨t,rfl⟩,⟨t',rfl⟩⟩:=vals2 r;refine max_two_ints (I.ok.hd hc) λh' tk k=>⟨_,H,I.kept k,?_,q⟩;by_cases hj:j>i
 .rw[if_pos hj,if_pos hj];exact⟨_,rfl⟩
 .rw[if_neg hj,if_neg hj];exact⟨_,rfl⟩
def Nv(K:OY)(x:V)(H:Hp)(n:Nat):Prop:=
 match x with
 |.str y=>y.length<=sizeLine/\n=y.length
 |.byt y=>y.size<=sizeLine/\n=y.size
 |.ref p=>(∃xs,Sq K H p xs/\n=xs.length)\/∃xs,SN K H p xs/\n=xs.length
 |_=>False
def xh:ZV X (.builtin "len") (λxs H Q=>∃x n,xs=[x]/\Nv X.K x H n/\Q (.int n) H):=by
 intro Sa s Y H xs us Q I r h;obtain⟨x,n,rfl,e,q⟩:=h;obtain⟨u,rfl,rx⟩:=vals1 r;have hl:=lH;have hs:sizeLine=16777216:=TC;cases x with
 |str y=>obtain⟨t,rfl⟩:=rx;obtain⟨hy,e'⟩:y.length<=sizeLine/\n=y.length:=e;subst e';exact len_str (by omega) ⟨.int _,H,I.tok _,⟨_,rfl⟩,q⟩
 |byt y=>obtain⟨t,rfl⟩:=rx;obtain⟨hy,e'⟩:y.size<=sizeLine/\n=y.size:=e;subst e';exact PySem.W.len_bytes (by omega) ⟨.int _,H,I.tok _,⟨_,rfl⟩,q⟩
 |ref p=>
  cases rx;have e':(∃xs,Sq X.K H p xs/\n=xs.length)\/∃xs,SN X.K H p xs/\n=xs.length:=e;rcases e' with⟨xs,hx,e'⟩|⟨xs,hx,e'⟩
  .subst e';obtain⟨Sf,r',pl,hz⟩:=I.list hx;have hlen:=r'.length;exact Calls.call_len_list pl.isList (by simp only[List.size_toArray];omega) ⟨.int xs.length,H,I.tok _,⟨_,by simp only[List.size_toArray];rw[hlen]⟩,q⟩
  .subst e';obtain⟨Sf,r',pl,hz⟩:=I.tuple hx;have hlen:=r'.length;exact len_tuple pl (by simp only[List.size_toArray];omega) ⟨.int xs.length,H,I.tok _,⟨_,by simp only[List.size_toArray];rw[hlen]⟩,q⟩
 |_=>exact(show False from e).elim
end
structure C9(h:Heap)(x dx C:Addr)(mA:OQ):Prop where
 obj:h.get? x=some (PySem.W.instObj C dx)
 ns:h.Ns1 dx mA
 ne:dx≠x
def KG{h:Heap}{dx:Addr}{mA:OQ}(n:h.Ns1 dx mA):∃od,h.get? dx=some od/\∀name,PySem.W.lookIn name od=some (mA name):=by
 obtain⟨o,es,ep,ho,hd,hk,_,hm⟩:=n;refine⟨o,ho,λname=>?_⟩;have e:=hm name;unfold nsFind findBy at e;rw[<- a27]at e;unfold PySem.W.lookIn;rw[hd];dsimp only;split
 .rename_i y q;rw[q]at e;exact SS some e
 .rename_i q;rw[q]at e;have a:es.toList.any (·.refKey)=false:=by rw[List.any_eq_false];intro y hy;obtain⟨z,t,hkey⟩:=hk y (a2P.mp hy);simp[DictEntry.refKey,hkey]
  have a':¬es.toList.any (·.refKey)=true:=by rw[a];exact P5
  rw[if_neg a'];exact SS some e
def C9.look(I:C9 h x dx C mA):∃od,PySem.W.InstAt h x (PySem.W.instObj C dx) C (some od)/\∀name,PySem.W.lookIn name od=some (mA name):=
 let⟨od,ho,hl⟩:=KG I.ns
 ⟨od,⟨I.obj,rfl,rfl,ho⟩,hl⟩
section
variable {prog:Pg}{w:Pk}{A:Po}{E:OT}{s:OV}{K:OY}{x dx C f:Addr}{mA:OQ}{name:Str}{v:Value}
def get_map(X:K.In s.heap)(I:C9 s.heap x dx C mA)(hg:PySem.W.plainGet K C name=true)(hh:PySem.W.hasDictIn K C=true)(ha:PySem.W.findIn K (.ref C) name=some none)(hv:mA name=some v)(hv':PySem.W.handedIn v=true)(h:Q v { s with toks:=s.toks+1 }):
  wpAny (model prog w) A (getAttr (.ref x) name expr) Q E s:=by
 obtain⟨od,J,hl⟩:=I.look;exact PySem.W.get_value X J (a1U hg).1 (PySem.W.findObj_own hh ha rfl (by rw[hl,hv])) hv' h
def xi(X:K.In s.heap)(I:C9 s.heap x dx C mA)(hg:PySem.W.plainGet K C name=true)(hf:PySem.W.findIn K (.ref C) name=some (some (.ref f)))(ht:PySem.W.isFn K (.ref f)=true)(hv:mA name=none)(h:Q (.ref f,[.ref x]) s):
  wpAny (model prog w) A (getMethod (.ref x) name pl) Q E s:=by
 obtain⟨od,J,hl⟩:=I.look;exact PySem.W.method_fn X J (a1U hg).1 (a1U hg).2 hf (S9.mp ht) (by show(PySem.W.lookIn name od).map (·.isSome)=some false;rw[hl,hv];rfl) h
def C_(X:K.In s.heap)(I:C9 s.heap x dx C mA)(hs:PySem.W.findIn K (.ref C) "__setattr__"=some (some (.builtin "object.__setattr__")))(hp:PySem.W.plainOver K C=true)(ht:PySem.W.takerIn K C name=some none)(hh:PySem.W.hasDictIn K C=true)(hw:PySem.Within mA ns)(hsz:ns.length<=sizeLine)(h:∀h',C9 h' x dx C (λy=>if y=name then some v else mA y)->Heap.SameBut dx s.heap h'->Q () { s with heap:=h',toks:=s.toks+2 }):
  wpAny (model prog w) A (setAttr (.ref x) name v) Q E s:=by
 obtain⟨od,J,hl⟩:=I.look;refine PySem.W.set_plain X J hs (PySem.W.osa_open (s:={ s with toks:=s.toks+1 }) (r:=none) X J hp ht λb=>?_);obtain⟨cd,hc,hd'⟩:=PySem.W.any_some hh;have hx:s.heap.get? x=some ⟨.ref C,some dx,.plain,#[]⟩:=I.obj;refine f8 (O5 (f8 (f8 (a1h hx (f8 (PySem.W.Looks.here (s:={ s with toks:=s.toks+1 }) (PySem.W.looks_clsIn X hc) ?_))))));rw[hd'];refine O5 (a:=some dx) (f8 (O5 (f8 ?_)));refine a28 (s:={ s with toks:=s.toks+1 }) I.ns λh' hn2 hs2=>?_;obtain⟨oD,esD,epD,hoD,hdD,hcD⟩:=hn2.count (a16 name v hw);refine f8 (a2e hoD (by rw[hdD];exact a2f (S6 hcD (by rw[v0];omega))) ?_);exact O5 (h _ ⟨(hs2.2 _ (Ne.symm I.ne)).trans I.obj,hn2,I.ne⟩ hs2)
def xj(X:K.In s.heap)(hm:PySem.W.makesIn K C=true)(hi:PySem.W.findIn K (.ref C) "__init__"=some (some (.ref f)))(hf:PySem.W.typeIn K (.ref f)=some (.type "function"))(h:codeAny (model prog w) (A.under (.builtin "type.__call__" ⟨.ref C::vs,kw⟩)) (.call (.ref f) ⟨.ref (s.heap.objs.size+1)::vs,kw⟩) (PySem.W.InitBack (s.heap.objs.size+1) R) { s with heap:=(s.heap.push PySem.W.emptyDict).push (PySem.W.instObj C s.heap.objs.size) }):
  codeAny (model prog w) A (.call (.ref C) ⟨vs,kw⟩) R s:=by
 obtain⟨hh,g,d,t,os⟩:=s;exact PySem.W.make_core (PySem.W.makes_of X hm) (PySem.W.looks_findIn X hi) (λself=>PySem.W.bind_fn X self hf) (.inl rfl) h
end
def KH(f:Str)(v:V):List (Str×V)->List (Str×V)
 |[]=>[(f,v)]
 | (g,x)::r=>if g=f then(g,v)::r else(g,x)::KH f v r
def J6(f g:Str)(v:V):∀fs:List (Str×V),(KH f v fs).lookup g=if g=f then some v else fs.lookup g
 |[]=>by
  show List.lookup g [(f,v)]=_;by_cases h:g=f
  .have hb:(g==f)=true:=S9.mpr h;simp only[List.lookup,hb,if_pos h]
  .have hb:(g==f)=false:=Ν.mpr h;simp only[List.lookup,hb,if_neg h]
 | (k,x)::r=>by
  have ih:=J6 f g v r;rw[show KH f v ((k,x)::r)=(if k=f then(k,v)::r else(k,x)::KH f v r)from rfl];by_cases hk:k=f
  .rw[if_pos hk];by_cases h:g=k
   .have hb:(g==k)=true:=S9.mpr h;simp only[List.lookup,hb,if_pos (h.trans hk)]
   .have hb:(g==k)=false:=Ν.mpr h;simp only[List.lookup,hb,if_neg (λe:g=f=>h (e.trans hk.symm))]
  .rw[if_neg hk];by_cases h:g=k
   .have hb:(g==k)=true:=S9.mpr h;simp only[List.lookup,hb,if_neg (λe:g=f=>hk (h.symm.trans e))]
   .have hb:(g==k)=false:=Ν.mpr h;simp only[List.lookup,hb];exact ih
def Y4(f:Str)(v:V):∀fs:List (Str×V),f∈(KH f v fs).map (·.1)/\∀g,g∈fs.map (·.1)->g∈(KH f v fs).map (·.1)
 |[]=>⟨by simp[KH],λg h=>by simp at h⟩
 | (k,x)::r=>by
  obtain⟨i1,i2⟩:=Y4 f v r;rw[show KH f v ((k,x)::r)=(if k=f then(k,v)::r else(k,x)::KH f v r)from rfl];by_cases hk:k=f
  .rw[if_pos hk];subst hk;exact⟨by simp,λg h=>by simpa using h⟩
  .rw[if_neg hk];refine⟨?_,λg h=>?_⟩
   .rw[O6];exact O4 _ i1
   .rw[O6]at h ⊢;rcases P9.mp h with e|e
    .exact P9.mpr (.inl e)
    .exact O4 _ (i2 g e)
def J7(f:Str)(v:V):∀fs:List (Str×V),(KH f v fs).length<=fs.length+1
 |[]=>by simp[KH]
 | (k,x)::r=>by
  have ih:=J7 f v r;rw[show KH f v ((k,x)::r)=(if k=f then(k,v)::r else(k,x)::KH f v r)from rfl];by_cases hk:k=f
  .rw[if_pos hk,v0,v0];omega
  .rw[if_neg hk,v0,v0];omega
def Xi.some_of(r:Xi (some v) o):∃u,o=some u/\RelV v u:=by
 cases o with
 |none=>exact(show False from r).elim
 |some u=>exact⟨u,rfl,r⟩
def Xi.none_of(r:Xi none o):o=none:=by
 cases o with
 |none=>rfl
 |some u=>exact(show False from r).elim
def eA(r:RelV v u):PySem.W.handedIn u=true:=by
 cases v with
 |non=>cases(show u=Value.none from r);rfl
 |bl b=>cases(show u=Value.bool b from r);rfl
 |int i=>obtain⟨t,e⟩:=(show ∃t,u=Value.int i t from r);cases e;rfl
 |str x=>obtain⟨t,e⟩:=(show ∃t,u=Value.str x t from r);cases e;rfl
 |byt b=>obtain⟨t,e⟩:=(show ∃t,u=Value.bytes b t from r);cases e;rfl
 |flt b=>obtain⟨t,e⟩:=(show ∃t,u=Value.float b t from r);cases e;rfl
 |ref a=>cases(show u=Value.ref a from r);rfl
 |ty n=>cases(show u=Value.type n from r);rfl
def cE(hok:SK P w H h)(e:H a=some (.ins C dx fs)):∃mA,C9 h a dx C mA/\(∀f,Xi (fs.lookup f) (mA f))/\PySem.Within mA (fs.map (·.1))/\fs.length<=1000/\H dx=some (.own a):=by obtain⟨d,z,ne,ob,mA,n,r,q⟩:=(show ql P w H h a (.ins C dx fs)from hok a _ e);exact⟨mA,⟨ob,n,ne⟩,r,q,z,d⟩
structure TL(K:OY)(C:Addr):Prop where
 pg:PySem.W.plainGet K C Str.empty=true
 hd:PySem.W.hasDictIn K C=true
 po:PySem.W.plainOver K C=true
 sa:PySem.W.findIn K (.ref C) "__setattr__"=some (some (.builtin "object.__setattr__"))
def TL.get{K:OY}{C:Addr}(c:TL K C)(f:Str):PySem.W.plainGet K C f=true:=c.pg
def ve(K:OY)(C:Addr)(f:Str):Prop:=PySem.W.findIn K (.ref C) f=some none
def ve.LU{K:OY}{C:Addr}{f:Str}(n:ve K C f):PySem.W.takerIn K C f=some none:=by unfold PySem.W.takerIn;rw[show PySem.W.findIn K (.ref C) f=some none from n];rfl
structure Meth(K:OY)(C:Addr)(m:Str)(f:Addr):Prop where
 at_:PySem.W.findIn K (.ref C) m=some (some (.ref f))
 fn:PySem.W.isFn K (.ref f)=true
 kp:PySem.W.keepIn K (.ref f)=true
def nI(I:Inv X Sa Y H s)(e:H a=some (.ins C dx fs))(c:TL X.K C)(n:ve X.K C f)(l:fs.lookup f=some v)(h:∀u s',Inv X Sa Y H s'->RelV v u->Q u s'):wpAny (Rk X) A (getAttr (.ref a) f b) Q E s:=by
 obtain⟨mA,O,r,_,_,_⟩:=cE I.hok e;obtain⟨u,hu,ru⟩:=Xi.some_of (v:=v) (o:=mA f) (by rw[<- l];exact r f);exact get_map I.kIn O (c.get f) c.hd n hu (eA ru) (h u _ (I.tok _) ru)
def bM(I:Inv X Sa Y H s)(e:H a=some (.ins C dx fs))(c:TL X.K C)(k:Meth X.K C m g)(l:fs.lookup m=none)(h:Q (.ref g,[.ref a]) s):wpAny (Rk X) A (getMethod (.ref a) m pl) Q E s:=by
 obtain⟨mA,O,r,_,_,_⟩:=cE I.hok e;have hn:mA m=none:=Xi.none_of (by rw[<- l];exact r m);exact xi I.kIn O (c.get m) k.at_ k.fn hn h
def nJ(I:Inv X Sa Y H s)(e:H a=some (.ins C dx fs))(c:TL X.K C)(n:ve X.K C f)(hl:fs.length<1000)(ry:RelV y u)(h:∀s',Inv X Sa Y (upd H a (.ins C dx (KH f y fs))) s'->Q () s'):wpAny (Rk X) A (setAttr (.ref a) f u) Q E s:=by
 obtain⟨mA,O,r,wi,_,ho⟩:=cE I.hok e;have hz:(fs.map (·.1)).length<=sizeLine:=by rw[u8,TC];omega
 refine C_ I.kIn O c.sa c.po n.LU c.hd wi hz λh' O' sb=>h _ ?_;have hd:∃o,h'.get? dx=some o:=let⟨o,_,_,e',_⟩:=O'.ns;⟨o,e'⟩
 refine I.write (x:=a) (e:=dx) (by rw[e];exact True.intro) (.inr ho) (λb q hb z=>(sb.2 b hb).trans z) hd ?_;refine⟨by rw[zl O.ne];exact ho,?_,O.ne,O'.obj,_,O'.ns,λg=>?_,λg hg=>?_⟩
 .have:=J7 f y fs;omega
 .show Xi ((KH f y fs).lookup g) (if g=f then some u else mA g);rw[J6];by_cases q:g=f
  .rw[if_pos q,if_pos q];exact ry
  .rw[if_neg q,if_neg q];exact r g
 .by_cases q:g=f
  .rw[q];exact(Y4 f y fs).1
  .refine(Y4 f y fs).2 g (wi g λz=>hg ?_);show(if g=f then some u else mA g)=none;rw[if_neg q];exact z
def Inv.made(I:Inv X Sa Y H s):Inv X Sa Y (upd (upd H s.heap.objs.size (.own (s.heap.objs.size+1))) (s.heap.objs.size+1) (.ins C s.heap.objs.size []))
  { s with heap:=(s.heap.push PySem.W.emptyDict).push (PySem.W.instObj C s.heap.objs.size) }:=by
 have e1:(s.heap.push PySem.W.emptyDict).get? s.heap.objs.size=some PySem.W.emptyDict:=S5 s.heap rfl;have e2:((s.heap.push PySem.W.emptyDict).push (PySem.W.instObj C s.heap.objs.size)).get? (s.heap.objs.size+1)=some (PySem.W.instObj C s.heap.objs.size):=by
  have:=S5 (s.heap.push PySem.W.emptyDict) (o:=PySem.W.instObj C s.heap.objs.size) rfl
  rwa [Ϫ]at this
 have e3:(s.heap.push PySem.W.emptyDict).Ns s.heap.objs.size (λ_=>none):=⟨PySem.W.emptyDict,#[],_,e1,rfl,(λe he=>absurd he (by simp)),λ_=>rfl⟩;have I1:=I.laid (a:=s.heap.objs.size) (o:=.own (s.heap.objs.size+1)) (h':=s.heap.push PySem.W.emptyDict) (t':=s.toks) (λb u q=>O3 _ q) (O2 _) ⟨_,e1⟩;refine I1.laid (a:=s.heap.objs.size+1) (o:=.ins C s.heap.objs.size []) (t':=s.toks) (λb u q=>O3 _ q) (a1J (Ϫ _ _)) ?_;have ne:s.heap.objs.size≠s.heap.objs.size+1:=P6 (ϋ _);refine⟨by rw[zl ne,zh],Tx _,ne,e2,λ_=>none,(Heap.Ns1.of_empty e3).at λo q=>O3 _ q,λ_=>True.intro,λy hy=>absurd rfl hy⟩
def pC(hb:attributeBase e f env (eval e env)=eval e env)(h:wpAny (model prog w) A (eval e env) (λo s₁=>wpAny (model prog w) A (getAttr o f true) Q E s₁) E s):wpAny (model prog w) A (eval (.Attribute e f pos) env) Q E s:=
 Attribute_any_ h (by rw[arm_eval_Attribute,hb])
def Of(K:OY)(ta:TE)(f:Str):TE:=λY H Q=>ta Y H λx H1=>∃a C dx fs v,x=.ref a/\H1 a=some (.ins C dx fs)/\TL K C/\ve K C f/\fs.lookup f=some v/\Q v H1
def Og(K:OY)(ta tv:TE)(f:Str):TS:=λD Y H=>tv Y H λy H1=>ta Y H1 λx H2=>∃a C dx fs,x=.ref a/\H2 a=some (.ins C dx fs)/\TL K C/\ve K C f/\fs.length<1000/\
 D.nx Y (upd H2 a (.ins C dx (KH f y fs)))
def BD(he:PE X e ta)(hb:attributeBase e f X.env (eval e X.env)=eval e X.env):PE X (.Attribute e f pos) (Of X.K ta f):=by intro Sa s Y H Q I h;refine pC hb (Sk (he Sa s Y H _ I h) λu s1 ⟨x,H1,I1,rx,a,C,dx,fs,v,ex,ea,c,n,l,q⟩=>?_);subst ex;obtain rfl:u=Value.ref a:=rx;exact nI I1 ea c n l λu' s2 I2 ru=>⟨v,H1,I2,ru,q⟩
def BE(ha:PE X o ta)(hv:PE X value tv)(hs:swapsWith value (some (.Attribute o f pos')) pos.line X.env=pure false):PS X (.Assign [.Attribute o f pos'] value pos) (Og X.K ta tv f):=by intro Sa s Y H D I h;refine a1G (Sk (hv Sa s Y H _ I h) λu s1 ⟨y,H1,I1,ry,q⟩=>Sk (ha Sa s1 Y H1 _ I1 q) λov s2 ⟨x,H2,I2,rx,a,C,dx,fs,ex,ea,c,n,l,q2⟩=>?_) hs;subst ex;obtain rfl:ov=Value.ref a:=rx;exact nJ I2 ea c n l ry λs3 I3=>⟨Y,_,I3,q2⟩
section
variable {X:Cx}{Sa:OR}{Y:St}{H:Hp}{s:OV}{A:Po}{E:OT}{Q:OT}{c:Value}{b:Bool}
inductive oQ(K:OY)(H:Hp):V->Value->Prop where
 |non:oQ K H .non (.type "NoneType")
 |bl (x:Bool):oQ K H (.bl x) (.type "bool")
 |int (i:Int):oQ K H (.int i) (.type "int")
 |str (x:Str):oQ K H (.str x) (.type "str")
 |flt (x:UInt64):oQ K H (.flt x) (.type "float")
 |lst {a:Addr}{xs:Pa}(e:H a=some (.lst xs)):oQ K H (.ref a) (.type "list")
 |frz {a:Addr}{o:Obj}{xs:Pa}(e:H a=some (.frz o (.lst xs))):oQ K H (.ref a) (.type "list")
 |tup {a:Addr}{xs:Pa}(e:H a=some (.tup xs)):oQ K H (.ref a) (.type "tuple")
 |dK {a:Addr}{kvs:Pb}(e:H a=some (.dK kvs)):oQ K H (.ref a) (.type "dict")
 |dT {a:Addr}{kvs:PX}(e:H a=some (.dT kvs)):oQ K H (.ref a) (.type "dict")
 |ins {a C dx:Addr}{fs:Pp}(e:H a=some (.ins C dx fs)) (cl:TL K C) (ha:PySem.W.findIn K (.ref C) "__class__"=some (some (.builtin "object.__class__")))
   (hn:PySem.W.specialIn K (.builtin "object.__class__") "__get__"=some (some (.builtin "getset_descriptor.__get__"))) (htk:PySem.W.takesIn K (.builtin "object.__class__")=some true)
   (hm:PySem.W.mroIn K C (.type "object")=some true):oQ K H (.ref a) (.ref C)
end
structure vf(k:Nat)(A:Po):Prop where
 hd:A.handled=none
 dp:A.depth+3*k+5<recursionLimit
 un:A.units+16*k+200<cLine
def vf.mono(r:vf k A)(h:j<=k):vf j A:=⟨r.hd,by have:=r.dp;omega,by have:=r.un;omega⟩
def vf.deeper(r:vf (k+1) A)(env:Env):vf k (A.deeper env):=
 ⟨r.hd,by have:=r.dp;show A.depth+1+3*k+5<_;omega,by have:=r.un;show A.units+3+16*k+200<_;omega⟩
def vf.in1(r:vf (k+1) A):vf k A.in1:=
 ⟨r.hd,by have:=r.dp;show A.depth+3*k+5<_;omega,by have:=r.un;show A.units+1+16*k+200<_;omega⟩
def nK{A:Po}{C:Addr}{us:OZ}{kw:PF}:(A.under (.builtin "type.__call__" ⟨.ref C::us,kw⟩)).depth=A.depth+1:=by
 first|rfl|simp[Around.under,Code.weight,Code.isCreation,Code.isGuard,Code.isCaller,Code.frames,Code.isFrame,guardIds]
def nM{A:Po}{C:Addr}{us:OZ}{kw:PF}:(A.under (.builtin "type.__call__" ⟨.ref C::us,kw⟩)).units=A.units+1:=by
 first|rfl|simp[Around.under,Code.cUnits,Code.frames,Code.isFrame]
def vf.make(r:vf (k+1) A)(C:Addr)(us:OZ)(kw:PF):vf k (A.under (.builtin "type.__call__" ⟨.ref C::us,kw⟩)):=
 ⟨r.hd,by have:=r.dp;rw[nK];omega,by have:=r.un;rw[nM];omega⟩
def vf.depth(r:vf k A):A.depth<recursionLimit:=by have:=r.dp;omega
def vf.units(r:vf k A):A.units+64<cLine:=by have:=r.un;omega
def LV:TA:=λ_ H Q=>Q [] H
def FZ(ta:TE)(tr:TA):TA:=λY H Q=>ta Y H λx H1=>tr Y H1 λxs H2=>Q (x::xs) H2
section
variable {X:Cx}{e:Pc}{es:OX}{te:TE}{t:TA}{pos:Pos}
def Ub:PA X [] LV:=λ_ _ _ _ H Q I h=>Calls.spliced_nil ⟨[],H,I,.nil,h⟩
def ZW(ha:PE X e te)(hr:PA X es t)(hs:starEach (e::es) X.env=(false,eval e X.env)::starEach es X.env:=by rfl):PA X (e::es) (FZ te t):=by intro pos Sa s Y H Q I h;rw[hs];show wpAny _ _ (spliced ((false,eval e X.env)::backTo pos (starEach es X.env))) _ _ s;refine a29 (Sk (ha Sa s Y H _ I h) λu s1 ⟨x,H1,I1,r1,q1⟩=>?_);exact Sk (hr pos Sa s1 Y H1 _ I1 q1) λus s2 ⟨xs,H2,I2,r2,q2⟩=>⟨x::xs,H2,I2,.cons r1 r2,q2⟩
def Nw(t:TA):TE:=λY H Q=>t Y H λxs H1=>xs.length<=sizeLine/\∀p,H1 p=none->Q (.ref p) (upd H1 p (.tup xs))
def Oh(t:TA):TE:=λY H Q=>t Y H λxs H1=>xs.length<=sizeLine/\∀p,H1 p=none->Q (.ref p) (upd H1 p (.lst xs))
def bN{x1}(h:PA X es t):PE X (.Tuple es x1 pos) (Nw t):=by intro Sa s Y H Q I hq;refine wpAny_Tuple_spliced (Sk (h pos Sa s Y H _ I hq) λus s1 ⟨xs,H1,I1,r,z,q⟩=>⟨by rw[<- r.length];exact z,?_⟩);have hf:H1 s1.heap.objs.size=none:=I1.hok.fresh (O2 _);refine⟨.ref s1.heap.objs.size,upd H1 s1.heap.objs.size (.tup xs),I1.laid (t':=s1.toks) (λb u e=>O3 _ e) (O2 _) ?_,rfl,q _ hf⟩;exact⟨z,us,r,⟨_,S5 _ rfl,rfl,_,rfl⟩⟩
def BF(h:PA X es t):PE X (.List es pos) (Oh t):=by intro Sa s Y H Q I hq;refine wpAny_List_spliced (Sk (h pos Sa s Y H _ I hq) λus s1 ⟨xs,H1,I1,r,z,q⟩=>⟨by rw[<- r.length];exact z,?_⟩);have hf:H1 s1.heap.objs.size=none:=I1.hok.fresh (O2 _);refine⟨.ref s1.heap.objs.size,upd H1 s1.heap.objs.size (.lst xs),I1.laid (t':=s1.toks) (λb u e=>O3 _ e) (O2 _) ?_,rfl,q _ hf⟩;exact⟨z,us,0,r,S5 _ rfl⟩
end
abbrev Sp:=List V->Hp->VK->XK->Prop
abbrev Ζ:=List Env->Hp->Shared->XK->Value->Shared->Prop
structure xk(P:Pg)(w:Pk)(K:OY)(mg:OQ)(base:Heap)(A:Po)(outer:List Env)(s:OV)(H:Hp):Prop where
 frames:A.frames=some outer
 mod:Mod K mg base
 bs:∀b o,base.get? b=some o->s.heap.get? b=some o/\H b=none
 bsz:base.objs.size<=s.heap.objs.size
 g6:s.heap.FunFrames base outer
 frf:∀b∈TB outer,H b=none
 hok:SK P w H s.heap
 bare:AllBare s.gens
def CE(outer:List Env)(P:Pg)(w:Pk)(H:Hp)(s:OV)(Q:VK)(u:Value)(s':OV):Prop:=
 ∃v H',s'.os=s.os/\AllBare s'.gens/\Un (TB outer) [] H H' s.heap s'.heap/\SK P w H' s'.heap/\RelV v u/\Q v H'
def CR(CX:Ζ)(outer:List Env)(P:Pg)(w:Pk)(H:Hp)(s:OV)(Q:VK)(E:XK)(r:Result)(s':OV):Prop:=
 match r with
 |.ok (.ret u)=>CE outer P w H s Q u s'
 |.ok _=>False
 |.error e=>CX outer H s E e s'
structure yW(P:Pg)(w:Pk)(K:OY)(mg:OQ)(base:Heap)(CX:Ζ)(k:Nat)(f:Addr)(fd:Pl)(ps:OP)(sp:Sp):Prop where
 len:∀vs H Q E,sp vs H Q E->vs.length=ps.length
 run:∀(A:Po)(outer:List Env)(s:OV)(H:Hp)(args:Args)(us:OZ)(vs:Pa) (Q:VK) (E:XK),vf k A->xk P w K mg base A outer s H->BindsTo s fd args (ps.zip us)->Vals vs us->sp vs H Q E->
  codeAny (model P w) A (.call (.ref f) args) (CR CX outer P w H s Q E) s
def yW.imp{P:Pg}{w:Pk}{K:OY}{mg:OQ}{base:Heap}{CX:Ζ}{k:Nat}{f:Addr}{fd:Pl}{ps:OP}{sp sp':Sp}(F:yW P w K mg base CX k f fd ps sp)(h:∀vs H Q E,sp' vs H Q E->sp vs H Q E):yW P w K mg base CX k f fd ps sp':=
 ⟨λvs H Q E q=>F.len vs H Q E (h _ _ _ _ q),λA outer s H args us vs Q E hr he hb hv hs=>F.run A outer s H args us vs Q E hr he hb hv (h _ _ _ _ hs)⟩
def xk.make{P:Pg}{w:Pk}{K:OY}{mg:OQ}{base:Heap}{A:Po}{outer:List Env}{s:OV}{H:Hp}(e:xk P w K mg base A outer s H)(C:Addr)(us:OZ)(kw:PF):
  xk P w K mg base (A.under (.builtin "type.__call__" ⟨.ref C::us,kw⟩)) outer s H:=⟨by first|exact e.frames|(simpa[Around.under,Code.envs,Code.isFrame,pushEnvs]using e.frames),e.mod,e.bs,e.bsz,e.g6,e.frf,e.hok,e.bare⟩
def Inv.oR(I:Inv X Sa Y H s):xk X.prog X.w X.K X.mg X.base X.A X.stack s H:=
 ⟨I.ok.frames,I.ok.mod,I.bs,S6 I.ok.bsz I.sz,I.stack,I.cA,I.hok,I.bare⟩
def Inv.after(I:Inv X Sa Y H s)(h:CE X.stack X.prog X.w H s Q u s'):EP X Sa Y Q u s':=by obtain⟨v,H',os,bare,un,hok,r,q⟩:=h;obtain⟨hh,g,d,t,os'⟩:=s';obtain rfl:os'=s.os:=os;exact⟨v,H',I.call (h':=hh) (g':=g) (d':=d) (t':=t) (ch:=[]) un hok bare (λb z=>absurd z (by simp)),r,q⟩
def LW(sp:Sp)(dvs:Pa)(E:XK)(t:TA):TE:=λY H Q=>t Y H λvs H1=>sp (vs++dvs) H1 Q E
def LX(C:Addr)(sp:Sp)(dvs:Pa)(E:XK)(t:TA):TE:=λY H Q=>t Y H λvs H1=>∀x dx,H1 x=none->H1 dx=none->dx≠x->
 sp (.ref x::(vs++dvs)) (upd (upd H1 dx (.own x)) x (.ins C dx [])) (λv H2=>v=.non/\Q (.ref x) H2) E
def Binds(K:OY)(fd:Pl)(ps:OP)(ds:OZ):Prop:=
 ∀(s:OV)(us:OZ),K.In s.heap->(us++ds).length=ps.length->BindsTo s fd ⟨us,[]⟩ (ps.zip (us++ds))
def Binds.all{K:OY}{fd:Pl}{ps:OP}(h:∀us:List Value,us.length=ps.length->bindArgs fd ⟨us,[]⟩=pure (ps.zip us)):Binds K fd ps []:=λs us _ hl=>by rw[P7]at hl ⊢;exact .of_eq (h us hl)
def Passes(CX:Ζ)(X:Cx)(E:XK):Prop:=∀(Sa:OR)(Y:St)(H:Hp)(s:OV)(e:Value)(s':OV),Inv X Sa Y H s->CX X.stack H s E e s'->X.xe e s'
section
variable {X:Cx}{CX:Ζ}{k:Nat}{f C:Addr}{fd:Pl}{ps:OP}{sp:Sp}{dvs:Pa}{ds:OZ}{E:XK}{x m:Str}{p pos jW:Pos}{e o:Pc}{es:OX}{ta:TE}{t:TA}
def pD(F:yW X.prog X.w X.K X.mg X.base CX k f fd ps sp)(hr:vf k X.A)(hb:Binds X.K fd ps ds)(hd:Vals dvs ds)(hx:Passes CX X E)(I:Inv X Sa Y H s)(r:Vals vs us)(h:sp (vs++dvs) H Q E):wpAny (Rk X) X.A (call (.ref f) us) (EP X Sa Y Q) X.xe s:=by
 have r2:Vals (vs++dvs) (us++ds):=r.append hd;have hl:(us++ds).length=ps.length:=by rw[<- r2.length];exact F.len _ _ _ _ h
 refine ύ (ϙ (F.run X.A X.stack s H ⟨us,[]⟩ (us++ds) (vs++dvs) Q E hr I.oR (hb s us I.kIn hl) r2 h) λr s' hq=>?_);cases r with
 |error e=>exact hx Sa Y H s e s' I hq
 |ok fl=>
  cases fl with
  |ret u=>exact I.after hq
  |next=>exact False.elim hq
  |brk=>exact False.elim hq
  |cont=>exact False.elim hq
def g9(F:yW X.prog X.w X.K X.mg X.base CX k f fd ps sp)(hr:vf k X.A)(hg:Gl X x)(hm:X.mg x=some (.ref f))(hk:PySem.W.keepIn X.K (.ref f)=true)(hb:Binds X.K fd ps ds)(hd:Vals dvs ds)(hx:Passes CX X E)(ha:PA X (e::es) t)(hdb:Rn x:=by decide)(he:starEach (e::es) X.env=(false,eval e X.env)::starEach es X.env:=by rfl)(hpl:(backTo pos (starEach es X.env)).any (·.1)=false:=by rfl):
  PE X (.Call (.Name x p) (e::es) [] pos) (LW sp dvs E t):=by
 intro Sa s Y H Q I h;refine ϯ (JZ I hg hm ?_ hdb);refine a07 (h₀:=X.base) I.ok.mod.kin hk (Sk (ha pos Sa s Y H _ I h) λus s1 ⟨vs,H1,I1,r,q⟩=>⟨I1.kIn,?_⟩) he hpl;exact pD F hr hb hd hx I1 r q
structure Mk(K:OY)(C f:Addr):Prop where
 makes:PySem.W.makesIn K C=true
 init:PySem.W.findIn K (.ref C) "__init__"=some (some (.ref f))
 fn:PySem.W.isFn K (.ref f)=true
 kp:PySem.W.keepIn K (.ref C)=true
def xl(M:Mk X.K C f)(F:yW X.prog X.w X.K X.mg X.base CX k f fd ps sp)(hr:vf (k+1) X.A)(hb:Binds X.K fd ps ds)(hd:Vals dvs ds)(hx:Passes CX X E)(I:Inv X Sa Y H s)(r:Vals vs us)(h:∀x dx,H x=none->H dx=none->dx≠x->sp (.ref x::(vs++dvs)) (upd (upd H dx (.own x)) x (.ins C dx [])) (λv H2=>v=.non/\Q (.ref x) H2) E):
  wpAny (Rk X) X.A (call (.ref C) us) (EP X Sa Y Q) X.xe s:=by
 have hq:=h (s.heap.objs.size+1) s.heap.objs.size (I.hok.fresh (Δ _)) (I.hok.fresh (O2 _)) (P6 (ϋ _));have I2:=Inv.made (C:=C) I;have r2:Vals (V.ref (s.heap.objs.size+1)::(vs++dvs)) (Value.ref (s.heap.objs.size+1)::(us++ds)):=.cons rfl (r.append hd);have hl:(Value.ref (s.heap.objs.size+1)::us++ds).length=ps.length:=by have e:=r2.length;rw[F.len _ _ _ _ hq]at e;exact e.symm
 refine ύ (xj (f:=f) I.kIn M.makes M.init (S9.mp M.fn) (ϙ (F.run _ X.stack _ _ ⟨Value.ref (s.heap.objs.size+1)::us,[]⟩ (Value.ref (s.heap.objs.size+1)::(us++ds)) _ _ E (hr.make C us [])
  (I2.oR.make C us []) (hb _ (Value.ref (s.heap.objs.size+1)::us) I2.kIn hl) r2 hq) λr s' hq'=>?_))
 cases r with
 |error e=>exact hx Sa Y _ _ e s' I2 hq'
 |ok fl=>
  cases fl with
  |ret u=>obtain⟨v,H',I3,rv,ev,q3⟩:=I2.after hq';subst ev;exact⟨rv,⟨V.ref (s.heap.objs.size+1),H',I3,rfl,q3⟩⟩
  |next=>exact False.elim hq'
  |brk=>exact False.elim hq'
  |cont=>exact False.elim hq'
def pE(M:Mk X.K C f)(F:yW X.prog X.w X.K X.mg X.base CX k f fd ps sp)(hr:vf (k+1) X.A)(hg:Gl X x)(hm:X.mg x=some (.ref C))(hb:Binds X.K fd ps ds)(hd:Vals dvs ds)(hx:Passes CX X E)(ha:PA X (e::es) t)(hdb:Rn x:=by decide)(he:starEach (e::es) X.env=(false,eval e X.env)::starEach es X.env:=by rfl)(hpl:(backTo pos (starEach es X.env)).any (·.1)=false:=by rfl):
  PE X (.Call (.Name x p) (e::es) [] pos) (LX C sp dvs E t):=by
 intro Sa s Y H Q I h;refine ϯ (JZ I hg hm ?_ hdb);refine a07 (h₀:=X.base) I.ok.mod.kin M.kp (Sk (ha pos Sa s Y H _ I h) λus s1 ⟨vs,H1,I1,r,q⟩=>⟨I1.kIn,?_⟩) he hpl;exact xl M F hr hb hd hx I1 r q
end
def PK(X:Cx)(kws:List Keyword)(t:TA):Prop:=
 ∀(pos:Pos)(Sa:OR)(s:OV)(Y:St)(H:Hp)(Q:List V->Hp->Prop),Inv X Sa Y H s->t Y H Q->wpAny (Rk X) X.A (evalAll ((backToKw pos (keywordEach kws X.env)).map (·.2))) (AP X Sa Y Q) X.xe s
section
variable {X:Cx}{CX:Ζ}{k:Nat}{f C:Addr}{fd:Pl}{ps ks:OP}{sp:Sp}{E:XK}{x m:Str}{p pos jW kpos:Pos}{e o:Pc}{es:OX}{kws:List Keyword}{te ta:TE}{t tk:TA}{nm:Option Str}
def F0:PK X [] LV:=λ_ _ _ _ H Q I h=>wpAny_evalAll_nil ⟨[],H,I,.nil,h⟩
def Dc(ha:PE X e te)(hr:PK X kws t):PK X (⟨nm,e,kpos⟩::kws) (FZ te t):=by intro pos Sa s Y H Q I h;show wpAny _ _ (evalAll ((do let v<-eval e X.env;standAt pos;pure v)::(backToKw pos (keywordEach kws X.env)).map (·.2))) _ _ s;refine wpAny_evalAll_cons (f8 (Sk (ha Sa s Y H _ I h) λu s1 ⟨x,H1,I1,r1,q1⟩=>f8 (a1A (O5 ?_))));exact Sk (hr pos Sa s1 Y H1 _ I1 q1) λus s2 ⟨xs,H2,I2,r2,q2⟩=>⟨x::xs,H2,I2,.cons r1 r2,q2⟩
variable {g:List Value->List Value->List Value}{gV:List V->List V->List V}
end
structure zy(N P:OP)(sc:Scope):Prop where
 kind:sc.kind=.function
 co:sc.isCoroutine=false
 gen:sc.isGenerator=false
 nd:N.Nodup
 pre:N.take P.length=P
 par:∀x∈P,sc.names.lookup x=some .local\/sc.names.lookup x=some .cell
 IS:∀y∈sc.names,y.2≠.free
def eC{kindOf:PU}{x:Str}:∀{binds:PF}{m:OQ},(∀v,(x,v)∉binds)->bindL kindOf binds m x=m x
 |[],_,_=>rfl
 | (n,v)::r,m,h=>by
  unfold bindL;rw[eC λw hw=>h w (O4 _ hw)];split
  .have:x≠n:=by rintro rfl;exact h v O0
   simp[this]
  .rfl
def eD{kindOf:PU}{x:Str}:∀{binds:PF}{m:OQ},(∀v,(x,v)∉binds)->bindC kindOf binds m x=m x
 |[],_,_=>rfl
 | (n,v)::r,m,h=>by
  unfold bindC;rw[eD λw hw=>h w (O4 _ hw)];split
  .rfl
  .have:x≠n:=by rintro rfl;exact h v O0
   simp[this]
def eE{kindOf:PU}{x:Str}{v:Value}:∀{P:OP}{vs:OZ}{i:Nat}{m:OQ},P.Nodup->P[i]?=some x->vs[i]?=some v->kindOf x=some .local->
  bindL kindOf (P.zip vs) m x=some v
 |[],_,_,_,_,h,_,_=>by simp at h
 |_::_,[],_,_,_,_,h,_=>by simp at h
 |p::P,w::vs,0,m,nd,h1,h2,hk=>by simp at h1 h2;subst h1;subst h2;show bindL kindOf ((p,w)::P.zip vs) m p=_;unfold bindL;rw[eC λv hv=>(ϊ.mp nd).1 (a2z hv).1,if_pos hk];simp
 |p::P,w::vs,i+1,m,nd,h1,h2,hk=>by show bindL kindOf ((p,w)::P.zip vs) m x=_;unfold bindL;exact eE (i:=i) (ϊ.mp nd).2 (by simpa using h1) (by simpa using h2) hk
def eF{kindOf:PU}{x:Str}{v:Value}:∀{P:OP}{vs:OZ}{i:Nat}{m:OQ},P.Nodup->P[i]?=some x->vs[i]?=some v->kindOf x≠some .local->
  bindC kindOf (P.zip vs) m x=some v
 |[],_,_,_,_,h,_,_=>by simp at h
 |_::_,[],_,_,_,_,h,_=>by simp at h
 |p::P,w::vs,0,m,nd,h1,h2,hk=>by simp at h1 h2;subst h1;subst h2;show bindC kindOf ((p,w)::P.zip vs) m p=_;unfold bindC;rw[eD λv hv=>(ϊ.mp nd).1 (a2z hv).1,if_neg hk];simp
 |p::P,w::vs,i+1,m,nd,h1,h2,hk=>by show bindC kindOf ((p,w)::P.zip vs) m x=_;unfold bindC;exact eF (i:=i) (ϊ.mp nd).2 (by simpa using h1) (by simpa using h2) hk
def start(N:OP)(vs:Pa):St:=vs.map some++List.replicate (N.length-vs.length) none
def nN(CX:Ζ)(P:Pg)(w:Pk)(K:OY)(mg:OQ)(base:Heap)(N:OP)(qual:Str)(scope:Scope)(f:Addr)(cd:Value)(A:Po)(outer:List Env)(s:OV)(H:Hp)(E:XK):Cx where
 prog:=P
 w:=w
 K:=K
 mg:=mg
 base:=base
 A:=A.deeper (envOfC qual scope s.heap.objs.size f cd)
 N:=N
 s₀:=s
 H₀:=H
 env:=envOfC qual scope s.heap.objs.size f cd
 outer:=outer
 stack:=envOfC qual scope s.heap.objs.size f cd::outer
 ex:=[]
 calm:=true
 fn:=λ_=>true
 pn:=[]
 xe:=λe s'=>wpAny (model P w) (A.deeper (envOfC qual scope s.heap.objs.size f cd)) (leaving (envOfC qual scope s.heap.objs.size f cd) e) (λ_ s''=>CX outer H s E e s'') (λe' s''=>CX outer H s E e' s'') s'
def lI{sc:Scope}{n:Nat}{x:Str}(h:sc.names.lookup x=some .cell):∃c,(cellsFrom n sc.names []).lookup x=some c:=by have q:=a2D sc.names n [] (.inl h);exact a0u.mp q
def pF{CX:Ζ}{P:Pg}{w:Pk}{K:OY}{mg:OQ}{base:Heap}{N ps:OP}{qual:Str}{scope:Scope}{f:Addr}{cd:Value}{A:Po}{outer:List Env}{s s1:OV}{H:Hp}{E:XK}{us:OZ}{vs:Pa}(S:zy N ps scope)(hd:A.handled=none)(e0:xk P w K mg base A outer s H)(hl:vs.length=ps.length)(r:Vals vs us)(x:InCallC s s.heap.objs.size (bindL (envOfC qual scope s.heap.objs.size f cd).kindOf (ps.zip us) λ_=>none) (cellsFrom (s.heap.objs.size+1) scope.names []) (bindC (envOfC qual scope s.heap.objs.size f cd).kindOf (ps.zip us) λ_=>none) s1):
  Inv (nN CX P w K mg base N qual scope f cd A outer s H E) [] (start N vs) H s1:=by
 have hpl:ps.length<=N.length:=by have:=SS List.length S.pre;rw[ϭ]at this;omega
 obtain⟨h1,tk,rfl,hk⟩:=x.done;have noA:∀b:Addr,b∉(nN CX P w K mg base N qual scope f cd A outer s H E).ex:=λb z=>absurd (show b∈([]:List Addr)from z) (by simp);refine⟨⟨e0.mod,S.kind,rfl,rfl,O2 _,λy z c h1 h2=>?_,λy hy=>?_,λy c _ h=>?_,λ_=>hd,Around.frames_deeper e0.frames,.inr ⟨rfl,rfl⟩,λb z=>absurd z (noA b),e0.bs,e0.bsz,λb _ _=>noA b,λb z=>absurd z (noA b),e0.g6,e0.frf⟩,
  rfl,e0.bare,Un.kept hk,⟨_,x.toInCall.ns,λi y v h1 h2 h3=>?_⟩,λy c h=>⟨_,x.cell y c h⟩,e0.hok.fresh (O2 _),λy c h=>?_,λp hp=>absurd (show p∈([]:List (Addr×Obj))from hp) (by simp),e0.hok.kept hk,?_⟩
 .exact name_of_addr x.apart (a02 h1) (a02 h2)
 .have hy:scope.names.lookup y=some .cell\/scope.names.lookup y=some .free:=hy;rcases hy with hy|hy
  .exact lI hy
  .exact absurd rfl (S.IS _ (a02 hy))
 .exact a1I (x.above y c (a02 h))
 .have hi:i<vs.length:=by
   unfold start at h2;by_cases hi:i<vs.length
   .exact hi
   .rw[ϩ (by simpa using hi)]at h2;rw[a0M]at h2;split at h2<;>cases h2
  have ha:vs[i]?=some v:=by
   unfold start at h2;rw[T9 (by simpa using hi),S7]at h2;cases e:vs[i]? with
   |none=>rw[e]at h2;cases h2
   |some a=>rw[e]at h2;cases h2;rfl
  obtain⟨u,hu,rv⟩:=r.get ha;have hp:ps[i]?=some y:=by rw[<- S.pre,List.getElem?_take_of_lt (by omega)];exact h1
  have ndP:ps.Nodup:=by rw[<- S.pre];exact S.nd.sublist (List.take_sublist _ _)
  refine⟨u,rv,?_⟩;rcases S.par y (ϧ hp)with k|k
  .exact .inl ⟨k,eE ndP hp hu k⟩
  .obtain⟨c,e⟩:=lI (n:=s.heap.objs.size+1) k;refine .inr ⟨.inl k,c,e,?_⟩;have q:=x.cell y c e;rw[eF ndP hp hu (by show scope.names.lookup y≠_;rw[k];decide)]at q;exact q
 .exact e0.hok.fresh (a1I (x.above y c (a02 h)))
 .unfold start;show _=N.length;rw[O1,u8,a0S];omega
def LY{CX:Ζ}{P:Pg}{w:Pk}{K:OY}{mg:OQ}{base:Heap}{k:Nat}{f:Addr}{name qual:Str}{params:Arguments}{body:Pt}{scope:Scope}{dV kV doc pm cdv ct oc:Value}{an od:PC}{osl:Py}{N ps:OP}{sp:Sp}(lk:K.lookup f=some ⟨oc,od,.func (PySem.W.fnOf name qual params body scope dV kV doc pm an cdv ct),osl⟩)(hcd:PySem.W.codeIn K cdv qual=true)(S:zy N ps scope)(len:∀vs H Q E,sp vs H Q E->vs.length=ps.length)(oO:∀(A:Po)(outer:List Env)(s:OV)(H:Hp)(vs:Pa)(Q:VK)(E:XK),vf k (A.deeper (envOfC qual scope s.heap.objs.size f cdv))->sp vs H Q E-> ∃t,TR (nN CX P w K mg base N qual scope f cdv A outer s H E) body t/\t { nx:=λ_ H'=>Q .non H',rt:=Q } (start N vs) H):
  yW P w K mg base CX (k+1) f (PySem.W.fnOf name qual params body scope dV kV doc pm an cdv ct) ps sp:=by
 refine⟨len,λA outer s H args us vs Q E hr e0 hb r Ts=>?_⟩;have hl:=len _ _ _ _ Ts;have KX:K.In s.heap:=e0.mod.kin.keeps λb o e=>(e0.bs b o e).1;have lim:s.heap.NoLimit:=e0.mod.nolimit.keeps λb o e=>(e0.bs b o e).1;have hkind:∀y∈ps.zip us,scope.names.lookup y.1=some .local\/(scope.names.lookup y.1=some .cell/\((cellsFrom (s.heap.objs.size+1) scope.names []).lookup y.1).isSome=true):=λ⟨n,v⟩ hy=>by
  rcases S.par n (a2z hy).1 with q|q
  .exact .inl q
  .exact .inr ⟨q,a2D _ _ _ (.inl q)⟩
 refine codeAny_call_function hr.depth (KX _ _ lk) rfl S.co S.gen rfl (PySem.W.codeRec_of KX hcd) (hb _ _ _ _ ?_);refine wpAny_newFunctionEnv_cells S.kind hkind λenv he s1 x=>?_;subst he;refine⟨lim.keeps x.toInCall.keep,codeAny_func ?_⟩;obtain⟨t,ht,hq⟩:=oO A outer s H vs Q E (hr.deeper _) Ts;have I:Inv (nN CX P w K mg base N qual scope f cdv A outer s H E) [] (start N vs) H s1:=pF S hr.hd e0 hl r x;refine Tg (ht [] s1 (start N vs) H _ I hq) (λfl s' hs=>?_) λe s' hs=>hs;have fin:∀{Y':St}{H':Hp}{v:V}{u:Value},Inv (nN CX P w K mg base N qual scope f cdv A outer s H E) [] Y' H' s'->RelV v u->Q v H'->CE outer P w H s Q u s':=
  λ{Y' H' v u} J rv q=>⟨v,H',J.os,J.bare,J.base,J.hok,rv,q⟩
 cases fl with
 |ret u=>obtain⟨v,Y',H',J,rv,q⟩:=hs;exact fin J rv q
 |next=>obtain⟨Y',H',J,q⟩:=hs;exact fin (v:=V.non) (u:=Value.none) J rfl q
 |brk=>obtain⟨_,_,_,q⟩:=hs;exact False.elim q
 |cont=>obtain⟨_,_,_,q⟩:=hs;exact False.elim q
section
variable {X:Cx}{x:Str}{p pos:Pos}{e:Pc}{es:OX}{t:TA}{id T:String}{r:List V->Hp->VK->Prop}
def tCB(r:List V->Hp->VK->Prop)(t:TA):TE:=λY H Q=>t Y H λvs H1=>r vs H1 Q
def lJ(hc:ZV X (.builtin id) r)(hg:Gl X x)(hm:X.mg x=none)(hv:bootBuiltins x=some (.builtin id))(ha:PA X (e::es) t)(hn:x≠"__name__":=by decide)(hdb:Rn x:=by decide)(he:starEach (e::es) X.env=(false,eval e X.env)::starEach es X.env:=by rfl)(hpl:(backTo pos (starEach es X.env)).any (·.1)=false:=by rfl):PE X (.Call (.Name x p) (e::es) [] pos) (tCB r t):=by
 intro Sa s Y H Q I h;refine ϯ (bL I hg hm hv ?_ hn hdb);exact PyProof.Rows.callWith_builtin1 (Sk (ha pos Sa s Y H _ I h) λus s1 ⟨vs,H1,I1,r1,q1⟩=>hc Sa s1 Y H1 vs us Q I1 r1 q1) he hpl
def eG(hc:ZV X (.type T) r)(hg:Gl X x)(hm:X.mg x=none)(hv:bootBuiltins x=some (.type T))(ha:PA X (e::es) t)(hn:x≠"__name__":=by decide)(hdb:Rn x:=by decide)(he:starEach (e::es) X.env=(false,eval e X.env)::starEach es X.env:=by rfl)(hpl:(backTo pos (starEach es X.env)).any (·.1)=false:=by rfl):PE X (.Call (.Name x p) (e::es) [] pos) (tCB r t):=by
 intro Sa s Y H Q I h;refine ϯ (bL I hg hm hv ?_ hn hdb);exact a1j (Sk (ha pos Sa s Y H _ I h) λus s1 ⟨vs,H1,I1,r1,q1⟩=>hc Sa s1 Y H1 vs us Q I1 r1 q1) he hpl
end
end L2
namespace HT
open PySem PyProof.Rows
section
open PySem.SeqAt
open PySem.AutoSeq1 (wpAny_loadPart')
open PySem.MeetsSeq PySem.MeetsSeq2 PySem.MeetsSeq3
end
section
variable {prog:Pg}{w:Pk}{A:Po}{E:OT}{s:OV}
def Dd(ht:IsTup s.heap t vs.toArray)(hb:IsTup s.heap b ws.toArray)(hv:vs≠[])(h1:ws=[]->Q (.ref t) s)(h2:ws≠[]->Q (.ref s.heap.objs.size) { s with heap:=s.heap.push { cls:=.type "tuple",data:=.seq (vs++ws).toArray } })(hsz:vs.length+ws.length<=sizeLine):wpAny (model prog w) A (binaryOp .Add (.ref t) (.ref b)) Q E s:=by
 obtain⟨⟨cls,dd,data,sl⟩,ho,hc,n,hd⟩:=id ht;obtain⟨⟨cls2,dd2,data2,sl2⟩,ho2,hc2,n2,hd2⟩:=id hb;simp only at hc hd hc2 hd2;subst hc hd hc2 hd2;have e:vs.toArray++ws.toArray=(vs++ws).toArray:=by simp
 by_cases hw:ws=[]
 .exact concat_meets ⟨_,ho,rfl⟩ ⟨_,ho2,rfl⟩ noFill_tuple_add seq_tuple_add a2E a2x (a2g _ _)
   (tuple_addW1 t b vs.toArray ws.toArray n n2 dd dd2 sl sl2 (by simpa using hv) (by simp[hw])) ⟨ho,ho2,h1 hw⟩
 .refine concat_meets ⟨_,ho,rfl⟩ ⟨_,ho2,rfl⟩ noFill_tuple_add seq_tuple_add a2E a2x (a2g _ _)
   (tuple_addW2 t b vs.toArray ws.toArray n n2 dd dd2 sl sl2 (by simpa using hv) (by simpa using hw) (by rw[List.size_toArray,List.size_toArray];exact hsz)) ⟨ho,ho2,?_⟩
  rw[e];exact h2 hw
def sIx(n d:Nat):Option Int->Nat
 |none=>d
 |some v=>if v<0 then(v+(n:Int)).toNat else min v.toNat n
def F1(n d:Nat)(hd:d<=n)(o:Pz):sIx n d o<=n:=by
 cases o with
 |none=>exact hd
 |some v=>
  show(if v<0 then(v+(n:Int)).toNat else min v.toNat n)<=n;by_cases hv:v<0
  .rw[if_pos hv];omega
  .rw[if_neg hv];exact Nat.min_le_right _ _
def pG(v:Int)(n d:Nat):(if v<0 then max (v+(n:Int)) 0 else min v (n:Int))=((sIx n d (some v):Nat):Int):=by
 show(if v<0 then max (v+(n:Int)) 0 else min v (n:Int))=(((if v<0 then(v+(n:Int)).toNat else min v.toNat n):Nat):Int);by_cases hv:v<0
 .simp only[if_pos hv];omega
 .simp only[if_neg hv];omega
def nO(lo hi:Pz)(n:Nat):Builtin.Slice.sliceAdjust lo hi 1 (n:Int)=(((sIx n 0 lo:Nat):Int),((sIx n n hi:Nat):Int)):=by
 have h1:¬((1:Int)<0):=by omega
 unfold Builtin.Slice.sliceAdjust;simp only[h1,if_false];refine a3h ?_ ?_
 .cases lo with
  |none=>rfl
  |some v=>exact pG v n 0
 .cases hi with
  |none=>rfl
  |some v=>exact pG v n n
def nP(i j:Nat):Builtin.Slice.slicePlaces (i:Int) (j:Int) 1=j-i:=by
 unfold Builtin.Slice.slicePlaces;have h1:(1:Int)>0:=by omega
 simp only[h1,if_true,Int.ediv_one];split<;>omega
def bO(p:IsPart v o)(h:Q o s):wpAny (model prog w) A (Builtin.Slice.slicePartIndex v) Q E s:=by
 cases p with
 |none=>exact slicePart_none h
 |int i t=>exact slicePart_int h
def Xj{sl:Addr}{vl vu:Value}{lo hi:Pz}{n:Nat}{Q:Int×Int×Nat->Shared->Prop}(hs:s.heap.IsSliceOf sl vl vu .none)(pl:IsPart vl lo)(pu:IsPart vu hi)(h:Q (((sIx n 0 lo:Nat):Int),1,sIx n n hi-sIx n 0 lo) s):wpAny (model prog w) A (Builtin.Slice.sliceApplied (.ref sl) (pure (n:Int))) Q E s:=by
 obtain⟨os,hos,hcs,hds⟩:=id hs;unfold Builtin.Slice.sliceApplied Builtin.Slice.sliceFields;refine f8 (f8 (ϕ hos hds (x:=vl) rfl (f8 (ϕ hos hds (x:=vu) rfl (f8 (ϕ hos hds (x:=.none) rfl (O5 ?_)))))));refine f8 (slicePart_none ?_);show wpAny _ _ (if((1:Int)==0)=true then _ else _) _ _ s;rw[if_neg (by decide)];refine f8 (bO pl (f8 (bO pu (f8 (O5 ?_)))));show wpAny _ _ (match Builtin.Slice.sliceAdjust lo hi 1 (n:Int)with|(lo,hi)=>pure (lo,(1:Int),Builtin.Slice.slicePlaces lo hi 1)) _ _ s;rw[nO lo hi n];show wpAny _ _ (pure (((sIx n 0 lo:Nat):Int),(1:Int),Builtin.Slice.slicePlaces ((sIx n 0 lo:Nat):Int) ((sIx n n hi:Nat):Int) 1)) _ _ s;rw[nP];exact O5 h
def xm(xs:PQ)(i k:Nat):((List.range k).filterMap λ(m:Nat)=>xs[((i:Int)+(m:Int)*1).toNat]?).toArray=((xs.toList.drop i).take k).toArray:=by
 have e:(λ(m:Nat)=>xs[((i:Int)+(m:Int)*1).toNat]?)=λm=>xs[i+m]?:=by
  funext m
  have:((i:Int)+(m:Int)*1).toNat=i+m:=by omega
  rw[this]
 rw[e];have:=pick_run xs i k;rw[List.filterMap_map]at this;have e2:((λx=>xs[x]?)∘λx=>i+x)=λm=>xs[i+m]?:=rfl;rw[e2]at this;rw[this]
def V4{t sl:Addr}{items:PQ}{vl vu:Value}{lo hi:Pz}{Q:OT}(ht:IsTup s.heap t items)(hs:s.heap.IsSliceOf sl vl vu .none)(pl:IsPart vl lo)(pu:IsPart vu hi)(hw:¬(sIx items.size 0 lo=0/\sIx items.size items.size hi=items.size))(h:Q (.ref s.heap.objs.size) { s with heap:=s.heap.push { cls:=.type "tuple",data:=.seq ((items.toList.drop (sIx items.size 0 lo)).take (sIx items.size items.size hi-sIx items.size 0 lo)).toArray } })(hsz:items.size<=sizeLine):wpAny (model prog w) A (getItem (.ref t) (.ref sl)) Q E s:=by
 have htake:sizeOk (.seq ((items.toList.drop (sIx items.size 0 lo)).take (sIx items.size items.size hi-sIx items.size 0 lo)).toArray):=by show((items.toList.drop (sIx items.size 0 lo)).take (sIx items.size items.size hi-sIx items.size 0 lo)).toArray.size<=sizeLine;rw[P0,ϭ,Ϛ,a0O];omega
 have hj:sIx items.size items.size hi<=items.size:=F1 _ _ (O2 _) hi;obtain⟨os,hos,hcs,hds⟩:=id hs;have hTs:s.TypeIs (.ref sl) "slice":=⟨os,hos,hcs⟩;unfold getItem
 try with_reducible refine ρ ?_
 first|refine f8 (O5 ?_)|skip
 refine f8 (wpAny_sequenceKey ht.typeIs (by decide) ?_);refine f8 (wpAny_callSpecial?_slot (name:=Str.ofString "__getitem__") ht.typeIs a1H
  (wpAny_call_entry a1H ht.typeIs entry_tuple_getitem ?_ (args_tuple_getitem _ _)))
 show wpAny _ _ (Builtin.Tuple.tupleItemsOf (.ref t) >>= _) _ _ s;refine f8 (tupleItemsOf_ ht ?_);refine f8 (ϥ hTs ?_);rw[if_pos (by decide)];refine f8 (Xj hs pl pu ?_);have hno:¬((((sIx items.size 0 lo:Nat):Int)==0&&(1:Int)==1&&(sIx items.size items.size hi-sIx items.size 0 lo)==items.size)=true):=by intro q;rw[a1B,a1B]at q;have q1:((sIx items.size 0 lo:Nat):Int)=0:=eq_of_beq q.1.1;have q2:sIx items.size items.size hi-sIx items.size 0 lo=items.size:=eq_of_beq q.2;exact hw ⟨by omega,by omega⟩
 show wpAny _ _ (if(((sIx items.size 0 lo:Nat):Int)==0&&(1:Int)==1&&(sIx items.size items.size hi-sIx items.size 0 lo)==items.size)=true then _ else _) _ _ s;rw[if_neg hno,xm]
 first
  |exact f8 (m:=Builtin.Tuple.tupleExact _) (Ϙ (O5 ⟨_,rfl,O5 h⟩) htake)
  |exact f8 (m:=Builtin.Tuple.tupleExact _) (Ϙ (f8 (O5 (O5 ⟨_,rfl,O5 h⟩))) htake)
  |exact f8 (f8 (m:=Builtin.Tuple.tupleExact _) (Ϙ (O5 (O5 ⟨_,rfl,O5 h⟩)) htake))
  |exact f8 (f8 (m:=Builtin.Tuple.tupleExact _) (Ϙ (O5 ⟨_,rfl,O5 h⟩) htake))
end
end HT
namespace L2
open PySem PySem.Spec PyProof.Rows
abbrev TO:=St->Hp->(Option Int->Hp->Prop)->Prop
def PO(X:Cx)(e:Rb)(t:TO):Prop:=
 ∀(Sa:OR)(s:OV)(Y:St)(H:Hp)(Q:Option Int->Hp->Prop),Inv X Sa Y H s->t Y H Q->
  wpAny (Rk X) X.A (evalPart e X.env) (λu s'=>∃o H',Inv X Sa Y H' s'/\IsPart u o/\Q o H') X.xe s
def De:TO:=λ_ H Q=>Q none H
def LZ(t:TE):TO:=λY H Q=>t Y H λx H1=>∃i,x=.int i/\Q (some i) H1
section
variable {X:Cx}{e:Pc}{te:TE}{lo hi:Rb}{tl th:TO}{pos p2:Pos}
def Df:PO X none De:=by intro Sa s Y H Q I h;rw[evalPart_none];exact O5 ⟨none,H,I,.none,h⟩
def Dg(h:PE X e te):PO X (some e) (LZ te):=by intro Sa s Y H Q I hw;rw[evalPart_some];refine Sk (h Sa s Y H _ I hw) λu s1 ⟨x,H1,I1,r1,q1⟩=>?_;obtain⟨i,rfl,q⟩:=q1;obtain⟨t,rfl⟩:=r1;exact⟨some i,H1,I1,.int i t,q⟩
def ϛ(X:Cx)(r:V->Option Int->Option Int->Hp->VK->Prop):Prop:=
 ∀(Sa:OR)(s:OV)(Y:St)(H:Hp)(x:V)(v vl vu:Value)(lo hi:Pz) (sl:Addr) (Q:VK),Inv X Sa Y H s->RelV x v->s.heap.IsSliceOf sl vl vu .none->IsPart vl lo->IsPart vu hi->r x lo hi H Q->
  ∃T id,typeLookup (.type T) "__getitem__"=pure (some (.builtin id))/\s.TypeIs v T/\wpAny (Rk X) X.A (getItem v (.ref sl)) (EP X Sa Y Q) X.xe s
def ϛ.or(h:ϛ X r)(h':ϛ X r'):ϛ X (λx lo hi H Q=>r x lo hi H Q\/r' x lo hi H Q):=by
 intro Sa s Y H x v vl vu lo hi sl Q I rx hs pl pu q;rcases q with q|q
 .exact h Sa s Y H x v vl vu lo hi sl Q I rx hs pl pu q
 .exact h' Sa s Y H x v vl vu lo hi sl Q I rx hs pl pu q
def tSl(r:V->Option Int->Option Int->Hp->VK->Prop)(te:TE)(tl th:TO):TE:=λY H Q=>te Y H λx H1=>tl Y H1 λl H2=>th Y H2 λu H3=>r x l u H3 Q
def lK(hr:ϛ X r)(he:PE X e te)(hl:PO X lo tl)(hu:PO X hi th):PE X (.Subscript e (.Slice lo hi none p2) pos) (tSl r te tl th):=by intro Sa s Y H Q I h;refine Subscript_ (Sk (he Sa s Y H _ I h) λv s1 ⟨x,H1,I1,r1,q1⟩=>?_);refine wpAny_Slice (Sk (hl Sa s1 Y H1 _ I1 q1) λvl s2 ⟨l,H2,I2,pl,q2⟩=>Sk (hu Sa s2 Y H2 _ I2 q2) λvu s3 ⟨u,H3,I3,pu,q3⟩=>?_);rw[evalPart_none];refine O5 ?_;have I4:Inv X Sa Y H3 { s3 with heap:=s3.heap.push { cls:=.type "slice",data:=.fields #[vl,vu,.none] } }:=I3.kept (t':=s3.toks) λb ob q=>O3 _ q;obtain⟨T,id,hT,ht,hg⟩:=hr Sa { s3 with heap:=s3.heap.push { cls:=.type "slice",data:=.fields #[vl,vu,.none] } } Y H3 x v vl vu l u s3.heap.objs.size Q I4 r1 (Heap.IsSliceOf.new ..) pl pu q3;show wpAny (Rk X) X.A (subscriptTail e (.Slice lo hi none p2) v (.ref s3.heap.objs.size)) (EP X Sa Y Q) X.xe { s3 with heap:=s3.heap.push { cls:=.type "slice",data:=.fields #[vl,vu,.none] } };exact tail_any (ops:=[.ref s3.heap.objs.size,v]) ht hT hg (by with_unfolding_all rfl)
def uV(xs:Pa)(lo hi:Pz):List V:=(xs.drop (HT.sIx xs.length 0 lo)).take (HT.sIx xs.length xs.length hi-HT.sIx xs.length 0 lo)
def Uc(xs:Pa)(lo hi:Pz):(uV xs lo hi).length<=xs.length:=by unfold uV;rw[ϭ,Ϛ];omega
def Oi(K:OY):V->Option Int->Option Int->Hp->VK->Prop:=λx lo hi H Q=>∃a xs,x=.ref a/\SN K H a xs/\
 ¬(HT.sIx xs.length 0 lo=0/\HT.sIx xs.length xs.length hi=xs.length)/\∀p,H p=none->Q (.ref p) (upd H p (.tup (uV xs lo hi)))
def F3:ϛ X (Oi X.K):=by
 intro Sa s Y H x v vl vu lo hi sl Q I rx hs pl pu h;obtain⟨a,xs,rfl,hx,hw,q⟩:=h;cases rx;obtain⟨Sf,r,ht,hz⟩:=I.tuple hx;have hlen:Sf.toArray.size=xs.length:=by rw[P0];exact r.length.symm
 refine⟨"tuple",_,PyProof.Rows.slot_tuple_getitem.lookup,ht.typeIs,?_⟩;refine HT.V4 ht hs pl pu (by rw[hlen];exact hw) ?_ (by rw[hlen];exact hz);rw[hlen];refine⟨.ref s.heap.objs.size,_,I.laid (t':=s.toks) (o:=.tup (uV xs lo hi)) (λb ob q=>O3 _ q) (O2 _) ?_,rfl,q _ (I.hok.fresh (O2 _))⟩;exact⟨S6 (Uc xs lo hi) hz,_,(r.drop (HT.sIx xs.length 0 lo)).take (HT.sIx xs.length xs.length hi-HT.sIx xs.length 0 lo),IsTup.new _ _⟩
def F4(K:OY):R2:=λx y H Q=>∃a b xs ys,x=.ref a/\y=.ref b/\SN K H a xs/\SN K H b ys/\xs≠[]/\xs.length+ys.length<=sizeLine/\
 (ys=[]->Q (.ref a) H)/\(ys≠[]->∀p,H p=none->Q (.ref p) (upd H p (.tup (xs++ys))))
def Vals.g_(r:Vals xs us):us=[]↔xs=[]:=by
 cases r with
 |nil=>simp
 |cons _ _=>simp
def Dh:Sx X (binaryOp .Add) (F4 X.K):=by intro Sa s Y H x y v u Q I rx ry h;obtain⟨a,b,xs,ys,rfl,rfl,ha,hb,hx,hz,q1,q2⟩:=h;cases rx;cases ry;obtain⟨Sf,r1,p1,_⟩:=I.tuple ha;obtain⟨its2,r2,p2,_⟩:=I.tuple hb;refine HT.Dd p1 p2 (λz=>hx (r1.g_.mp z)) (λz=>⟨.ref a,H,I,rfl,q1 (r2.g_.mp z)⟩) (λz=>?_) (by rw[<- r1.length,<- r2.length];exact hz);refine⟨.ref s.heap.objs.size,_,I.laid (t':=s.toks) (o:=.tup (xs++ys)) (λb ob q=>O3 _ q) (O2 _) ?_,rfl,q2 (λw=>z (r2.g_.mpr w)) _ (I.hok.fresh (O2 _))⟩;exact⟨by rw[O1];exact hz,_,r1.append r2,IsTup.new _ _⟩
end
def ixN(n:Nat)(i:Int):Option Nat:=if 0<=i then(if i<n then some i.toNat else none)else if -(n:Int)<=i then some (i+n).toNat else none
def SV{α:Type}(xs:List α)(i:Int):Option α:=(ixN xs.length i).bind λj=>xs[j]?
def Di(h:ixN n i=some j):seqIndex? i n=some j/\j<n/\-(n:Int)<=i/\i<n:=by
 unfold ixN at h;by_cases h0:0<=i
 .rw[if_pos h0]at h;by_cases h1:i<n
  .rw[if_pos h1]at h;have e:i.toNat=j:=ν h;exact⟨by rw[seqIndex_of h0 h1,e],by omega,by omega,h1⟩
  .rw[if_neg h1]at h;cases h
 .rw[if_neg h0]at h;by_cases h1:-(n:Int)<=i
  .rw[if_pos h1]at h;have e:(i+n).toNat=j:=ν h;exact⟨by rw[seqIndex_neg (by omega) h1,e],by omega,h1,by omega⟩
  .rw[if_neg h1]at h;cases h
def hU{α:Type}{xs:List α}{v:α}(h:SV xs i=some v):∃j,seqIndex? i xs.length=some j/\xs[j]?=some v/\j<xs.length/\-(xs.length:Int)<=i/\i<xs.length:=by
 unfold SV at h;cases e:ixN xs.length i with
 |none=>rw[e]at h;cases h
 |some j=>rw[e]at h;obtain⟨h1,h2,h3,h4⟩:=Di e;exact⟨j,h1,h,h2,h3,h4⟩
def Ud(b:Pc):Prop:=∀o i,subscripted b false o i=operate [o,i] (getItem o i)
def Ϗ(X:Cx)(r:R2):Prop:=
 ∀(value slice:Pc)(Sa:OR)(s:OV)(Y:St)(H:Hp)(x y:V)(v u:Value) (Q:VK),Inv X Sa Y H s->RelV x v->RelV y u->r x y H Q->
  subscripted slice false v u=operate [v,u] (getItem v u)->wpAny (Rk X) X.A (subscriptTail value slice v u) (EP X Sa Y Q) X.xe s
def MtR(X:Cx)(id:String)(r:V->List V->Hp->VK->Prop):Prop:=
 ∀(Sa:OR)(s:OV)(Y:St)(H:Hp)(x:V)(xs:Pa)(v:Value) (us:OZ) (Q:VK),Inv X Sa Y H s->RelV x v->Vals xs us->r x xs H Q->
  wpAny (Rk X) X.A (call (.builtin id) (v::us)) (EP X Sa Y Q) X.xe s
section
variable {X:Cx}{a b:Pc}{ta tb:TE}{pos:Pos}
def Ϗ.or(h:Ϗ X r)(h':Ϗ X r'):Ϗ X (λx y H Q=>r x y H Q\/r' x y H Q):=by
 intro value slice Sa s Y H x y v u Q I rx ry q hs;rcases q with q|q
 .exact h value slice Sa s Y H x y v u Q I rx ry q hs
 .exact h' value slice Sa s Y H x y v u Q I rx ry q hs
def Dj(hr:Ϗ X r)(ha:PE X a ta)(hb:PE X b tb)(hs:Ud b):PE X (.Subscript a b pos) (Ϲ r ta tb):=by intro Sa s Y H Q I h;exact Subscript_ (LM ha hb I h λv u s2 x y H2 I2 rx ry q=>hr a b Sa s2 Y H2 x y v u Q I2 rx ry q (hs _ _))
def Nx(K:OY):R2:=λx y H Q=>∃p xs i v,x=.ref p/\y=.int i/\Sq K H p xs/\SV xs i=some v/\Q v H
def Ny(K:OY):R2:=λx y H Q=>∃p xs i v,x=.ref p/\y=.int i/\SN K H p xs/\SV xs i=some v/\Q v H
def Nz:R2:=λx y H Q=>∃z i c,x=.str z/\y=.int i/\z.length<=sizeLine/\SV z.cps.toList i=some c/\Q (.str ⟨#[c]⟩) H
def Dk:Ϗ X (Nx X.K):=by
 intro value slice Sa s Y H x y v u Q I rx ry h hs;obtain⟨p,xs,i,z,rfl,rfl,hq,he,q⟩:=h;cases rx;obtain⟨t,rfl⟩:=ry;obtain⟨Sf,r,pl,hz⟩:=I.list hq;obtain⟨j,h1,h2,h3,h4,h5⟩:=hU he;obtain⟨w,ew,rw'⟩:=r.get h2;have hl:=r.length;have hn:=lH;have fin:EP X Sa Y Q w s:=⟨z,H,I,rw',q⟩;by_cases h0:0<=i
 .have hj:i.toNat=j:=by rw[seqIndex_of h0 h5]at h1;exact ν h1
  exact item_listR pl.isList h0 (by omega) (by rw[hj];simpa using ew) fin hs
 .have hj:(i+(Sf.toArray.size:Int)).toNat=j:=by rw[seqIndex_neg (by omega) h4]at h1;rw[P0,<- hl];exact ν h1
  exact a2F (x:=w) pl.isList.typeIs slot_list_getitem.lookup
   (wpAny_getItem_list_neg (Q:=λr s'=>r=w/\EP X Sa Y Q r s') pl.isList (by omega) (by rw[P0]<;>omega) (by omega) (by rw[hj];simpa using ew) ⟨rfl,fin⟩) hs
def F5:Ϗ X (Ny X.K):=by
 intro value slice Sa s Y H x y v u Q I rx ry h hs;obtain⟨p,xs,i,z,rfl,rfl,hq,he,q⟩:=h;cases rx;obtain⟨t,rfl⟩:=ry;obtain⟨Sf,r,pl,hz⟩:=I.tuple hq;obtain⟨j,h1,h2,h3,h4,h5⟩:=hU he;obtain⟨w,ew,rw'⟩:=r.get h2;have hl:=r.length;have hn:=lH;have fin:EP X Sa Y Q w s:=⟨z,H,I,rw',q⟩;exact a2F (x:=w) pl.typeIs slot_tuple_getitem.lookup
  (getItem_tuple (j:=j) (Q:=λr s'=>r=w/\EP X Sa Y Q r s') pl (by omega) (by omega) (by rw[P0,<- hl];exact h1) (by simpa using ew) ⟨rfl,fin⟩) hs
def KI:Ϗ X Nz:=by
 intro value slice Sa s Y H x y v u Q I rx ry h hs;obtain⟨z,i,c,rfl,rfl,hz,he,q⟩:=h;obtain⟨t,rfl⟩:=rx;obtain⟨t',rfl⟩:=ry;obtain⟨j,h1,h2,h3,h4,h5⟩:=hU he;have hl:z.cps.toList.length=z.length:=by simp[Str.length]
 rw[hl]at h1 h4 h5;have hn:=lH;exact tail_any (typeIs_str s z t) slot_str_getitem.lookup (getItem_str (c:=c) (by
  have e1:decide (i < -(2 ^ 63:Int))=false:=O8 (by omega);have e2:decide (i ≥ 2 ^ 63)=false:=O8 (by omega);rw[e1,e2,Bool.or_false]) (by rw[h1];simpa using h2) ⟨.str ⟨#[c]⟩,H,I.tok _,⟨_,rfl⟩,q⟩) hs
def rIx(K:OY):R2:=λx y H Q=>Nx K x y H Q\/Ny K x y H Q\/Nz x y H Q
def BG:Ϗ X (rIx X.K):=Dk.or (F5.or KI)
def eI(lo hi:Pz)(n:Nat):(sliceBounds lo hi none n).1=((HT.sIx n 0 lo:Nat):Int)/\(sliceBounds lo hi none n).2.1=((HT.sIx n n hi:Nat):Int)/\(sliceBounds lo hi none n).2.2=1:=by
 refine⟨?_,?_,rfl⟩
 .cases lo with
  |none=>simp[sliceBounds,HT.sIx]
  |some i=>
   simp only[sliceBounds,HT.sIx,Option.getD_none,show(1:Int)>0 by decide,if_true];by_cases h:i<0
   .simp only[h,if_true]<;>omega
   .simp only[h,if_false]<;>omega
 .cases hi with
  |none=>simp[sliceBounds,HT.sIx]
  |some i=>
   simp only[sliceBounds,HT.sIx,Option.getD_none,show(1:Int)>0 by decide,if_true];by_cases h:i<0
   .simp only[h,if_true]<;>omega
   .simp only[h,if_false]<;>omega
def cF(Sf:OZ)(lo hi:Pz):slicePick Sf.toArray lo hi none=((Sf.drop (HT.sIx Sf.length 0 lo)).take (HT.sIx Sf.length Sf.length hi-HT.sIx Sf.length 0 lo)).toArray:=by obtain⟨h1,h2,h3⟩:=eI lo hi Sf.toArray.size;unfold slicePick;rw[h1,h2,h3];simp only[sliceRange_one,pick_run,List.size_toArray]<;>rfl
def Oj(K:OY):V->Option Int->Option Int->Hp->VK->Prop:=λx lo hi H Q=>∃a xs,x=.ref a/\Sq K H a xs/\∀p,H p=none->Q (.ref p) (upd H p (.lst (uV xs lo hi)))
def Dl:ϛ X (Oj X.K):=by intro Sa s Y H x v vl vu lo hi sl Q I rx hs pl pu h;obtain⟨a,xs,rfl,hx,q⟩:=h;cases rx;obtain⟨Sf,r,ht,hz⟩:=I.list hx;have hlen:=r.length;refine⟨"list",_,slot_list_getitem.lookup,ht.isList.typeIs,?_⟩;refine wpAny_getItem_list_slice ht.isList hs pl pu .none (by simp) ?_ (by rw[List.size_toArray]<;>omega);rw[cF,<- hlen];refine⟨.ref s.heap.objs.size,_,I.laid (t':=s.toks) (o:=.lst (uV xs lo hi)) (λb ob q=>O3 _ q) (O2 _) ?_,rfl,q _ (I.hok.fresh (O2 _))⟩;exact⟨S6 (Uc xs lo hi) hz,_,0,(r.drop (HT.sIx xs.length 0 lo)).take (HT.sIx xs.length xs.length hi-HT.sIx xs.length 0 lo),S5 _ rfl⟩
def Xk:V->Bool
 |.non=>true
 |.bl _=>true
 |.int _=>true
 |.str _=>true
 |_=>false
def θ:V->V->Bool
 |.non,.non=>true
 |.bl a,.bl b=>a==b
 |.bl a,.int b=>(if a then 1 else 0)==b
 |.int a,.bl b=>a==(if b then 1 else 0)
 |.int a,.int b=>a==b
 |.str a,.str b=>a==b
 |_,_=>false
def BH(ry:RelV y u)(rx:RelV x v)(fy:Xk y=true)(fx:Xk x=true):SeqAt.EqAt A s u v (θ y x):=by
 cases y with
 |non=>
  cases ry;cases x with
  |non=>cases rx;exact SeqAt.EqAt.same _
  |bl b=>cases rx;exact SeqAt.EqAt.none_bool b
  |int b=>obtain⟨t,rfl⟩:=rx;exact SeqAt.EqAt.none_int b t
  |str b=>obtain⟨t,rfl⟩:=rx;exact SeqAt.EqAt.none_str b t
  |_=>exact absurd (show false=true from fx) P5
 |bl a=>
  cases ry;cases x with
  |non=>cases rx;exact SeqAt.EqAt.bool_none a
  |bl b=>cases rx;exact SeqAt.EqAt.bool_bool a b
  |int b=>obtain⟨t,rfl⟩:=rx;exact SeqAt.EqAt.bool_int a b t
  |str b=>obtain⟨t,rfl⟩:=rx;exact SeqAt.EqAt.bool_str a b t
  |_=>exact absurd (show false=true from fx) P5
 |int a=>
  obtain⟨t',rfl⟩:=ry;cases x with
  |non=>cases rx;exact SeqAt.EqAt.int_none a t'
  |bl b=>cases rx;exact SeqAt.EqAt.int_bool a t' b
  |int b=>obtain⟨t,rfl⟩:=rx;exact SeqAt.EqAt.int_int a t' b t
  |str b=>obtain⟨t,rfl⟩:=rx;exact a24 a t' b t
  |_=>exact absurd (show false=true from fx) P5
 |str a=>
  obtain⟨t',rfl⟩:=ry;cases x with
  |non=>cases rx;exact SeqAt.EqAt.str_none a t'
  |bl b=>cases rx;exact SeqAt.EqAt.str_bool a t' b
  |int b=>obtain⟨t,rfl⟩:=rx;exact a25 a t' b t
  |str b=>obtain⟨t,rfl⟩:=rx;exact SeqAt.EqAt.str_str a t' b t
  |_=>exact absurd (show false=true from fx) P5
 |_=>exact absurd (show false=true from fy) P5
def TZ(x:V)(u:Value):Bool:=match u with
 |.none=>θ .non x
 |.bool b=>θ (.bl b) x
 |.int i _=>θ (.int i) x
 |.str z _=>θ (.str z) x
 |_=>false
def BI(r:RelV y u)(f:Xk y=true):TZ x u=θ y x:=by
 cases y with
 |non=>cases r;rfl
 |bl b=>cases r;rfl
 |int i=>obtain⟨t,rfl⟩:=r;rfl
 |str z=>obtain⟨t,rfl⟩:=r;rfl
 |_=>exact absurd (show false=true from f) P5
def Ue{x:V}:∀{xs:Pa}{us:OZ},Vals xs us->xs.all Xk=true->us.any (TZ x)=xs.any λy=>θ y x
 |_,_,.nil,_=>rfl
 |y::xs,u::us,.cons r t,f=>by rw[a2X,a1B]at f;rw[π,π,BI r f.1,Ue t f.2]
def KJ{A:Po}{s:OV}{x:V}{v:Value}(rx:RelV x v)(fx:Xk x=true):∀{xs:Pa}{us:OZ},Vals xs us->xs.all Xk=true->∀u∈us,SeqAt.EqAt A s u v (TZ x u)
 |_,_,.nil,_=>λu hu=>by cases hu
 |y::xs,u::us,.cons r t,f=>λu' hu=>by
  rw[a2X,a1B]at f;rcases P9.mp hu with rfl|hu
  .rw[BI r f.1];exact BH r rx f.1 fx
  .exact KJ rx fx t f.2 u' hu
def inV(x:V)(xs:Pa):Bool:=xs.any λy=>θ y x
def rIn(K:OY)(neg:Bool):R2:=λx y H Q=>∃p xs,y=.ref p/\(Sq K H p xs\/SN K H p xs)/\Xk x=true/\xs.all Xk=true/\Q (.bl (if neg then !inV x xs else inV x xs)) H
def pH:Sx X (compareOp .In) (rIn X.K false):=by
 intro Sa s Y H x y v u Q I rx ry h;obtain⟨p,xs,rfl,hq,fx,fs,q⟩:=h;cases ry;rcases hq with hq|hq
 .obtain⟨Sf,r,pl,hz⟩:=I.list hq;refine SeqAt.in_listAt (TZ x) pl.isList (λw hw=>KJ rx fx r fs w (by simpa using hw)) ⟨.bl _,H,I,rfl,?_⟩;rw[show Sf.toArray.any (TZ x)=Sf.any (TZ x) by simp,Ue r fs];exact q
 .obtain⟨Sf,r,pl,hz⟩:=I.tuple hq;refine SeqAt.in_tupleAt (TZ x) pl (λw hw=>KJ rx fx r fs w (by simpa using hw)) ⟨.bl _,H,I,rfl,?_⟩;rw[show Sf.toArray.any (TZ x)=Sf.any (TZ x) by simp,Ue r fs];exact q
def eJ:Sx X (compareOp .NotIn) (rIn X.K true):=by
 intro Sa s Y H x y v u Q I rx ry h;obtain⟨p,xs,rfl,hq,fx,fs,q⟩:=h;cases ry;rcases hq with hq|hq
 .obtain⟨Sf,r,pl,hz⟩:=I.list hq;refine SeqAt.notIn_listAt (TZ x) pl.isList (λw hw=>KJ rx fx r fs w (by simpa using hw)) ⟨.bl _,H,I,rfl,?_⟩;rw[show Sf.toArray.any (TZ x)=Sf.any (TZ x) by simp,Ue r fs];exact q
 .obtain⟨Sf,r,pl,hz⟩:=I.tuple hq;refine SeqAt.notIn_tupleAt (TZ x) pl (λw hw=>KJ rx fx r fs w (by simpa using hw)) ⟨.bl _,H,I,rfl,?_⟩;rw[show Sf.toArray.any (TZ x)=Sf.any (TZ x) by simp,Ue r fs];exact q
def eK:Sx X (compareOp .NotIn) (λx y H Q=>∃i j,x=.str i/\y=.str j/\Q (.bl (!(!(Builtin.Str.occurrences j i 0 j.length 1).isEmpty))) H):=by intro Sa s Y H x y v u Q I rx ry h;obtain⟨i,j,rfl,rfl,q⟩:=h;obtain⟨t,rfl⟩:=rx;obtain⟨t',rfl⟩:=ry;exact notIn_str ⟨.bl _,H,I,rfl,q⟩
def ZV.or(h:ZV X f r)(h':ZV X f r'):ZV X f (λxs H Q=>r xs H Q\/r' xs H Q):=by
 intro Sa s Y H xs us Q I rs q;rcases q with q|q
 .exact h Sa s Y H xs us Q I rs q
 .exact h' Sa s Y H xs us Q I rs q
def eM:ZV X (.type "list") (λxs H Q=>∃p ys,xs=[.ref p]/\(Sq X.K H p ys\/SN X.K H p ys)/\∀l,H l=none->Q (.ref l) (upd H l (.lst ys))):=by
 intro Sa s Y H xs us Q I r h;obtain⟨p,ys,rfl,hq,q⟩:=h;obtain⟨u,rfl,rx⟩:=vals1 r;cases rx;have fin:∀(Sf:OZ),Vals ys Sf->ys.length<=sizeLine->∀(h':Heap)(c':Nat),(∀b o',s.heap.get? b=some o'->h'.get? b=some o')->
   h'.get? s.heap.objs.size=some { cls:=.type "list",dict:=none,data:=.seq Sf.toArray c',slots:=#[] }->EP X Sa Y Q (.ref s.heap.objs.size) { s with heap:=h' }:=λSf r' hz h' c' kp e=>
  ⟨.ref s.heap.objs.size,_,I.laid (t':=s.toks) kp (O2 _) (show ql X.prog X.w _ h' _ (.lst ys)from⟨hz,Sf,c',r',e⟩),rfl,q _ (I.hok.fresh (O2 _))⟩
 rcases hq with hq|hq
 .obtain⟨Sf,r',pl,hz⟩:=I.list hq;have hlen:=r'.length;obtain⟨o,ho,hc,n,hd⟩:=pl.isList;exact call_list_seq p (.inl rfl) ho hc hd (λh' c' kp e=>fin Sf r' hz h' c' kp e) (by simp only[List.size_toArray]<;>omega)
 .obtain⟨Sf,r',pl,hz⟩:=I.tuple hq;have hlen:=r'.length;obtain⟨o,ho,hc,n,hd⟩:=pl;exact call_list_seq p (.inr rfl) ho hc hd (λh' c' kp e=>fin Sf r' hz h' c' kp e) (by simp only[List.size_toArray]<;>omega)
def tyV(K:OY)(T:String)(x:V)(H:Hp):Prop:=match x with
 |.str _=>T="str"
 |.int _=>T="int"
 |.ref p=>(T="list" /\ ∃xs,Sq K H p xs)\/(T="tuple" /\ ∃o,K.lookup p=some o/\o.cls=.type "tuple"/\o.dict=none)\/
   (T="dict"/\((∃kvs,H p=some (.dK kvs))\/∃kvs,H p=some (.dT kvs)))\/(T="set" /\ ∃S n,H p=some (.set S n))
 |_=>False
def BJ(I:Inv X Sa Y H s)(r:RelV x v)(ty:tyV X.K T x H):
  s.TypeIs v T/\∀a,v=.ref a->∃ob,s.heap.get? a=some ob/\ob.dict=none:=by
 cases x with
 |str z=>obtain⟨t,rfl⟩:=r;cases(show T="str" from ty);exact⟨typeIs_str s z t,λ_ e=>nomatch e⟩
 |int i=>obtain⟨t,rfl⟩:=r;cases(show T="int" from ty);exact⟨typeIs_int s i t,λ_ e=>nomatch e⟩
 |ref p=>
  cases r;rcases ty with⟨rfl,xs,hq⟩|⟨rfl,o,hk,hc,hd⟩|⟨rfl,hk⟩|⟨rfl,S,n,hk⟩
  .obtain⟨Sf,_,pl,_⟩:=I.list hq;refine⟨pl.isList.typeIs,λa e=>?_⟩;cases e;obtain⟨o,n,e,c,hd,_⟩:=pl;exact⟨o,e,hd⟩
  .refine⟨⟨o,I.kIn p o hk,hc⟩,λa e=>?_⟩;cases e;exact⟨o,I.kIn _ o hk,hd⟩
  .have z:∃o,s.heap.get? p=some o/\o.ExactDict:=by
    rcases hk with⟨kvs,hk⟩|⟨kvs,hk⟩
    .obtain⟨_,_,_,_,o,_,_,e,ex,_⟩:=I.hok p _ hk;exact⟨o,e,ex⟩
    .obtain⟨_,_,_,_,o,_,_,e,ex,_⟩:=I.hok p _ hk;exact⟨o,e,ex⟩
   obtain⟨o,e,ex⟩:=z;refine⟨⟨o,e,ex.1⟩,λa e2=>?_⟩;cases e2;exact⟨o,e,ex.2.1⟩
  .obtain⟨o,_,_,_,e,ex,_⟩:=I.hok p _ hk;refine⟨⟨o,e,ex.1⟩,λa e2=>?_⟩;cases e2;exact⟨o,e,ex.2.1⟩
 |_=>exact False.elim ty
def Ol(K:OY)(T:String)(r:V->List V->Hp->VK->Prop)(to:TE):TE:=λY H Q=>to Y H λx H1=>tyV K T x H1/\r x [] H1 Q
def tBM(K:OY)(T:String)(r:V->List V->Hp->VK->Prop)(to:TE)(t:TA):TE:=λY H Q=>to Y H λx H1=>tyV K T x H1/\t Y H1 λxs H2=>r x xs H2 Q
variable {o e:Pc}{es:OX}{to:TE}{t:TA}{name:Str}{jW Y1:Pos}{T id:String}{r:V->List V->Hp->VK->Prop}
def F6(pa:PlainAttrs T)(slot:Slot T name id)(hty:typeOf (.builtin id)=pure (.type "method_descriptor"))(hm:MtR X id r)(ho:PE X o to)(Wv:attributeBase o name X.env (eval o X.env)=eval o X.env:=by rfl)(Wu:(jW.endLine==Y1.line)=true:=by rfl):PE X (.Call (.Attribute o name jW) [] [] Y1) (Ol X.K T r to):=by
 intro Sa s Y H Q I h;refine wpAny_Call_method0_late Wv Wu (Sk (ho Sa s Y H _ I h) λv s1 ⟨x,H1,I1,r1,ty,q1⟩=>?_);obtain⟨h1,h2⟩:=BJ I1 r1 ty;exact⟨T,id,pa,slot,hty,h1,h2,a1z rfl (PySem.evalArgs_none (hm Sa s1 Y H1 x [] v [] Q I1 r1 .nil q1))⟩
def xn(pa:PlainAttrs T)(slot:Slot T name id)(hty:typeOf (.builtin id)=pure (.type "method_descriptor"))(hm:MtR X id r)(ho:PE X o to)(ha:PA X (e::es) t)(Wv:attributeBase o name X.env (eval o X.env)=eval o X.env:=by rfl)(Bu:((backTo Y1 (starEach (e::es) X.env)).all (λx=>!x.1)&&(backToKw Y1 (keywordEach [] X.env)).all (λx=>x.1.isSome)&&decide ((e::es).length+([]:List Keyword).length+(if([]:List Keyword).isEmpty then 0 else 1)<30))=true:=by rfl)(Wu:(jW.endLine==Y1.line)=true:=by rfl)(hs:starEach (e::es) X.env=(false,eval e X.env)::starEach es X.env:=by rfl)(hplain:(backTo Y1 (starEach es X.env)).any (·.1)=false:=by rfl):
  PE X (.Call (.Attribute o name jW) (e::es) [] Y1) (tBM X.K T r to t):=by
 intro Sa s Y H Q I h;refine wpAny_Call_method_late Wv Bu Wu rfl (Sk (ho Sa s Y H _ I h) λv s1 ⟨x,H1,I1,r1,ty,q1⟩=>?_);obtain⟨h1,h2⟩:=BJ I1 r1 ty;refine⟨T,id,pa,slot,hty,h1,h2,?_⟩;have hA:=ha Y1 Sa s1 Y H1 _ I1 q1;rw[hs]at hA ⊢;refine a1z (by show(false||(backTo Y1 (starEach es X.env)).any (·.1))=false;rw[hplain]<;>rfl) (a2Q ?_);exact Sk hA λus s2 ⟨vs,H2,I2,r2,q2⟩=>hm Sa s2 Y H2 x vs v us Q I2 r1 r2 q2
end
def MtM(X:Cx)(id:String)(r:V->List V->Hp->VK->Prop):Prop:=
 ∀(Sa:OR)(s:OV)(Y:St)(H:Hp)(x:V)(xs:Pa)(v:Value) (us:OZ) (Q:VK),Inv X Sa Y H s->RelV x v->Vals xs us->r x xs H Q->
  wpAny (Rk X) X.A (call (.builtin id) (v::us)) (EP X Sa Y Q) X.xe s
def Vals.one:∀{x:V}{us:OZ},Vals [x] us->∃u,us=[u]/\RelV x u
 |_,_,.cons r .nil=>⟨_,rfl,r⟩
def Vals.two:∀{x y:V}{us:OZ},Vals [x,y] us->∃u v,us=[u,v]/\RelV x u/\RelV y v
 |_,_,_,.cons r (.cons q .nil)=>⟨_,_,rfl,r,q⟩
def Vals.zero:∀{us:OZ},Vals [] us->us=[]
 |_,.nil=>rfl
def Vals.rep{xs:Pa}{us:OZ}(h:Vals xs us):∀k:Nat,Vals (List.replicate k xs).flatten (List.replicate k us).flatten
 |0=>.nil
 |k+1=>by rw[ϱ,ϱ,Μ,Μ];exact Vals.append h (Vals.rep h k)
def foldl_rep(Sf:OZ):∀(k:Nat)(acc:OZ),
  List.foldl (λx1 x2=>x1++x2) acc.toArray (List.replicate k Sf.toArray)=(acc++(List.replicate k Sf).flatten).toArray
 |0,acc=>by simp
 |k+1,acc=>by
  have e:acc.toArray++Sf.toArray=(acc++Sf).toArray:=by simp
  have e2:(acc++Sf)++(List.replicate k Sf).flatten=acc++(List.replicate (k+1) Sf).flatten:=by rw[ϱ,Μ,S0]
  rw[<- e2,<- foldl_rep Sf k (acc++Sf),<- e,ϱ,a08]
def Inv.I0{Sf its':OZ}{n:Nat}{f:Array Value->Array Value}{t':Nat}(I:Inv X Sa Y H s)(hH:H l=some (.lst xs))(e:s.heap.get? l=some { cls:=.type "list",data:=.seq Sf.toArray n })(hf:f Sf.toArray=its'.toArray)(hv:Vals ys its')(hz:ys.length<=sizeLine):
  Inv X Sa Y (upd H l (.lst ys)) { s with heap:=s.heap.update l (Obj.mapSeq f),toks:=t' }:=by
 have q:=PySem.IsL.update e f;rw[hf]at q;refine I.write (x:=l) (e:=l) (by rw[hH];exact trivial) (.inl rfl) (λb' u hb hu=>(T1 s.heap (Obj.mapSeq f) (Ne.symm hb)).trans hu) ⟨_,q⟩ ?_;exact⟨hz,its',_,hv,q⟩
def Inv.L6(I:Inv X Sa Y H s)(hv:Vals ys Sf)(hz:ys.length<=sizeLine):
  Inv X Sa Y (upd H s.heap.objs.size (.lst ys)) { s with heap:=s.heap.push { cls:=.type "list",data:=.seq Sf.toArray },toks:=t' }:=
 I.laid (λ_ _ q=>O3 _ q) (O2 _) ⟨hz,Sf,0,hv,S5 _ rfl⟩
def Inv.fresh(I:Inv X Sa Y H s):H s.heap.objs.size=none:=I.hok.fresh (O2 _)
def Inv.BK(I:Inv X Sa Y H s)(hH:H l=some (.lst xs)):xs.length<=sizeLine/\∃(Sf:OZ)(n:Nat),Vals xs Sf/\xs.length=Sf.length/\s.heap.get? l=some { cls:=.type "list",data:=.seq Sf.toArray n }:=by obtain⟨z,Sf,n,r,e⟩:=I.hok l _ hH;exact⟨z,Sf,n,r,r.length,e⟩
def lL(h:n<=sizeLine):Builtin.List.listTooLong n=false:=by unfold Builtin.List.listTooLong;exact O8 (by omega)
section
variable {X:Cx}
def Dm:V->List V->Hp->VK->Prop:=λx vs H Q=>∃l xs y,x=.ref l/\vs=[y]/\H l=some (.lst xs)/\xs.length<sizeLine/\Q .non (upd H l (.lst (xs++[y])))
def Ug:MtM X "list.append" Dm:=by intro Sa s Y H x vs v us Q I rx rv h;obtain⟨l,xs,y,rfl,rfl,hH,hz,q⟩:=h;cases rx;obtain⟨u,rfl,ru⟩:=rv.one;obtain⟨z,Sf,n,r,hl,e⟩:=I.BK hH;refine a1K F.slot_list_append ⟨_,e,rfl⟩ F.entry_list_append (F.args_list_append_2 _ _) (PySem.list_append l Sf.toArray n u (by rw[P0];omega)) ⟨e,?_⟩;refine⟨.non,_,I.I0 (its':=Sf++[u]) hH e (by simp) (r.append (.cons ru .nil)) ?_,rfl,q⟩;rw[O1,a0T];omega
def Dp:V->List V->Hp->VK->Prop:=λx vs H Q=>∃l b xs zs,x=.ref l/\vs=[.ref b]/\H l=some (.lst xs)/\H b=some (.lst zs)/\xs.length+zs.length<=sizeLine/\Q .non (upd H l (.lst (xs++zs)))
def pJ:MtM X "list.extend" Dp:=by
 intro Sa s Y H x vs v us Q I rx rv h;obtain⟨l,b,xs,zs,rfl,rfl,hH,hB,hz,q⟩:=h;cases rx;obtain⟨u,rfl,ru⟩:=rv.one;cases ru;obtain⟨z,Sf,n,r,hl,e⟩:=I.BK hH;obtain⟨z2,its2,n2,r2,hl2,e2⟩:=I.BK hB;have hsz:Sf.toArray.size+its2.toArray.size<=sizeLine:=by rw[P0,P0];omega
 have hlong:¬(!Sf.toArray.isEmpty&&Builtin.List.listTooLong (Sf.toArray.size+its2.toArray.size))=true:=by rw[lL hsz,a1W];exact P5
 refine a1K F.slot_list_extend ⟨_,e,rfl⟩ F.entry_list_extend (F.args_list_extend_2 _ _)
  (AutoSeq1.list_extend_list_list_0 l Sf.toArray n b its2.toArray n2 hlong (by rw[P0];omega) (by omega)) ⟨e,e2,?_⟩
 refine⟨.non,_,I.I0 (its':=Sf++its2) hH e (by simp) (r.append r2) ?_,rfl,q⟩;rw[O1];omega
def F7:V->List V->Hp->VK->Prop:=λx vs H Q=>∃l xs,x=.ref l/\vs=[]/\H l=some (.lst xs)/\Q .non (upd H l (.lst []))
def xo:MtM X "list.clear" F7:=by intro Sa s Y H x vs v us Q I rx rv h;obtain⟨l,xs,rfl,rfl,hH,q⟩:=h;cases rx;have hus:=rv.zero;subst hus;obtain⟨z,Sf,n,r,hl,e⟩:=I.BK hH;refine a1K F.slot_list_clear ⟨_,e,rfl⟩ F.entry_list_clear (F.args_list_clear_1 _) (AutoSeq1.list_clear_list_0 l Sf.toArray n (by rw[P0];omega)) ⟨e,?_⟩;exact⟨.non,_,I.I0 (its':=[]) (ys:=[]) hH e rfl .nil (Tx _),rfl,q⟩
def NB:R2:=λx y H Q=>∃l b xs zs,x=.ref l/\y=.ref b/\H l=some (.lst xs)/\H b=some (.lst zs)/\xs.length+zs.length<=sizeLine/\∀p,H p=none->Q (.ref p) (upd H p (.lst (xs++zs)))
def F8:Sx X (binaryOp .Add) NB:=by
 intro Sa s Y H x y v u Q I rx ry h;obtain⟨l,b,xs,zs,rfl,rfl,hH,hB,hz,q⟩:=h;cases rx;cases ry;obtain⟨z,Sf,n,r,hl,e⟩:=I.BK hH;obtain⟨z2,its2,n2,r2,hl2,e2⟩:=I.BK hB;refine PySem.P.add_list e e2 ?_ (by rw[P0,P0];omega);have ea:Sf.toArray++its2.toArray=(Sf++its2).toArray:=by simp
 rw[ea];exact⟨.ref _,_,I.L6 (t':=s.toks) (r.append r2) (by rw[O1];omega),rfl,q _ I.fresh⟩
def NC:R2:=λx y H Q=>∃l k xs,x=.ref l/\y=.int k/\H l=some (.lst xs)/\-(2 ^ 63)<=k/\k<2 ^ 63/\xs.length*k.toNat<=sizeLine/\
 ∀p,H p=none->Q (.ref p) (upd H p (.lst (List.replicate k.toNat xs).flatten))
def len_rep{α:Type}(xs:List α)(k:Nat):(List.replicate k xs).flatten.length=k*xs.length:=by
 induction k with
 |zero=>simp
 |succ k ih=>rw[ϱ,Μ,O1,ih,Nat.succ_mul,Nat.add_comm]
def F9:Sx X (binaryOp .Mult) NC:=by
 intro Sa s Y H x y v u Q I rx ry h;obtain⟨l,k,xs,rfl,rfl,hH,h1,h2,hz,q⟩:=h;cases rx;obtain⟨t,rfl⟩:=ry;obtain⟨z,Sf,n,r,hl,e⟩:=I.BK hH;have hlen:Sf.toArray.size*k.toNat<=sizeLine:=by rw[P0,<- hl];exact hz
 have hcap:¬Sf.toArray.size*k.toNat>(2 ^ 63-1) / 8:=by
  have:(sizeLine:Nat)<=(2 ^ 63-1) / 8:=by decide
  omega
 have hfit:¬(!Builtin.List.listFitsIndex k)=true:=by rw[fitsIndex_both h1 h2];exact P5
 have hlong:¬Builtin.List.listTooLong (Sf.toArray.size*k.toNat)=true:=by rw[lL hlen];exact P5
 have hnew:List.foldl (λx1 x2=>x1++x2) #[] (List.replicate (if Sf.toArray.isEmpty=true then 0 else k.toNat) Sf.toArray)=(List.replicate k.toNat Sf).flatten.toArray:=by
  have f0:∀m:Nat,List.foldl (λx1 x2=>x1++x2) #[] (List.replicate m Sf.toArray)=(List.replicate m Sf).flatten.toArray:=λm=>by have:=foldl_rep Sf m [];rw[a1L]at this;exact this
  rw[f0];cases Sf with
  |nil=>simp
  |cons a r'=>rw[if_neg (by simp)]
 refine wpAny_binaryOp_repeat_ref (T:="list") (U:="int") (by decide) ⟨_,e,rfl⟩ (λs'=>typeIs_int s' k t) noFill_list_mul F.fills_int_mul F.slot_int_rmul repeat_list F.slot_int_index.lookup
  (a1K F.slot_int_rmul (typeIs_int s k t) F.entry_int_rmul (F.args_int_rmul_2 _ _) (int___rmul___int_list k t l Sf.toArray n)
   ⟨e,rfl,⟨_,e,rfl⟩,a1K F.slot_list_mul ⟨_,e,rfl⟩ F.entry_list_mul (F.args_list_mul_2 _ _) (AutoListH.list___mul___list_int_3 l Sf.toArray n k t hfit hcap hlong) ⟨e,?_⟩⟩)
 rw[hnew];exact⟨.ref _,_,I.L6 (t':=s.toks) (r.rep k.toNat) (by rw[len_rep,Nat.mul_comm];exact hz),rfl,q _ I.fresh⟩
end
section
variable {prog:Pg}{w:Pk}{A:Po}{E:OT}{s:OV}
end
section
variable {X:Cx}
end
section
variable {κ:Type}[DecidableEq κ]
def aM(kvs:List (κ×V))(k:κ):Option V:=(kvs.find? λkv=>decide (kv.1=k)).map (·.2)
def putK(kvs:List (κ×V))(k:κ)(v:V):List (κ×V):=
 if(kvs.any λkv=>decide (kv.1=k))=true then kvs.map (λkv=>if kv.1=k then(kv.1,v)else kv)else kvs++[(k,v)]
def XH{p:κ×V}{r:List (κ×V)}{k:κ}(e:p.1=k):aM (p::r) k=some p.2:=by simp[aM,List.find?_cons,e]
def XI{p:κ×V}{r:List (κ×V)}{k:κ}(e:¬p.1=k):aM (p::r) k=aM r k:=by simp[aM,List.find?_cons,e]
def lM(k:κ):∀kvs:List (κ×V),(kvs.any λkv=>decide (kv.1=k))=(aM kvs k).isSome
 |[]=>rfl
 |p::r=>by
  rw[π];by_cases e:p.1=k
  .simp only[XH e,decide_eq_true e,Bool.true_or,Option.isSome_some]
  .rw[XI e,O8 e,Bool.false_or];exact lM k r
def J8(kvs:List (κ×V))(k:κ)(v:V):(putK kvs k v).length<=kvs.length+1:=by
 unfold putK;split
 .rw[u8];omega
 .rw[O1,v0,a1M];omega
def Xi.Y5(r:Xi o u):o.isSome=u.isSome:=by
 cases o with
 |none=>cases u with
  |none=>rfl
  |some _=>exact(show False from r).elim
 |some _=>cases u with
  |none=>exact(show False from r).elim
  |some _=>rfl
def Xi.getD(r:Xi o u)(rd:RelV d d'):RelV (o.getD d) (u.getD d'):=by
 cases o with
 |none=>cases u with
  |none=>exact rd
  |some _=>exact(show False from r).elim
 |some _=>cases u with
  |none=>exact(show False from r).elim
  |some _=>exact r
def KV.val{kvs:List (κ×V)}{vs:List (κ×Value)}(r:KV kvs vs)(k:κ):Xi (aM kvs k) (valueAt vs k):=by
 unfold KV at r
 induction r with
 |nil=>exact True.intro
 |@cons p q ps qs h t ih=>
  obtain⟨h1,h2⟩:=h;by_cases e:p.1=k
  .have e':q.1=k:=h1.symm.trans e;have b:valueAt (q::qs) k=some q.2:=by simp[valueAt,List.find?_cons,e']
   rw[XH e,b];exact h2
  .have e':¬q.1=k:=λz=>e (h1.trans z);have b:valueAt (q::qs) k=valueAt qs k:=by simp[valueAt,List.find?_cons,e']
   rw[XI e,b];exact ih
def KV.any{kvs:List (κ×V)}{vs:List (κ×Value)}(r:KV kvs vs)(k:κ):(kvs.any λkv=>decide (kv.1=k))=vs.any λkv=>decide (kv.1=k):=by
 unfold KV at r
 induction r with
 |nil=>rfl
 |cons h t ih=>rw[π,π,ih,h.1]
def KV.L7{kvs:List (κ×V)}{vs:List (κ×Value)}(r:KV kvs vs)(k:κ)(ry:RelV y u):
  KV (kvs.map λkv=>if kv.1=k then(kv.1,y)else kv) (vs.map λkv=>if kv.1=k then(kv.1,u)else kv):=by
 unfold KV at r ⊢
 induction r with
 |nil=>exact .nil
 |@cons p q ps qs h t ih=>
  rw[O6,O6];refine .cons ?_ ih;obtain⟨h1,h2⟩:=h;by_cases e:p.1=k
  .rw[if_pos e,if_pos (h1.symm.trans e)];exact⟨h1,ry⟩
  .rw[if_neg e,if_neg λz=>e (h1.trans z)];exact⟨h1,h2⟩
def KV.put{kvs:List (κ×V)}{vs:List (κ×Value)}(r:KV kvs vs)(k:κ)(ry:RelV y u):KV (putK kvs k y) (stored vs k u):=by
 unfold putK stored;rw[r.any k];by_cases e:(vs.any λkv=>decide (kv.1=k))=true
 .rw[if_pos e,if_pos e];exact r.L7 k ry
 .rw[if_neg e,if_neg e];exact Paired.snoc r ⟨rfl,ry⟩
def KV.length{kvs:List (κ×V)}{vs:List (κ×Value)}(r:KV kvs vs):kvs.length=vs.length:=ϳ r
end
def eN(r:RelV (kV k) u):(yP P w).is k u=true:=by
 cases k with
 |inl i=>obtain⟨t,e⟩:=(show ∃t,u=Value.int i t from r);subst e;exact gZ P w i t
 |inr x=>obtain⟨t,e⟩:=(show ∃t,u=Value.str x t from r);subst e;exact g5 P w x t
def eO{P:Pg}{w:Pk}:∀{ks:PM}{us:OZ},Vals (ks.map kV) us->ItemsAre (yP P w) ks us
 |[],_,r=>by rw[a3a]at r;cases r;exact .nil
 |k::ks,_,r=>by
  rw[O6]at r;cases r with
  |cons h t=>exact .cons (eN h) (eO t)
abbrev KT(H:Hp):List (List Key×V)->List (List Key×Addr×Value)->Prop:=Paired λp q=>p.1=q.1/\H q.2.1=some (.tup (p.1.map kV))/\RelV p.2 q.2.2
def KT.val(r:KT H kvs xs)(k:PM):Xi (aM kvs k) ((atKey xs k).map (·.2)):=by
 induction r with
 |nil=>exact True.intro
 |@cons p q ps qs h t ih=>
  obtain⟨h1,_,h2⟩:=h;by_cases e:p.1=k
  .have e':q.1=k:=h1.symm.trans e;have b:atKey (q::qs) k=some q.2:=by simp[atKey,List.find?_cons,e']
   rw[XH e,b];exact h2
  .have e':¬q.1=k:=λz=>e (h1.trans z);have b:atKey (q::qs) k=atKey qs k:=by simp[atKey,List.find?_cons,e']
   rw[XI e,b];exact ih
def KT.L7(r:KT H kvs xs)(k:PM)(ry:RelV y u):
  KT H (kvs.map λkv=>if kv.1=k then(kv.1,y)else kv) (xs.map (putAt k u)):=by
 induction r with
 |nil=>exact .nil
 |@cons p q ps qs h t ih=>
  rw[O6,O6];refine .cons ?_ ih;obtain⟨h1,h2,h3⟩:=h;unfold putAt;by_cases e:p.1=k
  .rw[if_pos e,if_pos (h1.symm.trans e)];exact⟨h1,h2,ry⟩
  .rw[if_neg e,if_neg λz=>e (h1.trans z)];exact⟨h1,h2,h3⟩
def KT.put(r:KT H kvs xs)(k:PM)(hb:H b=some (.tup (k.map kV)))(ry:RelV y u):
  KT H (putK kvs k y) (storedH xs k b u):=by
 have e:(kvs.any λkv=>decide (kv.1=k))=(atKey xs k).isSome:=by rw[lM,(r.val k).Y5,a1e]
 unfold putK storedH;rw[e];by_cases q:(atKey xs k).isSome=true
 .rw[if_pos q,if_pos q];exact r.L7 k ry
 .rw[if_neg q,if_neg q];exact Paired.snoc r ⟨rfl,hb,ry⟩
def KT.keeps(r:KT H kvs xs)(ht:∀b ys,H b=some (.tup ys)->H' b=some (.tup ys)):KT H' kvs xs:=
 Paired.Lz r λ_ _ z=>⟨z.1,ht _ _ z.2.1,z.2.2⟩
def F_(ok:SK P w H h)(e:Rd H a u):ql P w H h a u:=e.ok ok
def J9(ok:SK P w H h)(e:Rd H a (.dK kvs)):kvs.length<=sizeLine/\(a==sysModules)=false/\∃vs,KV kvs vs/\h.DictOf (yP P w) a vs:=
 show ql P w H h a (.dK kvs)from F_ ok e
def Ga(ok:SK P w H h)(e:H a=some (.dK kvs)):kvs.length<=sizeLine/\(a==sysModules)=false/\∃vs,KV kvs vs/\h.DictOf (yP P w) a vs:=J9 ok (.inl e)
def bQ(ok:SK P w H h)(e:H a=some (.tup (ks.map kV))):(tupleKind (yP P w)).is h ks a:=by obtain⟨_,Sf,r,o,h1,h2,n,h3⟩:=(show ql P w H h a (.tup (ks.map kV))from ok a _ e);exact⟨o,Sf.toArray,n,h1,h2,h3,by simpa using eO r⟩
def hX(ok:SK P w H h)(e:Rd H a (.dT kvs)):kvs.length<=sizeLine/\(a==sysModules)=false/\
  ∃xs,KT H kvs xs/\h.DictOfH (tupleKind (yP P w)) a xs:=by
 obtain⟨z,y,xs,r,o,es,ep,h1,h2,h3,h4,h5⟩:=(show ql P w H h a (.dT kvs)from F_ ok e);refine⟨z,y,xs,r,o,es,ep,h1,h2,h3,h4,λx hx=>?_,h5⟩;have all:∀{l:PX}{m:List (List Key×Addr×Value)},KT H l m->∀x∈m,(tupleKind (yP P w)).is h x.1 x.2.1:=by
  intro l m q
  induction q with
  |nil=>intro x hx;exact nomatch hx
  |@cons p q ps qs hq t ih=>
   intro x hx;rcases P9.mp hx with e|hx
   .subst e;exact bQ ok (by rw[<- hq.1];exact hq.2.1)
   .exact ih x hx
 exact all r x hx
def L8(ok:SK P w H h)(e:H a=some (.dT kvs)):kvs.length<=sizeLine/\(a==sysModules)=false/\
  ∃xs,KT H kvs xs/\h.DictOfH (tupleKind (yP P w)) a xs:=hX ok (.inl e)
def lN(H:Hp)(a:Addr)(y:V)(r:Option V):Prop:=
 (∃kvs k,Rd H a (.dK kvs)/\y=kV k/\r=aM kvs k)\/∃kvs k b,Rd H a (.dT kvs)/\y=.ref b/\H b=some (.tup (k.map kV))/\r=aM kvs k
def xp(H:Hp)(a:Addr)(y v:V)(H':Hp):Prop:=
 (∃kvs k,H a=some (.dK kvs)/\y=kV k/\kvs.length<sizeLine/\H'=upd H a (.dK (putK kvs k v)))\/
 ∃kvs k b,H a=some (.dT kvs)/\y=.ref b/\H b=some (.tup (k.map kV))/\kvs.length<sizeLine/\H'=upd H a (.dT (putK kvs k v))
def xp.k{H:Hp}{a:Addr}{kvs:Pb}{k:Key}{v:V}(e:H a=some (.dK kvs))(hl:kvs.length<sizeLine):xp H a (kV k) v (upd H a (.dK (putK kvs k v))):=.inl ⟨kvs,k,e,rfl,hl,rfl⟩
def xp.t{H:Hp}{a b:Addr}{kvs:PX}{k:PM}{v:V}(e:H a=some (.dT kvs))(eb:H b=some (.tup (k.map kV)))(hl:kvs.length<sizeLine):
  xp H a (.ref b) v (upd H a (.dT (putK kvs k v))):=.inr ⟨kvs,k,b,e,rfl,eb,hl,rfl⟩
def Inv.big(I:Inv X Sa Y H s):sysModules<s.heap.objs.size:=by have h:mainGlobals<s.heap.objs.size:=(I.mod.glob.keeps I.bk).lt;exact a1N (by decide) h
def pK(hu:A.units+1<cLine)(I:Inv X Sa Y H s)(g:lN H a y (some v))(ry:RelV y u)(h:∀w' s',Inv X Sa Y H s'->RelV v w'->Q w' s'):
  wpAny (Rk X) A (getItem (.ref a) u) Q E s:=by
 rcases g with⟨kvs,k,e,ey,l⟩|⟨kvs,k,b,e,ey,eb,l⟩
 .subst ey;obtain⟨z,hd,vs,rel,dd⟩:=J9 I.hok e;obtain⟨w',hw,rw'⟩:=Xi.some_of (v:=v) (o:=valueAt vs k) (by rw[l];exact rel.val k);exact wpAny_getItem_of (eN ry) dd.mapOf hw (h w' _ (I.tok _) rw')
 .subst ey;cases(show u=Value.ref b from ry);obtain⟨z,hd,xs,rel,dd⟩:=hX I.hok e;obtain⟨w',hw,rw'⟩:=Xi.some_of (v:=v) (o:=(atKey xs k).map (·.2)) (by rw[l];exact rel.val k);obtain⟨p,hp,hp2⟩:=v4.mp hw;refine wpAny_getItem_heap (a09 hu) (bQ I.hok eb) dd hp ?_;rw[hp2];exact h w' _ (I.tok _) rw'
def Om(hu:A.units+1<cLine)(I:Inv X Sa Y H s)(g:lN H a y o)(ry:RelV y u)(h:∀s',Inv X Sa Y H s'->Q (.bool o.isSome) s'):
  wpAny (Rk X) A (compareOp .In u (.ref a)) Q E s:=by
 rcases g with⟨kvs,k,e,ey,l⟩|⟨kvs,k,b,e,ey,eb,l⟩
 .subst ey;obtain⟨z,hd,vs,rel,dd⟩:=J9 I.hok e;refine wpAny_in_of (eN ry) hd dd.mapOf ?_;rw[<- (rel.val k).Y5,<- l];exact h _ (I.tok _)
 .subst ey;cases(show u=Value.ref b from ry);obtain⟨z,hd,xs,rel,dd⟩:=hX I.hok e;refine wpAny_in_heap (a09 hu) (bQ I.hok eb) hd dd ?_;have q:=(rel.val k).Y5;rw[a1e]at q;rw[<- q,<- l];exact h _ (I.tok _)
def Dq(hu:A.units+1<cLine)(I:Inv X Sa Y H s)(g:lN H a y o)(ry:RelV y u)(h:∀s',Inv X Sa Y H s'->Q (.bool (!o.isSome)) s'):
  wpAny (Rk X) A (compareOp .NotIn u (.ref a)) Q E s:=by
 rcases g with⟨kvs,k,e,ey,l⟩|⟨kvs,k,b,e,ey,eb,l⟩
 .subst ey;obtain⟨z,hd,vs,rel,dd⟩:=J9 I.hok e;refine wpAny_notIn_of (eN ry) hd dd.mapOf ?_;rw[<- (rel.val k).Y5,<- l];exact h _ (I.tok _)
 .subst ey;cases(show u=Value.ref b from ry);obtain⟨z,hd,xs,rel,dd⟩:=hX I.hok e;refine wpAny_notIn_heap (a09 hu) (bQ I.hok eb) hd dd ?_;have q:=(rel.val k).Y5;rw[a1e]at q;rw[<- q,<- l];exact h _ (I.tok _)
def h_(I:Inv X Sa Y H s)(mu:Mut (H a))(hs:Heap.SameBut a s.heap h')(he:∃q,h'.get? a=some q)(new:ql X.prog X.w (upd H a ob) h' a ob):
  Inv X Sa Y (upd H a ob) { s with heap:=h',toks:=t' }:=
 I.write (x:=a) (e:=a) mu (.inl rfl) (λb q hb z=>(hs.2 b hb).trans z) he new
def lO(z:kvs.length<=sizeLine)(hd:(a==sysModules)=false)(rel:KV kvs vs)(dd:h'.DictOf (yP P w) a vs):
  ql P w H' h' a (.dK kvs):=⟨z,hd,vs,rel,dd⟩
def pL(hu:A.units+1<cLine)(I:Inv X Sa Y H s)(g:xp H a y v H')(ry:RelV y u)(rv:RelV v r)(h:∀s',Inv X Sa Y H' s'->Q () s'):
  wpAny (Rk X) A (setItem (.ref a) u r) Q E s:=by
 rcases g with⟨kvs,k,e,ey,l,eH⟩|⟨kvs,k,b,e,ey,eb,l,eH⟩
 .subst ey eH;obtain⟨z,hd,vs,rel,dd⟩:=Ga I.hok e;have hz:vs.length<=sizeLine:=by rw[<- rel.length];exact z
  have hl:(putK kvs k v).length<=sizeLine:=by have:=J8 kvs k v;omega
  refine wpAny_setItem_pairs (hsz:=hz) (eN ry) dd λh' dd' hs=>h _ ?_;have he:∃q,h'.get? a=some q:=let⟨q,_,_,hq,_⟩:=dd';⟨q,hq⟩
  exact h_ I (by rw[e];exact True.intro) hs he (lO hl hd (rel.put k rv) dd')
 .subst ey eH;cases(show u=Value.ref b from ry);obtain⟨z,hd,xs,rel,dd⟩:=L8 I.hok e;have hz:xs.length<=sizeLine:=by rw[<- ϳ rel];exact z
  have hl:(putK kvs k v).length<=sizeLine:=by have:=J8 kvs k v;omega
  refine wpAny_setItem_heap (hsz:=hz) (a09 hu) (bQ I.hok eb) dd λh' dd' hs=>h _ ?_;obtain⟨q,es,ep,hq,h2,h3,h4,_,h5⟩:=dd';refine h_ I (by rw[e];exact True.intro) hs ⟨q,hq⟩ ⟨hl,hd,_,(rel.put k eb rv).keeps λc ys ec=>?_,q,es,ep,hq,h2,h3,h4,h5⟩;rw[zl (Ly ec e λz=>nomatch z)];exact ec
def L9(I:Inv X Sa Y H s)(e:Rd H a (.dK kvs))(h:∀t s',Inv X Sa Y H s'->Q (.int kvs.length t) s'):wpAny (Rk X) A (call (.builtin "len") [.ref a]) Q E s:=by obtain⟨z,hd,vs,rel,dd⟩:=J9 I.hok e;refine call_len_dict hd dd (by rw[<- rel.length];rw[TC]at z;omega) ?_;rw[<- rel.length];exact h _ _ (I.tok _)
def ia(I:Inv X Sa Y H s)(g:lN H a y o):s.TypeIs (.ref a) "dict":=by
 rcases g with⟨kvs,k,e,_,_⟩|⟨kvs,k,b,e,_,_,_⟩
 .obtain⟨_,_,vs,_,dd⟩:=J9 I.hok e;exact dd.typeIs
 .obtain⟨_,_,xs,_,dd⟩:=hX I.hok e;exact dd.typeIs
def L_(td ty tv:TE):TS:=λD Y H=>tv Y H λv H1=>td Y H1 λx H2=>ty Y H2 λy H3=>∃a H4,x=.ref a/\xp H3 a y v H4/\D.nx Y H4
def ib(hu:X.A.units+1<cLine)(ho:PE X o td)(hi:PE X i ty)(hv:PE X value tv)(hs:swapsWith value (some (.Subscript o i pos')) pos.line X.env=pure false):
  PS X (.Assign [.Subscript o i pos'] value pos) (L_ td ty tv):=by
 intro Sa s Y H D I h;refine wpAny_Assign_Subscript (Sk (hv Sa s Y H _ I h) λr s1 ⟨v,H1,I1,rv,q1⟩=>Sk (ho Sa s1 Y H1 _ I1 q1) λu s2 ⟨x,H2,I2,rx,q2⟩=>Sk (hi Sa s2 Y H2 _ I2 q2) λiv s3 ⟨y,H3,I3,ry,a,H4,ex,g,q3⟩=>?_) hs;subst ex;obtain rfl:u=Value.ref a:=rx;exact pL hu I3 g ry rv λs4 I4=>⟨Y,H4,I4,q3⟩
def lQ(h:Heap)(hb:sysModules<h.objs.size):ql P w H (h.push { cls:=.type "dict",data:=.dict #[] }) h.objs.size (.dK []):=
 ⟨Tx _,Ν.mpr (Ne.symm (P6 hb)),[],.nil,Heap.DictOf.new h⟩
def xq(h:Heap)(hb:sysModules<h.objs.size):ql P w H (h.push { cls:=.type "dict",data:=.dict #[] }) h.objs.size (.dT []):=
 ⟨Tx _,Ν.mpr (Ne.symm (P6 hb)),[],.nil,_,#[],0,S5 _ rfl,⟨rfl,rfl,rfl⟩,rfl,rfl,List.nodup_nil⟩
def Gb:TE:=λ_ H Q=>∀p,H p=none->Q (.ref p) (upd H p (.dK []))
def Gd:TE:=λ_ H Q=>∀p,H p=none->Q (.ref p) (upd H p (.dT []))
def xt:PE X (.Dict [] [] pos) Gb:=λSa s Y H Q I h=>
 wpAny_Dict_empty ⟨.ref s.heap.objs.size,_,I.laid (a:=s.heap.objs.size) (o:=.dK []) (t':=s.toks) (λ_ _ q=>O3 _ q) (O2 _) (lQ s.heap I.big),rfl,h _ (I.hok.fresh (O2 _))⟩
def xu:PE X (.Dict [] [] pos) Gd:=λSa s Y H Q I h=>
 wpAny_Dict_empty ⟨.ref s.heap.objs.size,_,I.laid (a:=s.heap.objs.size) (o:=.dT []) (t':=s.toks) (λ_ _ q=>O3 _ q) (O2 _) (xq s.heap I.big),rfl,h _ (I.hok.fresh (O2 _))⟩
def pM:List (TE×TE)->St->Hp->(List (V×V)->Hp->Prop)->Prop
 |[],_,H,Q=>Q [] H
 | (tk,tv)::r,Y,H,Q=>tk Y H λx H1=>tv Y H1 λy H2=>pM r Y H2 λps H3=>Q ((x,y)::ps) H3
abbrev VV:List (V×V)->List (Value×Value)->Prop:=Paired λp q=>RelV p.1 q.1/\RelV p.2 q.2
def PPs(X:Cx)(pos:Pos)(keys:List (Option Expr))(values:OX)(trs:List (TE×TE)):Prop:=
 ∀(Sa:OR)(s:OV)(Y:St)(H:Hp)(Q:List (V×V)->Hp->Prop),Inv X Sa Y H s->pM trs Y H Q->
  wpAny (Rk X) X.A (evalPairs (pairTrees keys values X.env pos)) (λvs s'=>∃ps H',Inv X Sa Y H' s'/\VV ps vs/\Q ps H') X.xe s
def Dr:PPs X pos [] [] []:=λSa s Y H Q I h=>pairTrees_nil_walk ⟨[],H,I,.nil,h⟩
def xw(hk:PE X k tk)(hv:PE X v tv)(hr:PPs X pos ks vs trs):
  PPs X pos (some k::ks) (v::vs) ((tk,tv)::trs):=λSa s Y H Q I h=>
 pairTrees_cons_walk (Sk (hk Sa s Y H _ I h) λu s1 ⟨x,H1,I1,rx,q1⟩=>Sk (hv Sa s1 Y H1 _ I1 q1) λw2 s2 ⟨y,H2,I2,ry,q2⟩=> Sk (hr Sa s2 Y H2 _ I2 q2) λws s3 ⟨ps,H3,I3,rel,q3⟩=>⟨(x,y)::ps,H3,I3,.cons ⟨rx,ry⟩ rel,q3⟩)
def eQ(kvs more:Pb):List (Key×V):=more.foldl (λacc kv=>putK acc kv.1 kv.2) kvs
def KV.merge:∀{more:Pb}{rs:PH}{kvs:Pb}{vs:PH},KV more rs->KV kvs vs->KV (eQ kvs more) (merged vs rs):=by
 intro more rs kvs vs r;unfold KV at r
 induction r generalizing kvs vs with
 |nil=>intro q;exact q
 |@cons p q ps qs h t ih=>
  intro r0;have e:KV (putK kvs p.1 p.2) (stored vs q.1 q.2):=by have:=r0.put p.1 h.2;rw[<- h.1];exact this
  exact ih e
def KN:∀(more kvs:Pb),(eQ kvs more).length<=kvs.length+more.length
 |[],kvs=>by show kvs.length<=kvs.length+0;omega
 |p::r,kvs=>by have h1:=KN r (putK kvs p.1 p.2);have h2:=J8 kvs p.1 p.2;show(eQ (putK kvs p.1 p.2) r).length<=_;rw[v0];omega
def bR{P:Pg}{w:Pk}:∀{kvs:Pb}{ws:List (Value×Value)},VV (kvs.map λkv=>(kV kv.1,kv.2)) ws->∃rs,Carries (yP P w) ws rs/\KV kvs rs
 |[],_,r=>by rw[a3a]at r;cases r;exact⟨[],True.intro,.nil⟩
 |p::kvs,_,r=>by
  rw[O6]at r;cases r with
  |@cons a b as bs h t=>obtain⟨rs,c,q⟩:=bR (P:=P) (w:=w) t;obtain⟨b1,b2⟩:=b;exact⟨(p.1,b2)::rs,⟨eN h.1,rfl,c⟩,.cons ⟨rfl,h.2⟩ q⟩
def Ma(trs:List (TE×TE)):TE:=λY H Q=>∀p,H p=none->pM trs Y (upd H p (.dK [])) λps H2=>H2 p=some (.dK [])/\∃kvs:List (Key×V),ps=kvs.map (λkv=>(kV kv.1,kv.2))/\kvs.length<=15/\Q (.ref p) (upd H2 p (.dK (eQ [] kvs)))
def Ds(h:PPs X pos keys values trs)(hall:keys.all (·.isSome)=true)(hl:keys.length=values.length)(h0:keys≠[])(h15:keys.length<=15):PE X (.Dict keys values pos) (Ma trs):=by
 intro Sa s Y H Q I q;have hn:=I.hok.fresh (O2 s.heap.objs.size);have I1:=I.laid (a:=s.heap.objs.size) (o:=.dK []) (h':=s.heap.push { cls:=.type "dict",data:=.dict #[] }) (t':=s.toks) (λ_ _ q=>O3 _ q) (O2 _) (lQ s.heap I.big);refine wpAny_Dict_walk (knd:=yP X.prog X.w) hall hl h0 h15 (Sk (h Sa _ Y _ _ I1 (q _ hn)) λws s2 ⟨ps,H2,I2,rel,e,kvs,ep,lk,q2⟩=>?_);subst ep;obtain⟨rs,c,rk⟩:=bR (P:=X.prog) (w:=X.w) rel;obtain⟨z,hd,vs0,r0,dd⟩:=Ga I2.hok e;cases r0;refine⟨rs,c,dd,λh' dd' hs=>⟨.ref s.heap.objs.size,_,?_,rfl,q2⟩⟩;have hz:(eQ [] kvs).length<=sizeLine:=by have h1:=KN kvs [];rw[a1M]at h1;rw[TC];omega
 have he:∃q,h'.get? s.heap.objs.size=some q:=let⟨q,_,_,hq,_⟩:=dd';⟨q,hq⟩
 exact h_ I2 (by rw[e];exact True.intro) hs he (lO hz hd (rk.merge .nil) dd')
structure M1(X:Cx)(o:Pc)(m:Str)(jW:Pos)(e:Pc)(Y1:Pos):Prop where
 base:attributeBase o m X.env (eval o X.env)=eval o X.env
 few:((backTo Y1 (starEach [e] X.env)).all (λx=>!x.1)&&(backToKw Y1 (keywordEach [] X.env)).all (λx=>x.1.isSome)&&decide (([e]:List Expr).length+([]:List Keyword).length+(if([]:List Keyword).isEmpty then 0 else 1)<30))=true
 line:(jW.endLine==Y1.line)=true
 trees:backTo Y1 (starEach [e] X.env)=[(false,eval e X.env)]
structure M2(X:Cx)(o:Pc)(m:Str)(jW:Pos)(e f:Pc)(Y1:Pos):Prop where
 base:attributeBase o m X.env (eval o X.env)=eval o X.env
 few:((backTo Y1 (starEach [e,f] X.env)).all (λx=>!x.1)&&(backToKw Y1 (keywordEach [] X.env)).all (λx=>x.1.isSome)&&decide (([e,f]:List Expr).length+([]:List Keyword).length+(if([]:List Keyword).isEmpty then 0 else 1)<30))=true
 line:(jW.endLine==Y1.line)=true
 trees:backTo Y1 (starEach [e,f] X.env)=[(false,eval e X.env),(false,eval f X.env)]
def IsD(H:Hp)(a:Addr):Prop:=(∃kvs,Rd H a (.dK kvs))\/∃kvs,Rd H a (.dT kvs)
def Ge(I:Inv X Sa Y H s)(d:IsD H a):
  s.TypeIs (.ref a) "dict"/\(∀b,Value.ref a=.ref b->∃ob,s.heap.get? b=some ob/\ob.dict=none)/\(a==sysModules)=false:=by
 rcases d with⟨kvs,e⟩|⟨kvs,e⟩
 .obtain⟨_,hd,vs,_,dd⟩:=J9 I.hok e;refine⟨dd.typeIs,λb q=>?_,hd⟩;cases q;obtain⟨ob,_,_,h1,h2,_⟩:=dd;exact⟨ob,h1,h2.2.1⟩
 .obtain⟨_,hd,xs,_,dd⟩:=hX I.hok e;refine⟨dd.typeIs,λb q=>?_,hd⟩;cases q;obtain⟨ob,_,_,h1,h2,_⟩:=dd;exact⟨ob,h1,h2.2.1⟩
def Gf(hu:A.units+1<cLine)(I:Inv X Sa Y H s)(g:lN H a y o)(ry:RelV y u)(h:∀w' s',Inv X Sa Y H s'->RelV (o.getD .non) w'->Q w' s'):
  wpAny (Rk X) A (call (.builtin "dict.get") [.ref a,u]) Q E s:=by
 rcases g with⟨kvs,k,e,ey,l⟩|⟨kvs,k,b,e,ey,eb,l⟩
 .subst ey;obtain⟨z,hd,vs,rel,dd⟩:=J9 I.hok e;refine call_meetsIn a1D dd.typeIs a2G (a2y _ _) (meets_dict_get (yP X.prog X.w) a (eN ry) hd) ⟨_,dd.mapOf,h _ _ (I.tok _) ?_⟩;rw[l];exact(rel.val k).getD rfl
 .subst ey;cases(show u=Value.ref b from ry);obtain⟨z,hd,xs,rel,dd⟩:=hX I.hok e;refine call_meetsIn a1D dd.typeIs a2G (a2y _ _) (meetsH_dict_get (tupleKind (yP X.prog X.w)) a b hd) ⟨a09 hu,k,xs,bQ I.hok eb,dd,h _ _ (I.tok _) ?_⟩;rw[l];exact(rel.val k).getD rfl
def Gg(td ty:TE):TE:=λY H Q=>td Y H λx H1=>∃a,x=.ref a/\IsD H1 a/\ty Y H1 λy H2=>∃o,lN H2 a y o/\Q (o.getD .non) H2
def xx(hu:X.A.units+1<cLine)(ho:PE X o td)(he:PE X e ty)(m:M1 X o "get" jW e Y1):PE X (.Call (.Attribute o "get" jW) [e] [] Y1) (Gg td ty):=by intro Sa s Y H Q I h;refine wpAny_Call_method m.base m.few m.line PySem.F.plainAttrs_dict a1D PySem.F.type_dict_get (Sk (ho Sa s Y H _ I h) λu s1 ⟨x,H1,I1,rx,a,ex,d,q1⟩=>?_);subst ex;obtain rfl:u=Value.ref a:=rx;obtain⟨t1,t2,_⟩:=Ge I1 d;refine⟨t1,t2,?_⟩;rw[m.trees];refine a1z rfl (a2Q (a29 (Sk (he Sa s1 Y H1 _ I1 q1) λiv s2 ⟨y,H2,I2,ry,ov,g,q2⟩=>Calls.spliced_nil ?_)));exact Gf hu I2 g ry λw' s3 I3 rw'=>⟨_,H2,I3,rw',q2⟩
def xy(I:Inv X Sa Y H s)(e:Rd H a (.dK kvs))(h:∀p s',H p=none->Inv X Sa Y (upd H p (.dK kvs)) s'->Q (.ref p) s'):wpAny (Rk X) A (call (.type "dict") [.ref a]) Q E s:=by obtain⟨z,hd,vs,rel,dd⟩:=J9 I.hok e;refine kt_call_dict hd dd (by rw[<- rel.length];exact z) λh' dd' hs=>?_;refine h _ _ (I.hok.fresh (O2 _)) (I.laid (a:=s.heap.objs.size) (o:=.dK kvs) (t':=s.toks) (λb q hq=>?_) (O2 _) (lO z (Ν.mpr (Ne.symm (P6 I.big))) rel dd'));exact(hs.2 b (P6 (O7 hq))).trans (O3 _ hq)
section
variable {X:Cx}{Sa:OR}{Y:St}{H:Hp}{s:OV}{a:Addr}{y:V}{u:Value}{A:Po}{E:OT}
end
end L2
namespace Att
open PySem PySem.W PySem.Calls PyProof.Rows
def Uh:∀(ns:Pn)(vs:OZ),WellAll P h vs (ns.map WData.int)->IntsAre vs ns:=by
 intro ns
 induction ns with
 |nil=>intro vs w;rw[a3a]at w;cases w;exact .nil
 |cons n ns ih=>
  intro vs w;rw[O6]at w;cases w with
  |cons a b=>cases a;exact .cons _ _ (ih _ b)
def pN{l:OpenLaw}{n:Nat}(hn:l.most=some n){P:Params}{h:Heap}{args:List WData}{vals:OZ}(hpre:l.row.toRowW.claim.pre args=true)(hwl:WellAll P h vals args):
  ∃a vs ns,vals=[Value.ref a]/\args=[WData.list (ns.map WData.int)]/\h.get? a=some { cls:=.type "list",data:=.seq vs.toArray }/\IntsAre vs ns/\ns.length<=n:=by
 have hsh:WShape.hasAll [] args [.list .int]=true:=(pre_splitW hpre).1;have hc:l.pre.holds [] { args:=args }=true:=(pre_splitW hpre).2;obtain⟨d,r,rfl,h1,h2⟩:=hasAllW_cons hsh;obtain rfl:=hasAllW_nil h2;obtain⟨xs,rfl,h3⟩:=hasW_list h1;obtain⟨ns,rfl⟩:=items_int h3;have hlen:ns.length<=n:=by
  unfold OpenLaw.pre at hc;have h4:(WTm.not (.lt (.lit (.int (n:Int))) (.len (.arg 0)))).holds [] { args:=[.list (ns.map .int)] }=true:=by have h4:=(holds_andW hc).1;rw[hn]at h4;exact h4
  have h5:=condW_of h4 (w_not (w_lt w_lit (w_len_list (w_arg rfl))));rw[u8]at h5;refine Nat.le_of_not_lt λq=>?_;have q':(n:Int)<((ns.length:Nat):Int):=by omega
  first
   | (rw[O9 q']at h5;exact absurd h5 (by decide))
   | (simp at h5;omega)
 cases hwl with
 |cons w1 w2=>
  cases w2;cases w1 with
  |list ho hall=>exact⟨_,_,ns,rfl,rfl,ho,Uh ns _ hall,hlen⟩
def pO(l:OpenLaw)(args:List WData):l.row.toRowW.claim.post args (.bool true) args=true:=
 postW_of (r:=l.row.toRowW) (X:=(true==true))
  (show WShape.has [] (.bool true) .bool=true by first|rfl|decide|simp[WShape.has,WShape.arms,WShape.armsAll])
  (show(WTm.eq .res (.lit (.bool true))).value [] { args:=args,res:=some (.bool true),after:=args }=some (.bool (true==true))from w_eq_bool (w_res rfl) w_lit) rfl
def ic{l:OpenLaw}{n:Nat}{q:Pg}{loose:OP}{XP:(Str->Option Value)->Heap->Prop}{YP:World->Heap->Prop}{d:DefRec}(hn:l.most=some n)(hdf:d.params.defaults=[])(call:∀(w:Pk)(s₀ s₁:OV)(mg mb:OQ)(fa:Addr)(o:Obj)(pm cd doc:Value)(a:Addr) (vs:OZ) (ns:Pn),Ground q loose [] XP w s₀ mg mb s₁.heap->YP w s₁.heap-> s₁.heap.get? fa=some o->o.data=.func (docDef d.name d.params d.body d.scope pm cd doc)->s₁.heap.CodeRec cd d.name->mg d.name=some (.ref fa)-> s₁.heap.get? a=some { cls:=.type "list",data:=.seq vs.toArray }->IntsAre vs ns->ns.length<=n->s₁.gens = #[]-> codeAny (model l.prog w) callerA (.call (.ref fa) ⟨[.ref a],[]⟩) (λr s'=>r=.ok (.ret (.bool true))/\OldK s₁.heap s'.heap/\s'.os=s₁.os/\AllBare s'.gens) s₁):
  WalkO q loose XP YP l.row.toRowW d [] (λf vs=>PySem.call f vs):=by
 intro w s₀ s₁ mg mb G Yaa fa o pm cd doc dV kV ho hd hcd hD hmg hg args vals as hpre hlay hrd hwl hlo;obtain rfl:dV=.none:=Dflts.none hD hdf;obtain rfl:kV=.none:=Dflts.noKw hD;obtain⟨a,vs,ns,rfl,rfl,hobj,hints,hlen⟩:=pN hn hpre hwl;refine enter_call (ϙ (call w s₀ s₁ mg mb fa o pm cd doc a vs ns G Yaa ho (fd_plain hd) hcd hmg hobj hints hlen hg) λr s' hq=>?_);obtain⟨rfl,h2,h3,h4⟩:=hq;exact⟨.inl ⟨.bool true,.bool true,[],rfl,λ_=>rfl,.bool true,pO l _,λ_=>⟨List.Pairwise.nil,λ_ hm=>(nomatch hm)⟩⟩,h2,h3,h4⟩
section
variable {prog:Pg}{w:Pk}{A:Po}{E:OT}{s:OV}{K:Pw}
end
end Att
namespace L2
open PySem PySem.Spec PyProof.Rows
def eU:∀{vs:OZ}{ns:Pn},IntsAre vs ns->Vals (ns.map V.int) vs
 |_,_,.nil=>.nil
 |_,_,.cons n t h=>.cons ⟨t,rfl⟩ (eU h)
def Mb(H:Hp):Prop:=∀b,H b=none\/∃o xs,H b=some (.frz o (.lst xs))
def xA{P:Pg}{w:Pk}{K:OY}{mg mb:OQ}{CX:Ζ}{k:Nat}{fa a:Addr}{fd:Pl}{x:Str}{sp:Sp}{s₁:OV}{vs:OZ}{ns:Pn}(KX:K.In s₁.heap)(hns:s₁.heap.Ns mainGlobals mg)(hb:s₁.heap.Ns builtinsNs mb)(hbb:∀x:Str,x≠"__name__"->mb x=bootBuiltins x)(hlim:s₁.heap.NoLimit)(hg:s₁.gens = #[])(ha:s₁.heap.get? a=some { cls:=.type "list",data:=.seq vs.toArray })(hi:IntsAre vs ns)(hl:ns.length<=sizeLine)(hr:vf k callerA)(F:∀base:Heap,K.In base->base.Ns mainGlobals mg->yW P w K mg base CX k fa fd [x] sp)(hbind:∀(s:OV)(u:Value),BindsTo s fd ⟨[u],[]⟩ [(x,u)])(Ts:∀H:Hp,Mb H->Sq K H a (ns.map V.int)->sp [.ref a] H (λv _=>v=.bl true) λ_ _ _=>False)(hCX:∀H e s',CX [] H s₁ (λ_ _ _=>False) e s'->False):
  codeAny (model P w) callerA (.call (.ref fa) ⟨[.ref a],[]⟩) (λr s'=>r=.ok (.ret (.bool true))/\OldK s₁.heap s'.heap/\s'.os=s₁.os/\AllBare s'.gens) s₁:=by
 have rv:=eU hi;have CL:=hi.length
 have core:∀H:Hp,Mb H->Sq K H a (ns.map V.int)->SK P w H s₁.heap->(∀b,H b≠none->b=a)->(H a≠none->K.lookup a=none)->
   codeAny (model P w) callerA (.call (.ref fa) ⟨[.ref a],[]⟩) (λr s'=>r=.ok (.ret (.bool true))/\OldK s₁.heap s'.heap/\s'.os=s₁.os/\AllBare s'.gens) s₁:=by
  intro H hO hS hok hA hK;have base_of:∀{b:Addr}{o:Obj},s₁.heap.get? b=some o->H b=none->(u9 s₁.heap H).get? b=some o:=λe n=>u_ e n;have noA:∀{b:Addr}{o:Obj}{es:Array DictEntry}{ep:Nat},s₁.heap.get? b=some o->o.data=.dict es ep->H b=none:=λ{b o es ep} e d=>by
   cases q:H b with
   |none=>rfl
   |some u=>have e':b=a:=hA b (by rw[q];simp);subst e';rw[ha]at e;cases e;have d':Data.seq vs.toArray _=Data.dict es ep:=d;cases d'
  have nsK:∀{b:Addr}{m:OQ},s₁.heap.Ns b m->(u9 s₁.heap H).Ns b m:=λ{b m} ⟨o,es,ep,e,d,r⟩=>⟨o,es,ep,base_of e (noA e d),d,r⟩;have hKb:K.In (u9 s₁.heap H):=λb o e=>base_of (KX b o e) (by
   cases q:H b with
   |none=>rfl
   |some u=>
    have e':b=a:=hA b (by rw[q];simp);subst e';rw[hK (by rw[q];simp)]at e;cases e)
  have hM:Mod K mg (u9 s₁.heap H):=⟨hKb,nsK hns,⟨mb,nsK hb,hbb⟩,let⟨mc,h1,h2⟩:=hlim;⟨mc,nsK h1,h2⟩⟩;have e0:xk P w K mg (u9 s₁.heap H) callerA [] s₁ H:=⟨rfl,hM,λb o e=>C3 e,a1J (o6 _ _),trivial,λb hb=>absurd (show b∈([]:List Addr)from hb) (by simp),hok,.of_eq hg⟩;refine ϙ ((F _ hKb (nsK hns)).run callerA [] s₁ H ⟨[.ref a],[]⟩ [.ref a] [.ref a] _ _ hr e0 (hbind s₁ (.ref a)) (.cons rfl .nil) (Ts H hO hS)) λr s' h=>?_;cases r with
  |error e=>exact(hCX H e s' h).elim
  |ok fl=>
   cases fl with
   |next=>exact False.elim h
   |brk=>exact False.elim h
   |cont=>exact False.elim h
   |ret u=>
    obtain⟨v,H',os,bare,un,hok',r',q⟩:=h;have q':v=.bl true:=q;subst q';obtain rfl:u=Value.bool true:=r';refine⟨rfl,OldK.of_keep λb o e=>?_,os,bare⟩;cases q:H b with
    |none=>exact un.keep b o e q (by intro z;exact absurd (show b∈([]:List Addr)from z) (by simp)) (by simp)
    |some u=>
     rcases hO b with z|⟨ob,xs,z⟩
     .rw[q]at z;cases z
     .have z2:=un.u7 b ob _ z;obtain⟨e1,_⟩:=hok b _ z;obtain⟨e2,_⟩:=hok' b _ z2;rw[e]at e1;cases e1;exact e2
 cases hk:K.lookup a with
 |some o=>
  have e:=KX a o hk;rw[ha]at e;cases e;refine core (λ_=>none) (λ_=>.inl rfl) (.inr ⟨_,vs.toArray,_,hk,rfl,rfl,rfl,by rw[P0,CL];exact hl,by simpa using rv⟩) (λb u z=>by have z':(none:Option HO)=some u:=z;cases z') (λb z=>absurd rfl z) λz=>absurd rfl z
 |none=>
  refine core (λb=>if b=a then some (.frz { cls:=.type "list",data:=.seq vs.toArray } (.lst (ns.map V.int)))else none) (λb=>?_) (.inl (.inr ⟨{ cls:=.type "list",data:=.seq vs.toArray },if_pos rfl⟩)) (λb u z=>?_) (λb z=>?_) λ_=>hk
  .by_cases hb:b=a
   .exact .inr ⟨_,_,if_pos hb⟩
   .exact .inl (if_neg hb)
  .by_cases hb:b=a
   .have z':=(if_pos hb).symm.trans z;cases z';subst hb;exact⟨ha,by rw[u8];exact hl,vs,_,rv,ha⟩
   .have z':=(if_neg hb).symm.trans z;cases z'
  .by_cases hb:b=a
   .exact hb
   .exact absurd (if_neg hb) z
def Dt{l:PySem.W.OpenLaw}{n k:Nat}{q:Pg}{loose:OP}{XP:(Str->Option Value)->Heap->Prop}{YP:World->Heap->Prop}{d:DefRec}{K:Params->PySem.W.Frag}{CX:World->Ζ}{sp:World->Sp}{x:Str}(hn:l.most=some n)(hn2:n<=sizeLine)(hdf:d.params.defaults=[])(hr:vf k callerA)(hY:∀(w:Pk)(h:Heap),YP w h->(K w.params).In h)(F:∀(w:Pk)(mg:OQ)(fa:Addr)(h:Heap),(K w.params).In h->h.Ns mainGlobals mg->mg d.name=some (.ref fa)-> ∃fd:FuncData,(∀(s:OV)(u:Value),BindsTo s fd ⟨[u],[]⟩ [(x,u)])/\ ∀base:Heap,(K w.params).In base->base.Ns mainGlobals mg->yW l.prog w (K w.params) mg base (CX w) k fa fd [x] (sp w))(Ts:∀(w:Pk)(H:Hp)(a:Addr)(ns:Pn),ns.length<=n->Mb H->Sq (K w.params) H a (ns.map V.int)->sp w [.ref a] H (λv _=>v=.bl true) λ_ _ _=>False)(hCX:∀(w:Pk)(H:Hp)(s:OV)(e:Value)(s':OV),CX w [] H s (λ_ _ _=>False) e s'->False):
  PySem.W.WalkO q loose XP YP l.row.toRowW d [] (λf vs=>PySem.call f vs):=by
 refine Att.ic hn hdf λw s₀ s₁ mg mb fa o pm cd doc a vs ns G Yaa ho hd hcd hmg hobj hints hlen hg=>?_;have KX:=hY w _ Yaa;obtain⟨fd,hb,hF⟩:=F w mg fa _ KX G.T.g hmg;exact xA KX G.T.g G.T.b G.T.builtins G.T.nolimit hg hobj hints (S6 hlen hn2) hr hF hb (λH hO hS=>Ts w H a ns hlen hO hS) λH e s'=>hCX w H s₁ e s'
def inClass(s:PB)(j:Nat):Stmt:=match s with
 |.ClassDef _ _ _ body _ _ _ _ _ _ _=>body.getD j (.Pass ⟨0,0,0,0⟩)
 |_=>.Pass ⟨0,0,0,0⟩
def Ui(s:PB):Arguments:=match s with
 |.FunctionDef _ a _ _ _ _ _ _ _ _=>a
 |_=>{ posonlyargs:=[],args:=[],vararg:=none,kwonlyargs:=[],kw_defaults:=[],kwarg:=none,defaults:=[] }
def ZX(s:PB):List Stmt:=match s with
 |.FunctionDef _ _ b _ _ _ _ _ _ _=>b
 |_=>[]
def zk(s:PB):Scope:=match s with
 |.FunctionDef _ _ _ _ _ _ sc _ _ _=>sc
 |_=>{ kind:=.function,names:=[],isGenerator:=false,isCoroutine:=false }
abbrev E0:XK:=λ_ _ _=>False
structure SA(K:OY)(x qual:Str)(st:PB)(f:Addr)(fd:Pl):Prop where
 ex:∃(oc:Value)(od:PC)(kV doc pm:Value)(an:PC)(cdv ct:Value)(osl:Py),
  fd=PySem.W.fnOf x qual (Ui st) (ZX st) (zk st) .none kV doc pm an cdv ct/\K.lookup f=some ⟨oc,od,.func fd,osl⟩/\PySem.W.codeIn K cdv qual=true
 kp:PySem.W.keepIn K (.ref f)=true
section
variable {P:Pg}{w:Pk}{K:OY}{mg:OQ}{base:Heap}
def SA.binds{x qual:Str}{st:PB}{f:Addr}{fd:Pl}{ps:OP}(F:SA K x qual st f fd)(h:∀(kV doc pm:Value)(an:PC)(cdv ct:Value)(us:OZ),us.length=ps.length->bindArgs (PySem.W.fnOf x qual (Ui st) (ZX st) (zk st) .none kV doc pm an cdv ct) ⟨us,[]⟩=pure (ps.zip us)):Binds K fd ps []:=by
 obtain⟨oc,od,kV,doc,pm,an,cdv,ct,osl,rfl,lk,hcd⟩:=F.ex;exact .all (h kV doc pm an cdv ct)
def BL{x qual:Str}{st:PB}{f:Addr}{oc:Value}{od an:PC}{osl:Py}{kV doc pm cdv ct:Value}(l:K.lookup f=some ⟨oc,od,.func (PySem.W.fnOf x qual (Ui st) (ZX st) (zk st) .none kV doc pm an cdv ct),osl⟩)(c:PySem.W.codeIn K cdv qual=true)(k:PySem.W.keepIn K (.ref f)=true):SA K x qual st f (PySem.W.fnOf x qual (Ui st) (ZX st) (zk st) .none kV doc pm an cdv ct):=⟨⟨oc,od,kV,doc,pm,an,cdv,ct,osl,rfl,l,c⟩,k⟩
end
def qR(hr:vf k A):A.units+1<cLine:=Ϯ (Nat.add_le_add_left (by decide:1<=64) _) hr.units
def pv(i:Nat)(hN:X.N[i]?=some x:=by rfl)(hv:Vis X.env.scope x:=by first|exact Or.inl rfl|exact Or.inr (Or.inl rfl)|exact Or.inr (Or.inr rfl))(hd:Rn x:=by decide)(hcd:(x==("__classdict__":Str))=false:=by decide):PE X (.Name x pos) (nC i):=FK hN hv hd hcd
def BM{A B:Prop}(h:B):if false=true then A else B:=by rw[if_neg P5];exact h
def BO{A B:Prop}(h:A):if true=true then A else B:=by rw[if_pos rfl];exact h
def zH(H H':Hp):Prop:=∀b o,H b=some o->H' b=some o
def zH.refl(H:Hp):zH H H:=λ_ _ h=>h
def zH.trans(a:zH H H1)(b:zH H1 H2):zH H H2:=λc o h=>b c o (a c o h)
section
variable {κ:Type}[DecidableEq κ]
end
end L2
set_option maxHeartbeats 4000000
namespace L2
open PySem PySem.Spec PyProof.Rows PySem.W
def kR:List Value:=[.type "ValueError",.type "Exception",.type "BaseException",.type "object"]
def eV:List Value->List Value
 |.ref _::r=>eV r
 |l=>l
structure YY(K:Pw)(C:Addr):Prop where
 over:(clsIn K C).any (λcd=>eV cd.mro==kR && !cd.mro.isEmpty&&cd.hasDict)=true
 sa:findIn K (.ref C) "__setattr__"=some (some (.builtin "object.__setattr__"))
 ga:findIn K (.ref C) "__getattribute__"=some (some (.builtin "BaseException.__getattribute__"))
 gn:findIn K (.ref C) "__getattr__"=some none
 ty:typeIn K (.ref C)=some (.type "type")
def Ww(self:Value):∀l:List Value,eV l=kR->refuseLoop self "__setattr__" l=pure ()
 |[],e=>by cases e
 |.ref c::r,e=>by rw[refuseLoop_ref];exact Ww self r e
 |.type n::r,e=>by rw[show Value.type n::r=kR from e];exact PySem.F.store_ValueError.passes self
 |.none::r,e=>by cases e
 |.bool _::r,e=>by cases e
 |.int _ _::r,e=>by cases e
 |.str _ _::r,e=>by cases e
 |.bytes _ _::r,e=>by cases e
 |.float _ _::r,e=>by cases e
 |.builtin _::r,e=>by cases e
 |.ellipsis::r,e=>by cases e
 |.notImplemented::r,e=>by cases e
def eX{x:String}(hx:kR.contains (.type x)=true):∀l:List Value,eV l=kR->l.contains (.type x)=true
 |[],e=>by cases e
 |.ref c::r,e=>by rw[List.contains_cons,eX hx r e,Bool.or_true]
 |.type n::r,e=>by rw[show Value.type n::r=kR from e];exact hx
 |.none::r,e=>by cases e
 |.bool _::r,e=>by cases e
 |.int _ _::r,e=>by cases e
 |.str _ _::r,e=>by cases e
 |.bytes _ _::r,e=>by cases e
 |.float _ _::r,e=>by cases e
 |.builtin _::r,e=>by cases e
 |.ellipsis::r,e=>by cases e
 |.notImplemented::r,e=>by cases e
def YY.cd{K:Pw}{C:Addr}(c:YY K C):∃cd,clsIn K C=some cd/\eV cd.mro=kR/\cd.mro.isEmpty=false/\cd.hasDict=true:=by obtain⟨cd,hc,h⟩:=any_some c.over;simp only[Bool.and_eq_true,beq_iff_eq,Bool.not_eq_true']at h;exact⟨cd,hc,h.1.1,h.1.2,h.2⟩
def YY.sub{K:Pw}{C:Addr}(c:YY K C){x:String}(hx:kR.contains (.type x)=true):mroIn K C (.type x)=some true:=by obtain⟨cd,hc,h1,h2,_⟩:=c.cd;unfold mroIn;rw[hc,Option.bind_some,if_neg (by rw[h2];decide),eX hx _ h1]
def yU(C:Addr)(od:PC)(t:Addr)(T:Value)(sl:Py):Obj:=⟨.ref C,od,.fields #[.ref t,T,.none,.none,.bool false,.none],sl⟩
section
variable {prog:Pg}{w:Pk}{A:Po}{E:OT}{s:OV}{K:Pw}{x dx C t:Addr}{T:Value}{sl:Py}{mA:OQ}{name:Str}{v:Value}{R:Result->Shared->Prop}
def lR(X:K.In s.heap)(c:YY K C)(I:InstAt s.heap x (yU C od t T sl) C oo)(ht:takerIn K C name=some none)(h:∀b,wpAny (model prog w) A.in1 (Builtin.ObjectAttr.storeInOwnDict (.ref x) (.ref C) (.str name tk) name v b) (λfin s'=>match fin with | .done f=>R (.ok f) s' | .again c'=>c'.quiet=true/\codeAny (model prog w) A c' R s') (λe s'=>R (.error e) s') s):
  codeAny (model prog w) A (.call (.builtin "object.__setattr__") ⟨[.ref x,.str name tk,v],[]⟩) R s:=by
 have SF:=PySem.F.store_object;obtain⟨cd,hc,ho,ne,_⟩:=c.cd;have sub:Looks (model prog w) s.heap (isInstance (.ref x) (.type "object")) true:=I.type.andThen (a1X X (c.sub (x:="object") (by decide)));refine a1k SF.slot.plain SF.entry (@check_slot (model prog w) _ _ s "object.__setattr__" "object" "__setattr__" (.ref x) [.str name tk,v] [] _ SF.kind SF.split sub (SF.args (.ref x) (.str name tk) v) ?_);obtain⟨attr,ha,hr⟩:=R4.mp ht;have hm:Looks (model prog w) s.heap (mroOf (.ref C)) cd.mro:=(a3f X hc).andThen .now;have L3:Looks (model prog w) s.heap (Builtin.ObjectAttr.storeTaker? attr) none:=by
  cases attr with
  |none=>exact .now
  |some a=>
   obtain⟨b,hb,e⟩:=v4.mp hr;refine(looks_takesIn X hb).andThen ?_;cases b with
   |true=>cases e
   |false=>exact .now
 rw[osa_eq,refuse_eq];refine f8 (f8 (I.type.here (f8 (hm.here ?_))));rw[Ww _ _ ho];refine O5 (f8 (I.type.here (f8 ((ϻ X ha).here (f8 (L3.here ?_))))));exact h _
def nQ(X:K.In s.heap)(c:YY K C)(hx:s.heap.get? x=some (yU C none t T sl))(ht:takerIn K C name=some none)(h:∀h',h'.get? x=some (yU C (some s.heap.objs.size) t T sl)->h'.Ns1 s.heap.objs.size (λy=>if y=name then some v else none)-> (∀b o,b≠x->s.heap.get? b=some o->h'.get? b=some o)->Q () { s with heap:=h',toks:=s.toks+2 }):
  wpAny (model prog w) A (setAttr (.ref x) name v) Q E s:=by
 have I:InstAt s.heap x (yU C none t T sl) C none:=⟨hx,rfl,rfl,trivial⟩;refine set_plain X I c.sa (lR (s:={ s with toks:=s.toks+1 }) X c I ht λb=>?_);obtain⟨cd,hc,_,_,hd⟩:=c.cd;have hxs:x≠s.heap.objs.size:=P6 (O7 hx);have hx1:(s.heap.push emptyDict).get? x=some (yU C none t T sl):=O3 _ hx;refine f8 (O5 (f8 (f8 (a1h hx (f8 (Looks.here (s:={ s with toks:=s.toks+1 }) (a3f X hc) ?_))))));rw[hd];refine f8 (wpAny_alloc' (f8 (wpAny_update' hx1 (O5 ?_))));have hgx:((s.heap.push emptyDict).update x λo=>{ o with dict:=some s.heap.objs.size }).get? x=some (yU C (some s.heap.objs.size) t T sl):=a0J _ hx1 rfl;have hgd:((s.heap.push emptyDict).update x λo=>{ o with dict:=some s.heap.objs.size }).get? s.heap.objs.size=some emptyDict:=(a1V _ _ _ _ hxs.symm).trans (Heap.get?_push_at rfl rfl);have hnd:((s.heap.push emptyDict).update x λo=>{ o with dict:=some s.heap.objs.size }).Ns s.heap.objs.size (λ_=>none):=⟨_,#[],_,hgd,rfl,λe he=>absurd he (by simp),λ_=>rfl⟩;refine f8 (O5 (f8 ?_));refine a28 (s:={ s with heap:=(s.heap.push emptyDict).update x λo=>{ o with dict:=some s.heap.objs.size },toks:=s.toks+1 }) (Heap.Ns1.of_empty hnd) λh' hn' hs=>?_;obtain⟨oD,esD,epD,hoD,hdD,hcD⟩:=hn'.count (a16 name v PySem.Within.nil);refine f8 (a2e hoD (by rw[hdD];exact a2f (S6 hcD (by rw[v0,a1M,TC];omega))) ?_);refine O5 (h _ ((hs.2 _ hxs).trans hgx) hn' λb o hb e=>?_);exact(hs.2 _ (P6 (O7 e))).trans ((a1V _ _ _ _ hb).trans (O3 _ e))
def pP(X:K.In s.heap)(c:YY K C)(hx:s.heap.get? x=some (yU C (some dx) t T sl))(hn:s.heap.Ns1 dx mA)(hne:dx≠x)(ht:takerIn K C name=some none)(hw:PySem.Within mA ns)(hsz:ns.length<=sizeLine)(h:∀h',h'.Ns1 dx (λy=>if y=name then some v else mA y)->Heap.SameBut dx s.heap h'->Q () { s with heap:=h',toks:=s.toks+2 }):
  wpAny (model prog w) A (setAttr (.ref x) name v) Q E s:=by
 obtain⟨od,hod,_⟩:=KG hn;have I:InstAt s.heap x (yU C (some dx) t T sl) C (some od):=⟨hx,rfl,rfl,hod⟩;refine set_plain X I c.sa (lR (s:={ s with toks:=s.toks+1 }) X c I ht λb=>?_);obtain⟨cd,hc,_,_,hd⟩:=c.cd;refine f8 (O5 (f8 (f8 (a1h hx (f8 (Looks.here (s:={ s with toks:=s.toks+1 }) (a3f X hc) ?_))))));rw[hd];refine O5 (a:=some dx) (f8 (O5 (f8 ?_)));refine a28 (s:={ s with toks:=s.toks+1 }) hn λh' hn2 hs2=>?_;obtain⟨oD,esD,epD,hoD,hdD,hcD⟩:=hn2.count (a16 name v hw);refine f8 (a2e hoD (by rw[hdD];exact a2f (S6 hcD (by rw[v0];omega))) ?_);exact O5 (h _ hn2 hs2)
def Oo(X:K.In s.heap)(c:YY K C)(hx:s.heap.get? x=some (yU C (some dx) t T sl))(hn:s.heap.Ns1 dx mA)(ha:findIn K (.ref C) name=some none)(hv:mA name=some v)(hh:handedIn v=true)(h:Q v { s with toks:=s.toks+1 }):wpAny (model prog w) A (getAttr (.ref x) name expr) Q E s:=by
 obtain⟨od,hod,hl⟩:=KG hn;have I:InstAt s.heap x (yU C (some dx) t T sl) C (some od):=⟨hx,rfl,rfl,hod⟩;obtain⟨cd,hc,ho,ne,hdct⟩:=c.cd;obtain⟨hp,g,d,tk,os⟩:=s;have L0:=I.type (M:=model prog w);have L1:=ϻ (M:=model prog w) X c.ga;have L2:=ϻ (M:=model prog w) X c.gn;have Lb:Looks (model prog w) hp (isInstance (.ref x) (.type "BaseException")) true:=L0.andThen (a1X X (c.sub (x:="BaseException") (by decide)));have L3:=looks_find (M:=model prog w) X I (findObj_own (by unfold hasDictIn;rw[hc];exact hdct) ha rfl (by rw[hl,hv]));have ga:=PySem.F.excAttr_ValueError.ga;have f3:=ga.bind (.ref x);unfold getAttr getAttrBy;refine f8 (a2h (ρ (f8 (L0.at (f8 (L1.at ?_))))));dsimp only;rw[show(onTheHeap (Value.ref C)&&Value.builtin "BaseException.__getattribute__"==Value.builtin "object.__getattribute__")=false from by
  rw[show(Value.builtin "BaseException.__getattribute__"==Value.builtin "object.__getattribute__")=false from by decide +kernel];rfl]
 show wpAny _ _ (getAttrByItsOwn _ _ _ _ _ _) _ _ _;unfold getAttrByItsOwn;refine f8 (show wpAny _ _ (typeLookup (.ref C) "__getattr__") _ _ _ from L2.at ?_);unfold callGetattribute boundAndCalled;rw[show(expr&&onTheHeap (Value.builtin "BaseException.__getattribute__"))=false from by cases expr<;>rfl];refine f8 (a1n (ρ ?_));show wpAny _ _ (bindSpecial _ _ >>= _) _ _ _;rw[f3];refine f8 (O5 (ύ (a1k ga.plain F.entry_bexc_ga ?_)));have hk:builtinKind "BaseException.__getattribute__"=some .slot:=by decide +kernel
 have hs:splitId "BaseException.__getattribute__"=some ("BaseException","__getattribute__"):=by decide +kernel
 refine @check_slot (model prog w) _ _ ⟨hp,g,d,tk+1,os⟩ "BaseException.__getattribute__" "BaseException" "__getattribute__" (.ref x) [.str name tk] [] _ hk hs Lb (F.args_bexc_ga (.ref x) (.str name tk)) ?_;unfold Builtin.«object.__getattribute__»
 repeat lk
 show wpAny _ _ (handedOut v) _ _ _;rw[handedOut_of hh];exact O5 h
end
def strKeys(es:Array DictEntry):Bool:=es.toList.all λe=>match e.key with | .str _ _=>true|_=>false
def eY(K:Pw):List Value->Bool
 |.ref a::r=>(match K.lookup a with
   |some ⟨_,_,.cls cd,_⟩=>(match K.lookup cd.ns with
     |some ⟨_,_,.dict es _,_⟩=>strKeys es&&(es.toList.all λe=>!e.key.isStr "__init__")
     |_=>false)
   |_=>false)&&eY K r
 |l=>l==kR
def nR{h:Heap}{N:Addr}{c:Value}{dd:PC}{es:Array DictEntry}{ep:Nat}{sl:Py}(e:h.get? N=some ⟨c,dd,.dict es ep,sl⟩)(k:strKeys es=true)(hi:(es.toList.all λe=>!e.key.isStr "__init__")=true):∃m,h.Ns N m/\m "__init__"=none:=by
 refine⟨λn=>nsFind es n,⟨_,es,ep,e,rfl,λx hx=>?_,λ_=>rfl⟩,?_⟩
 .have q:=a0Y.mp k x (a2P.mpr hx);split at q
  .rename_i n t hk;exact⟨n,t,hk⟩
  .cases q
 .show nsFind es "__init__"=none;unfold nsFind findBy;rw[<- a27,List.find?_eq_none.mpr λx hx=>by simpa using a0Y.mp hi x hx];rfl
def pQ{K:Pw}{h:Heap}(X:K.In h):∀l:List Value,eY K l=true->OwnTail h kR l
 |.ref a::r,e=>by
  unfold eY at e;obtain⟨e1,e2⟩:=a2R.mp e;split at e1
  .rename_i c dd cd sl hl;split at e1
   .rename_i c2 dd2 es ep sl2 hl2;obtain⟨k1,k2⟩:=a2R.mp e1;obtain⟨m,hm,hm0⟩:=nR (X _ _ hl2) k1 k2;exact .own (X _ _ hl) hm hm0 (pQ X r e2)
   .cases e1
  .cases e1
 |[],e=>by cases e
 |.type n::r,e=>by rw[show Value.type n::r=kR from S9.mp e];exact .base
 |.none::r,e=>by rw[show Value.none::r=kR from S9.mp e];exact .base
 |.bool _::r,e=>by rw[S9.mp e];exact .base
 |.int _ _::r,e=>by rw[S9.mp e];exact .base
 |.str _ _::r,e=>by rw[S9.mp e];exact .base
 |.bytes _ _::r,e=>by rw[S9.mp e];exact .base
 |.float _ _::r,e=>by rw[S9.mp e];exact .base
 |.builtin _::r,e=>by rw[S9.mp e];exact .base
 |.ellipsis::r,e=>by rw[S9.mp e];exact .base
 |.notImplemented::r,e=>by rw[S9.mp e];exact .base
structure SY(K:Pw)(C f:Addr):Prop where
 cls:∃nm q N bs bm sn sub ab col dd k0 k1 k2 k3 k5,K.lookup C=some (excClassObj nm q C N bs bm true sn sub ab col dd k0 k1 k2 k3 k5 "ValueError.__new__")/\eY K bm=true
 init:findIn K (.ref C) "__init__"=some (some (.ref f))
 fn:typeIn K (.ref f)=some (.type "function")
 kp:keepIn K (.ref C)=true
section
variable {prog:Pg}{w:Pk}{A:Po}{E:OT}{K:Pw}{C f:Addr}{h:Heap}{g:Array GenState}{d:Drawn}{t:Nat}{os:OsState}
def BP(rest:OZ):Obj:={ cls:=.type "tuple",data:=.seq rest.toArray }
def Mc{rest:OZ}{Q:OT}(M:SY K C f)(X:K.In h)(hrest:rest.length<=sizeLine)(hq:codeAny (model prog w) (A.under (.builtin "type.__call__" ⟨.ref C::rest,[]⟩)) (.call (.ref f) ⟨.ref (h.objs.size+1)::rest,[]⟩) (λr s'=>match r with | .ok (.ret v)=>v=.none/\Q (.ref (h.objs.size+1)) s' | .ok _=>False | .error e=>E e s') ⟨(h.push (BP rest)).push (yU C none h.objs.size .none #[]),g,d,t,os⟩):
  wpAny (model prog w) A (call (.ref C) rest) Q E ⟨h,g,d,t,os⟩:=by
 obtain⟨nm,q,N,bs,bm,sn,sub,ab,col,dd,k0,k1,k2,k3,k5,hK,hT⟩:=M.cls;have hC:=X _ _ hK;have T:=pQ X _ hT;have F:=PySem.F.excBase_ValueError;have f1:=tc_lookup;have f2:=tc_bind (.ref C);have hTy:(⟨h,g,d,t,os⟩:Shared).TypeIs (.ref C) "type":=⟨_,hC,rfl⟩;refine ύ (codeAny_of_tree ?_);show wpAny _ _ (callAny (.ref C) _) _ _ _
 repeat(any_goals(first|assumption|with_reducible refine wpAny_loadPart_at hC ?_|wp_step))
 refine And.intro rfl (codeAny_call_builtin_at (a3b _ (by decide +kernel)) entry_typeCall (wpAny_check_type_call_sub hC ?_))
 repeat(first|with_reducible refine wpAny_loadPart_at hC ?_|with_reducible refine wpAny_madeBy_exc hC ?_|wp_step)
 refine codeAny_call_builtin_code (a3b _ F.quiet) (wpAny_check_new_subT F T hC (codeAny_exc_new_subT F T hC ?_ hrest));show wpAny _ _ _ _ _ ⟨(h.push (BP rest)).push (yU C none h.objs.size .none #[]),g,d,t,os⟩;have kp:∀b o,h.get? b=some o->((h.push (BP rest)).push (yU C none h.objs.size .none #[])).get? b=some o:=λb o e=>O3 _ (O3 _ e);have hx:((h.push (BP rest)).push (yU C none h.objs.size .none #[])).get? (h.objs.size+1)=some (yU C none h.objs.size .none #[]):=by heap_get
 have X1:K.In ((h.push (BP rest)).push (yU C none h.objs.size .none #[])):=X.keeps kp;have t1:Looks (model prog w) ((h.push (BP rest)).push (yU C none h.objs.size .none #[])) (typeOf (.ref (h.objs.size+1))) (.ref C):=(Looks.ld hx).andThen .now;have s1:Looks (model prog w) ((h.push (BP rest)).push (yU C none h.objs.size .none #[])) (isSubtype (.ref C) (.ref C)) true:=a1X X1 (by
  unfold mroIn clsIn;rw[hK];simp)
 have i1:=ϻ (M:=model prog w) X1 M.init;have b1:=bind_fn (M:=model prog w) X1 (.ref (h.objs.size+1)) M.fn;unfold isInstance callSpecial? specialOf
 repeat(first|with_reducible refine ύ ?_|lk)
 refine ϙ hq λr s' z=>?_;rcases r with e|(v|_|_|_)<;>first|exact z|exact z.elim|skip
 obtain⟨rfl,z⟩:=z;exact O5 (O5 z)
end
def XO(e C:Addr)(od:PC)(T:Value):HO:=.ext λh=>∃t sl,h.get? e=some (yU C od t T sl)
def XD(dx:Addr)(fs:Pp):HO:=.ext λh=>∃mA,h.Ns1 dx mA/\(∀f,Xi (fs.lookup f) (mA f))/\PySem.Within mA (fs.map (·.1))/\fs.length<=1000
def XO.ok(x:h.get? e=some (yU C od t T sl)):ql P w H h e (XO e C od T):=
 ⟨⟨t,sl,x⟩,⟨_,x⟩,λ_ _ ⟨t',sl',p⟩ k=>⟨t',sl',k _ p⟩⟩
def XO.get(x:ql P w H h e (XO e C od T)):∃t sl,h.get? e=some (yU C od t T sl):=x.1
def XD.ok(n:h.Ns1 dx mA)(r:∀f,Xi (fs.lookup f) (mA f))(wi:PySem.Within mA (fs.map (·.1)))(l:fs.length<=1000):ql P w H h dx (XD dx fs):=by refine⟨⟨mA,n,r,wi,l⟩,?_,λh1 h2 ⟨m,⟨o,es,ep,ho,q⟩,r1⟩ k=>⟨m,⟨o,es,ep,k _ ho,q⟩,r1⟩⟩;obtain⟨o,es,ep,ho,_⟩:=n;exact⟨o,ho⟩
def XD.get(x:ql P w H h dx (XD dx fs)):∃mA,h.Ns1 dx mA/\(∀f,Xi (fs.lookup f) (mA f))/\PySem.Within mA (fs.map (·.1))/\fs.length<=1000:=x.1
def Inv.Du(I:Inv X Sa Y H s)(he:H e=some (XO e C od T))(ch:PD)(hch:∀b∈ch,X.s₀.heap.objs.size<=b/\H b=none/\b≠X.env.locals/\(∀x c,X.env.cells.lookup x=some c->c≠b)/\∀p∈X.pn++Sa,p.1≠b)(keep:∀b o,b≠e->b∉ch->b∉TB X.stack->s.heap.get? b=some o->h'.get? b=some o)(slot:∀b o,b∈TB X.stack->s.heap.get? b=some o->∃sl,h'.get? b=some { o with slots:=sl })(hx:∃t sl,h'.get? e=some (yU C od t T' sl)):Inv X Sa Y (upd H e (XO e C od T')) { s with heap:=h' }:=by
 have ne:∀b,H b=none->b≠e:=λb n z=>by rw[z,he]at n;cases n
 have nf:∀b o,H b=some o->b∉TB X.stack:=λb o q z=>by rw[I.cA b z]at q;cases q
 have nc:∀b o,H b=some o->b∉ch:=λb o q z=>by rw[(hch b z).2.1]at q;cases q
 obtain⟨t',sl',hx'⟩:=hx;have any:∀b o,b∉ch->b≠e->s.heap.get? b=some o->∃sl,h'.get? b=some { o with slots:=sl }:=λb o hb hne q=>by
  by_cases hf:b∈TB X.stack
  .exact slot b o hf q
  .exact⟨o.slots,keep b o hne hb hf q⟩
 refine I.step (g':=s.gens) (d':=s.drawn) (t':=s.toks) (ch:=ch) (λb hb=>⟨.inr (hch b hb).1,(hch b hb).2.2⟩) (λb o hL hb hc q n=>keep b o (ne b n) hc (λz=>?_) q) (λb o _ _ hc q n=>any b o hc (ne b n) q)
  (λb o _ _ n=>by rw[zl (ne b n)];exact n) (λb o hc q=>?_) (λb xs q=>?_) (λb o u q=>?_) (λb ps q=>⟨#[],?_⟩) (λm hm=>?_) (λb u q=>?_) I.bare
 .rcases P9.mp (I.bK b z)with z|z
  .exact hL z
  .exact hb z
 .by_cases hbe:b=e
  .exact⟨_,hbe▸hx'⟩
  .obtain⟨sl,q'⟩:=any b o hc hbe q;exact⟨_,q'⟩
 .have:b≠e:=λz=>by rw[z,he]at q;cases q
  rw[zl this];exact q
 .have:b≠e:=λz=>by rw[z,he]at q;cases q
  rw[zl this];exact q
 .have:b≠e:=λz=>by rw[z,he]at q;cases q
  rw[zl this,q];simp
 .obtain⟨o,es,ep,ho,r⟩:=hm;have hL:H X.env.locals=none:=I.free;obtain⟨sl,q'⟩:=any _ o (λz=>(hch _ z).2.2.1 rfl) (ne _ hL) ho;exact⟨_,es,ep,q',r⟩
 .by_cases hbe:b=e
  .subst hbe;rw[zh]at q;cases q;exact XO.ok hx'
  .rw[zl hbe]at q;refine(I.hok b u q).oP (λc v hc r=>?_) (λc r=>?_) λc xs r=>?_
   .rcases hc with z|z
    .subst z;exact keep c v hbe (nc c u q) (nf c u q) r
    .have:c≠e:=λz2=>by rw[z2,he]at z;cases z
     exact keep c v this (nc c _ z) (nf c _ z) r
   .have:c≠e:=λz2=>by rw[z2,he]at r;cases r
    rw[zl this];exact r
   .have:c≠e:=λz2=>by rw[z2,he]at r;cases r
    rw[zl this];exact r
structure Tb(X:Cx)(Sa:OR)(H:Hp)(s:OV)(Ta:Addr)(fl:Value):Prop where
 tbk:∃oT ts,s.heap.get? Ta=some oT/\oT.data=.fields ts/\ts[3]?=some fl
 new:X.s₀.heap.objs.size<=Ta
 free:H Ta=none
 pin:∀p∈X.pn++Sa,p.1≠Ta
def Own(X:Cx):Prop:=X.stack=X.env::X.outer/\X.env.frame=some X.env.locals
def Tb.ok(I:Inv X Sa Y H s)(b:Tb X Sa H s Ta fl):Ta≠X.env.locals/\(∀x c,X.env.cells.lookup x=some c->c≠Ta)/\Ta∉TB X.stack:=by
 obtain⟨oT,ts,h1,h2,_⟩:=b.tbk;have nL:Ta≠X.env.locals:=λz=>by obtain⟨m,⟨o,es,ep,ho,hd,_⟩,_⟩:=I.loc;rw[z]at h1;rw[h1]at ho;cases ho;rw[h2]at hd;cases hd
 refine⟨nL,λx c q z=>?_,λz=>?_⟩
 .obtain⟨v,o,ho,hd⟩:=I.cell x c q;rw[z,h1]at ho;cases ho;rw[h2]at hd;cases hd
 .rcases P9.mp (I.bK _ z)with z|z
  .exact nL z
  .obtain⟨_,o,ho,hn⟩:=I.g6.mem z;rw[h1]at ho;cases ho;exact hn _ h2
def Uj(I:Inv X Sa Y H s)(he:H e=some (XO e C od (.ref Ta)))(b:Tb X Sa H s Ta fl)(hQ:∀h',Inv X Sa Y (upd H e (XO e C od (.ref Ta))) { s with heap:=h' }->Tb X Sa (upd H e (XO e C od (.ref Ta))) { s with heap:=h' } Ta (f.elim .none λf=>rawInt f)->Q () { s with heap:=h' }):
  wpAny M A (setFlight (.ref e) f) Q E s:=by
 obtain⟨t,sl,hx⟩:=XO.get (I.hok e _ he);obtain⟨oT,ts,h1,h2,h3⟩:=id b.tbk;obtain⟨n1,n2,n3⟩:=b.ok I;have nTe:Ta≠e:=λz=>by have:=b.free;rw[z,he]at this;cases this
 have sz:=(a1o.mp h3).1;unfold setFlight;refine f8 (ϕ hx rfl (x:=.ref Ta) rfl ?_);rw[if_pos (show(Value.ref Ta != Value.none)=true from by simp)];refine a2J h1 h2 sz ?_;have oth:∀c,c≠Ta->(s.heap.update Ta (Obj.mapFields (·.setIfInBounds 3 (f.elim .none λf=>rawInt f)))).get? c=s.heap.get? c:=λc hc=>T1 _ _ (Ne.symm hc);refine hQ _ (I.Du he [Ta] (λc hc=>?_) (λc o _ hc _ q=>(oth c (by simpa using hc)).trans q) (λc o hc q=>⟨o.slots,(oth c λz=>n3 (z▸hc)).trans q⟩) ⟨t,sl,(oth e (Ne.symm nTe)).trans hx⟩) ⟨⟨_,_,Heap.get?_update_self _ h1 (Obj.isFreed_of_fields (Obj.data_mapFields h2 _)),Obj.data_mapFields h2 _,by simp[sz]⟩,b.new,by rw[zl nTe];exact b.free,b.pin⟩;obtain rfl:c=Ta:=by simpa using hc
 exact⟨b.new,b.free,n1,n2,b.pin⟩
def xB(I:Inv X Sa Y H s)(he:H e=some (XO e C od .none))(hQ:Q () s):wpAny M A (setFlight (.ref e) f) Q E s:=by obtain⟨t,sl,hx⟩:=XO.get (I.hok e _ he);unfold setFlight;refine f8 (ϕ hx rfl (x:=.none) rfl ?_);exact O5 hQ
def eZ(own:Own X)(hA:A.frames=some X.stack)(I:Inv X Sa Y H s)(he:H e=some (XO e C od T))(hQ:∀Tn h',Inv X Sa Y (upd H e (XO e C od (.ref Tn))) { s with heap:=h' }->Tb X Sa (upd H e (XO e C od (.ref Tn))) { s with heap:=h' } Tn (rawInt X.env.locals)->Q () { s with heap:=h' }):
  wpAny M A (do setField (.ref e) 1 (<- EntryCells.newEntry head (<- frameOf X.env) .none (rawInt X.env.locals) .none (<- entryPlaceOf X.env.locals hadNext))) Q E s:=by
 obtain⟨t,sl,hx⟩:=XO.get (I.hok e _ he);have hst:=I.stack;rw[own.1]at hst hA;refine f8 (wpAny_frameOf_fun hA hst own.2 λh1 hs1=>?_);refine f8 (wpAny_entryPlaceOf λpl hpl=>?_);unfold EntryCells.newEntry newFields;refine f8 (Ϙ ?_ (hpl.sizeOk5 _ _ _ _ _));have nef:e∉TB (X.env::X.outer):=λz=>by have:=I.cA e (by rw[own.1];exact z);rw[he]at this;cases this
 have hx1:h1.get? e=some (yU C od t T sl):=(hs1.2.1 e nef).trans hx;have hnT:e≠h1.objs.size:=P6 (O7 hx1);refine a2J (O3 _ hx1) rfl (by show 1<6;decide) ?_;have hold:∀c o,c≠e->h1.get? c=some o->∀tb:Obj,((h1.push tb).update e (Obj.mapFields (·.setIfInBounds 1 (Value.ref h1.objs.size)))).get? c=some o:=λc o hc q tb=>
  (T1 _ _ (Ne.symm hc)).trans (O3 _ q)
 have hfr:H h1.objs.size=none:=I.hok.fresh (a1J hs1.1.symm);refine hQ h1.objs.size _ (I.Du he [] (λ_ z=>nomatch z) (λc o hc _ hf q=>hold c o hc ((hs1.2.1 c (by rw[own.1]at hf;exact hf)).trans q) _) (λc o hf q=>?_) ⟨t,sl,?_⟩) ⟨⟨_,_,(T1 _ _ hnT).trans (S5 _ rfl),rfl,?_⟩,?_,?_,λp hp z=>?_⟩
 .obtain⟨sl',q'⟩:=hs1.2.2 c o q;exact⟨sl',hold c _ (λz=>nef (by rw[own.1]at hf;exact z▸hf)) q' _⟩
 .exact a0J _ (O3 _ hx1) rfl
 .rcases hpl with rfl|⟨_,_,_,_,_,_,_,rfl⟩<;>simp
 .rw[hs1.1];exact I.sz
 .rw[zl (Ne.symm hnT)];exact hfr
 .have q:=(I.pin p hp).1;exact absurd (O7 q) (by rw[z,hs1.1];exact Κ _)
structure XIs(K:Pw)(C:Addr):Prop where
 ha:findIn K (.ref C) "__class__"=some (some (.builtin "object.__class__"))
 hn:specialIn K (.builtin "object.__class__") "__get__"=some (some (.builtin "getset_descriptor.__get__"))
 htk:takesIn K (.builtin "object.__class__")=some true
section
variable {prog:Pg}{w:Pk}{A:Po}{E:OT}{s:OV}{K:Pw}{x dx C t:Addr}{T:Value}{sl:Py}{mA:OQ}{name:Str}{v:Value}{R:Result->Shared->Prop}
def Gh(X:K.In s.heap)(c:YY K C)(z:XIs K C)(I:InstAt s.heap x ox C (some od))(h:Q (some (.ref C)) { s with toks:=s.toks+1 }):wpAny (model prog w) A (getAttr? (.ref x) "__class__") Q E s:=by
 obtain⟨cd,hc,ho,ne,hdct⟩:=c.cd;have hm:=c.sub (x:="object") (by decide);obtain⟨hp,g,d,tk,os⟩:=s;have L0:=I.type (M:=model prog w);have L1:=ϻ (M:=model prog w) X c.ga;have L2:=ϻ (M:=model prog w) X c.gn;have Lb:Looks (model prog w) hp (isInstance (.ref x) (.type "BaseException")) true:=L0.andThen (a1X X (c.sub (x:="BaseException") (by decide)));have hf:findObj K C (some od) "__class__"=some (.bind (.builtin "getset_descriptor.__get__") (.builtin "object.__class__")):=findObj_data (by rw[hc];rfl) z.ha z.hn z.htk;have L3:=looks_find (M:=model prog w) X I hf;have ga:=PySem.F.excAttr_ValueError.ga;have f3:=ga.bind (.ref x);unfold getAttr? getAttrBy? getAttrBy;refine f8 (a2h (f8 (a1n (ρ (f8 (L0.at (f8 (L1.at ?_))))))));dsimp only;rw[show(onTheHeap (Value.ref C)&&Value.builtin "BaseException.__getattribute__"==Value.builtin "object.__getattribute__")=false from by
  rw[show(Value.builtin "BaseException.__getattribute__"==Value.builtin "object.__getattribute__")=false from by decide +kernel];rfl]
 show wpAny _ _ (getAttrByItsOwn _ _ _ _ _ _) _ _ _;unfold getAttrByItsOwn;refine f8 (show wpAny _ _ (typeLookup (.ref C) "__getattr__") _ _ _ from L2.at ?_);refine f8 (a1n (ρ ?_));show wpAny _ _ (bindSpecial _ _ >>= _) _ _ _;rw[f3];refine f8 (O5 (ύ (a1k ga.plain F.entry_bexc_ga ?_)));have hk:builtinKind "BaseException.__getattribute__"=some .slot:=by decide +kernel
 have hs:splitId "BaseException.__getattribute__"=some ("BaseException","__getattribute__"):=by decide +kernel
 refine @check_slot (model prog w) _ _ ⟨hp,g,d,tk+1,os⟩ "BaseException.__getattribute__" "BaseException" "__getattribute__" (.ref x) [.str "__class__" tk] [] _ hk hs Lb (F.args_bexc_ga (.ref x) (.str "__class__" tk)) ?_;unfold Builtin.«object.__getattribute__»
 repeat(first|with_reducible refine ύ ?_|lk)
 refine class_get (s:=⟨hp,g,d,tk+1,os⟩) (ox:=ox) (od:=some od) X I hm ?_;exact O5 (O5 (O5 h))
def xC{ox od:Obj}(c:YY K C)(z:XIs K C):KitX K (.ref x) (.ref C) (λh=>InstAt h x ox C (some od))where
 ty:=λ_ _ _ I=>I.type
 it:=λ_ _ X _=>by
  obtain⟨cd,hc,_⟩:=c.cd;unfold clsIn at hc;split at hc
  .rename_i c' d' cd' sl' hl;intro A' Q' E' s' k q;unfold isType loadHead;exact f8 (a1h (k _ _ (X _ _ hl)) (O5 q))
  .cases hc
 ne:=λh tp dd Sf n sl X htp=>by
  obtain⟨cd,hc,_⟩:=c.cd;refine Bool.eq_false_iff.mpr λq=>?_;obtain rfl:C=tp:=Value.ref.inj (S9.mp q);unfold clsIn at hc;split at hc
  .rename_i c' d' cd' sl' hl;cases(X _ _ hl).symm.trans htp
  .cases hc
 ca:=λX I k=>Gh X c z I k
end
def cG(h:H a=some o):upd H a o=H:=by
 funext b;unfold upd;split
 .rename_i e;rw[e,h]
 .rfl
def XC(e C dx:Addr):HO:=.ext λh=>∃t T sl,h.get? e=some (yU C (some dx) t T sl)
def XC.ok(x:h.get? e=some (yU C (some dx) t T sl)):ql P w H h e (XC e C dx):=
 ⟨⟨t,T,sl,x⟩,⟨_,x⟩,λ_ _ ⟨t',T',sl',p⟩ k=>⟨t',T',sl',k _ p⟩⟩
def XC.get(x:ql P w H h e (XC e C dx)):∃t T sl,h.get? e=some (yU C (some dx) t T sl):=x.1
section
variable {X:Cx}{Sa:OR}{Y:St}{H:Hp}{s:OV}{e C dx Ta:Addr}{od:PC}{T fl:Value}{M:Model}{A:Po}{E:OT}{Q:Unit->Shared->Prop}
def Inv.ie(I:Inv X Sa Y H s)(he:H e=some (XO e C (some dx) T)):Inv X Sa Y (upd H e (XC e C dx)) s:=by
 obtain⟨t,sl,hx⟩:=XO.get (I.hok e _ he);refine I.un (h':=s.heap) (t':=s.toks) ⟨λb o q _ _ _=>q,λb o q _ _ _=>⟨o.slots,q⟩,λb o _ n _=>?_,λb o q _=>⟨o,q⟩,λb xs q=>?_,λb o u q=>?_,λb ps q=>⟨#[],?_⟩⟩ λb u q=>?_
 .have:b≠e:=λz=>by rw[z,he]at n;cases n
  rw[zl this];exact n
 .have:b≠e:=λz=>by rw[z,he]at q;cases q
  rw[zl this];exact q
 .have:b≠e:=λz=>by rw[z,he]at q;cases q
  rw[zl this];exact q
 .have:b≠e:=λz=>by rw[z,he]at q;cases q
  rw[zl this,q];simp
 .by_cases hb:b=e
  .subst hb;rw[zh]at q;cases q;exact XC.ok hx
  .rw[zl hb]at q;refine(I.hok b u q).oP (λ_ _ _ r=>r) (λc r=>?_) λc xs r=>?_
   .have:c≠e:=λz2=>by rw[z2,he]at r;cases r
    rw[zl this];exact r
   .have:c≠e:=λz2=>by rw[z2,he]at r;cases r
    rw[zl this];exact r
def Fl(X:Cx)(Sa:OR)(H:Hp)(s:OV)(e C:Addr)(od:PC):Prop:=
 ∃T,H e=some (XO e C od T)/\(T=.none\/∃Ta fl,T=.ref Ta/\Tb X Sa H s Ta fl/\(fl=.none\/∃n:Int,fl=rawInt n))
def cH(own:Own X)(hA:A.frames=some X.stack)(I:Inv X Sa Y H s)(f:Fl X Sa H s e C od)(hQ:∀Tn h',Inv X Sa Y (upd H e (XO e C od (.ref Tn))) { s with heap:=h' }->Tb X Sa (upd H e (XO e C od (.ref Tn))) { s with heap:=h' } Tn (rawInt X.env.locals)->Q () { s with heap:=h' }):
  wpAny M A (noteFrame (.ref e) X.env) Q E s:=by
 obtain⟨T,he,hT⟩:=f;obtain⟨t,sl,hx⟩:=XO.get (I.hok e _ he);unfold noteFrame;simp only[own.2];refine f8 (ϕ hx rfl (x:=T) rfl ?_);rcases hT with rfl|⟨Ta,fl,rfl,b,hfl⟩
 .rw[if_neg (by decide)];exact eZ own hA I he hQ
 .rw[if_pos (show(Value.ref Ta != Value.none)=true from by simp)];obtain⟨oT,ts,h1,h2,h3⟩:=id b.tbk;refine f8 (ϕ h1 h2 h3 ?_);by_cases hq:¬(fl==rawInt X.env.locals)=true
  .rw[if_neg hq];obtain⟨n1,n2,n3⟩:=b.ok I;have nTe:Ta≠e:=λz=>by have:=b.free;rw[z,he]at this;cases this
   have sz:=(a1o.mp h3).1;refine f8 (a2J h1 h2 sz ?_);have oth:∀c,c≠Ta->(s.heap.update Ta (Obj.mapFields (·.setIfInBounds 3 .none))).get? c=s.heap.get? c:=λc hc=>T1 _ _ (Ne.symm hc);have I2:Inv X Sa Y H { s with heap:=s.heap.update Ta (Obj.mapFields (·.setIfInBounds 3 .none)) }:=by
    have:=I.Du (T':=.ref Ta) he [Ta] (h':=s.heap.update Ta (Obj.mapFields (·.setIfInBounds 3 .none))) (λc hc=>by
     obtain rfl:c=Ta:=by simpa using hc
     exact⟨b.new,b.free,n1,n2,b.pin⟩) (λc o _ hc _ q=>(oth c (by simpa using hc)).trans q) (λc o hc q=>⟨o.slots,(oth c λz=>n3 (z▸hc)).trans q⟩) ⟨t,sl,(oth e (Ne.symm nTe)).trans hx⟩
    rwa [cG he]at this
   exact eZ own hA I2 he λTn h'=>hQ Tn h'
  .have hq:=Classical.not_not.mp hq;rw[if_pos hq];obtain rfl:fl=rawInt X.env.locals:=eq_of_beq hq;refine O5 ?_;have:=hQ Ta s.heap (by rw[cG he];exact I) (by rw[cG he];exact b);exact this
end
def Md(X:Cx)(E:XK)(v:Value)(s':OV):Prop:=∃Y H' e C dx,v=.ref e/\Inv X.nox [] Y H' s'/\Fl X.nox [] H' s' e C (some dx)/\E (.ref e) (some dx) (upd H' e (XC e C dx))
def Sj(P:Pg)(w:Pk):Ζ:=λouter H s E v s'=>∃e C dx Ta oT ts H',v=.ref e/\s'.os=s.os/\AllBare s'.gens/\Un (TB outer) [] H H' s.heap s'.heap/\SK P w H' s'.heap/\
 H' e=some (XO e C (some dx) (.ref Ta))/\s'.heap.get? Ta=some oT/\oT.data=.fields ts/\ts[3]?=some .none/\H' Ta=none/\s.heap.objs.size<=Ta/\E (.ref e) (some dx) (upd H' e (XC e C dx))
abbrev δ(X:Cx)(E:XK):Cx:=X.d7 (Md X E)
def Inv.thrown(I:Inv X Sa Y H s)(h:Sj X.prog X.w X.stack H s E v s'):
  ∃H' e C dx,v=.ref e/\Inv X Sa Y H' s'/\Fl X Sa H' s' e C (some dx)/\E (.ref e) (some dx) (upd H' e (XC e C dx)):=by
 obtain⟨e,C,dx,Ta,oT,ts,H',rfl,os,bare,un,hok,he,h1,h2,h3,hn,hs,q⟩:=h;have I2:Inv X Sa Y H' s':=I.FJ os un hok bare λb z=>absurd z (by simp);refine⟨H',e,C,dx,rfl,I2,⟨_,he,.inr ⟨Ta,_,rfl,⟨⟨oT,ts,h1,h2,h3⟩,S6 I.sz hs,hn,λp hp z=>?_⟩,.inl rfl⟩⟩,q⟩;have:=O7 (I.pin p hp).1;rw[z]at this;exact absurd hs (Nat.not_le.mpr this)
def Inv.lS(I:Inv X Sa Y H s):Inv X [] Y H s:=I.cB λ_ h=>nomatch h
def Fl.lS(f:Fl X Sa H s e C od):Fl X [] H s e C od:=by obtain⟨T,he,h⟩:=f;refine⟨T,he,h.imp id λ⟨Ta,fl,e1,b,h2⟩=>⟨Ta,fl,e1,⟨b.tbk,b.new,b.free,λp hp=>b.pin p ?_⟩,h2⟩⟩;rw[P7]at hp;exact a0L _ hp
def Fl.d7(f:Fl X Sa H s e C od):Fl (X.d7 E) Sa H s e C od:=by obtain⟨T,he,h⟩:=f;exact⟨T,he,h.imp id λ⟨Ta,fl,e1,b,h2⟩=>⟨Ta,fl,e1,⟨b.tbk,b.new,b.free,b.pin⟩,h2⟩⟩
def zD:Passes (Sj X.prog X.w) (δ X E) E:=λSa Y H s v s' I h=>by obtain⟨H',e,C,dx,rfl,I2,f,q⟩:=Inv.thrown (X:=δ X E) I h;exact⟨Y,H',e,C,dx,rfl,(I2.Y3.d7 _).lS,(Fl.d7 (X:=δ X E) f.lS),q⟩
def BQ:Passes (Sj P w) X E0:=λSa Y H s v s' I h=>by obtain⟨e,C,dx,Ta,oT,ts,H',_,_,_,_,_,_,_,_,_,_,_,q⟩:=h;exact False.elim q
def zA(own:Own X):PassesOwn (Rk X) X.A X.env (Md X E):=λv s' ⟨Y,H',e,C,dx,hv,I,f,q⟩=>by
 subst hv;have hA:X.A.frames=some X.nox.stack:=I.ok.frames;refine cH (X:=X.nox) own hA I f λTn h' I2 b=>?_;obtain⟨t,sl,hx⟩:=XO.get (I2.hok e _ zh);refine f8 (ϕ hx rfl (x:=.ref Tn) rfl ?_);rw[if_neg (show ¬((Value.ref Tn==Value.none)=true)from by simp)];refine Uj I2 zh b λh2 I3 b3=>?_;rw[vw]at I3 b3;refine⟨Y,_,e,C,dx,rfl,I3,⟨_,zh,.inr ⟨Tn,_,rfl,b3,.inr ⟨(X.env.locals:Int),?_⟩⟩⟩,?_⟩
 .rw[own.2];rfl
 .rw[vw];exact q
def Gi{P:Pg}{w:Pk}{K:Pw}{mg:OQ}{base:Heap}{N:OP}{qual:Str}{scope:Scope}{f:Addr}{cd:Value}{A:Po}{outer:List Env}{s:OV}{H:Hp}{E:XK}{v:Value}{s':OV}(h:Md (nN (Sj P w) P w K mg base N qual scope f cd A outer s H E) E v s'):(nN (Sj P w) P w K mg base N qual scope f cd A outer s H E).xe v s':=by
 obtain⟨Y,H',e,C,dx,hv,I,fl,q⟩:=h;subst hv;have own:Own (nN (Sj P w) P w K mg base N qual scope f cd A outer s H E):=⟨rfl,rfl⟩;show wpAny (model P w) _ (leaving _ (.ref e)) _ _ s';unfold leaving;refine f8 (cH (X:=(nN (Sj P w) P w K mg base N qual scope f cd A outer s H E).nox) own I.ok.frames I fl λTn h' I2 b=>?_);refine Uj I2 zh b λh2 I3 b3=>?_;rw[vw]at I3 b3;obtain⟨oT,ts,h1,h2',h3⟩:=b3.tbk;exact⟨e,C,dx,Tn,oT,ts,_,rfl,I3.os,I3.bare,I3.base,I3.hok,zh,h1,h2',h3,b3.free,b3.new,by rw[vw];exact q⟩
def TR.Me{X:Cx}{E:OT}{st:Pt}{t:TS}(h:TR (X.d7 E) st t)(hE:∀v s,E v s->X.xe v s):TR X st t:=λSa s Y H D I hw=>
 Tg (h Sa s Y H D (I.d7 E) hw) (λ_ _ q=>q.Y3) hE
section
variable {P:Pg}{w:Pk}{K:Pw}{mg:OQ}{base:Heap}
def SA.okX{x qual:Str}{st:PB}{f:Addr}{fd:Pl}{N ps:OP}{k:Nat}{sp:Sp}(F:SA K x qual st f fd)(S:zy N ps (zk st))(len:∀vs H Q E,sp vs H Q E->vs.length=ps.length)(oO:∀(cdv:Value)(A:Po)(outer:List Env)(s:OV)(H:Hp)(vs:Pa)(Q:VK) (E:XK),vf k (A.deeper (envOfC qual (zk st) s.heap.objs.size f cdv))->sp vs H Q E-> ∃t,TR (δ (nN (Sj P w) P w K mg base N qual (zk st) f cdv A outer s H E) E) (ZX st) t/\t { nx:=λ_ H'=>Q .non H',rt:=Q } (start N vs) H):yW P w K mg base (Sj P w) (k+1) f fd ps sp:=by
 obtain⟨oc,od,kV,doc,pm,an,cdv,ct,osl,rfl,lk,hcd⟩:=F.ex;refine LY lk hcd S len λA outer s H vs Q E hr Ts=>?_;obtain⟨t,h,q⟩:=oO cdv A outer s H vs Q E hr Ts;exact⟨t,h.Me λv s h=>Gi h,q⟩
end
def Gj(C:Addr)(sp:Sp)(E:XK)(t:TA):TE:=λY H Q=>t Y H λvs H1=>vs.length<=1000/\∀x,H1 x=none->sp (.ref x::vs) (upd H1 x (XO x C none .none)) (λv H2=>v=.non/\Q (.ref x) H2) E
def Inv.Mf(I:Inv X Sa Y H s):
  Inv X Sa Y (upd H (s.heap.objs.size+1) (XO (s.heap.objs.size+1) C none .none)) { s with heap:=(s.heap.push (BP us)).push (yU C none s.heap.objs.size .none #[]) }:=
 I.laid (t':=s.toks) (λb u e=>O3 _ (O3 _ e)) (Δ _) (XO.ok (t:=s.heap.objs.size) (sl:=#[]) (by heap_get))
def pR(M:SY X.K C f)(F:yW X.prog X.w X.K X.mg X.base CX k f fd ps sp)(hr:vf (k+1) X.A)(hb:Binds X.K fd ps [])(hx:Passes CX X E)(I:Inv X Sa Y H s)(r:Vals vs us)(hl:vs.length<=1000)(h:∀x,H x=none->sp (.ref x::vs) (upd H x (XO x C none .none)) (λv H2=>v=.non/\Q (.ref x) H2) E):
  wpAny (Rk X) X.A (call (.ref C) us) (EP X Sa Y Q) X.xe s:=by
 have hq:=h (s.heap.objs.size+1) (I.hok.fresh (Δ _));have I2:=Inv.Mf (C:=C) (us:=us) I;have r2:Vals (V.ref (s.heap.objs.size+1)::vs) (Value.ref (s.heap.objs.size+1)::us):=.cons rfl r;have hl2:(Value.ref (s.heap.objs.size+1)::us++[]).length=ps.length:=by have e:=r2.length;rw[F.len _ _ _ _ hq]at e;rw[P7];exact e.symm
 have bd:=hb _ (Value.ref (s.heap.objs.size+1)::us) I2.kIn hl2;rw[P7]at bd;obtain⟨hh,g,d,tk,os⟩:=s;refine Mc M I.kIn (by rw[<- r.length,TC];omega) (ϙ (F.run _ X.stack _ _ ⟨_::us,[]⟩ _ _ _ E (hr.make C us []) (I2.oR.make C us []) bd r2 hq) λr s' hq'=>?_);cases r with
 |error e=>exact hx Sa Y _ _ e s' I2 hq'
 |ok fl=>
  cases fl with
  |ret u=>obtain⟨v,H',I3,rv,ev,q3⟩:=I2.after hq';subst ev;exact⟨rv,⟨V.ref (hh.objs.size+1),H',I3,rfl,q3⟩⟩
  |next=>exact False.elim hq'
  |brk=>exact False.elim hq'
  |cont=>exact False.elim hq'
def xD(M:SY X.K C f)(F:yW X.prog X.w X.K X.mg X.base CX k f fd ps sp)(hr:vf (k+1) X.A)(hg:Gl X x)(hm:X.mg x=some (.ref C))(hb:Binds X.K fd ps [])(hx:Passes CX X E)(ha:PA X (e::es) t)(hdb:Rn x:=by decide)(he:starEach (e::es) X.env=(false,eval e X.env)::starEach es X.env:=by rfl)(hpl:(backTo pos (starEach es X.env)).any (·.1)=false:=by rfl):
  PE X (.Call (.Name x p) (e::es) [] pos) (Gj C sp E t):=by
 intro Sa s Y H Q I h;refine ϯ (JZ I hg hm ?_ hdb);refine a07 (h₀:=X.base) I.ok.mod.kin M.kp (Sk (ha pos Sa s Y H _ I h) λus s1 ⟨vs,H1,I1,r,hl,q⟩=>⟨I1.kIn,?_⟩) he hpl;exact pR M F hr hb hx I1 r hl q
def Mg(K:Pw)(ta tv:TE)(f:Str):TS:=λD Y H=>tv Y H λy H1=>ta Y H1 λx H2=>∃e C T,x=.ref e/\YY K C/\takerIn K C f=some none/\
  ((H2 e=some (XO e C none T)/\∀dx,H2 dx=none->D.nx Y (upd (upd H2 dx (XD dx [(f,y)])) e (XO e C (some dx) T)))\/ (∃dx fs,H2 e=some (XO e C (some dx) T)/\H2 dx=some (XD dx fs)/\dx≠e/\fs.length<1000/\D.nx Y (upd H2 dx (XD dx (KH f y fs)))))
def Mh(K:Pw)(ta:TE)(f:Str):TE:=λY H Q=>ta Y H λx H1=>∃e C dx fs v,x=.ref e/\YY K C/\findIn K (.ref C) f=some none/\(H1 e=some (XC e C dx)\/∃T,H1 e=some (XO e C (some dx) T))/\H1 dx=some (XD dx fs)/\fs.lookup f=some v/\Q v H1
section
variable {X:Cx}{o value:Pc}{f:Str}{pos pos':Pos}{ta tv:TE}
def kT(ha:PE X o ta)(hv:PE X value tv)(hs:swapsWith value (some (.Attribute o f pos')) pos.line X.env=pure false):PS X (.Assign [.Attribute o f pos'] value pos) (Mg X.K ta tv f):=by
 intro Sa s Y H D I h;refine a1G (Sk (hv Sa s Y H _ I h) λu s1 ⟨y,H1,I1,ry,q⟩=>Sk (ha Sa s1 Y H1 _ I1 q) λov s2 ⟨x,H2,I2,rx,e,C,T,ex,c,tk,q2⟩=>?_) hs;subst ex;obtain rfl:ov=Value.ref e:=rx;rcases q2 with⟨he,q2⟩|⟨dx,fs,he,hd,ne,l,q2⟩
 .obtain⟨t,sl,hx⟩:=XO.get (I2.hok e _ he);have hne:s2.heap.objs.size≠e:=Ϧ (O7 hx);have hfr:H2 s2.heap.objs.size=none:=I2.hok.fresh (O2 _);refine nQ I2.kIn c hx tk λh' hx' hn' kp=>⟨Y,_,?_,q2 _ hfr⟩;have lt:∀b o,s2.heap.get? b=some o->b≠s2.heap.objs.size:=λb o q=>P6 (O7 q);have ltH:∀b o,H2 b=some o->b≠s2.heap.objs.size:=λb o q z=>by rw[z,hfr]at q;cases q
  refine I2.un (h':=h') (t':=s2.toks+2) ⟨λb o q n _ _=>kp b o (λz=>by rw[z,he]at n;cases n) q,λb o q n _ _=>⟨o.slots,kp b o (λz=>by rw[z,he]at n;cases n) q⟩,λb o q n _=>?_,λb o q _=>?_,λb xs q=>?_,λb o u q=>?_,λb ps q=>⟨#[],?_⟩⟩ λb ob q=>?_
  .rw[zl (λz=>by rw[z,he]at n;cases n),zl (lt b o q)];exact n
  .by_cases hb:b=e
   .exact⟨_,hb▸hx'⟩
   .exact⟨o,kp b o hb q⟩
  .rw[zl (λz=>by rw[z,he]at q;cases q),zl (ltH b _ q)];exact q
  .rw[zl (λz=>by rw[z,he]at q;cases q),zl (ltH b _ q)];exact q
  .rw[zl (λz=>by rw[z,he]at q;cases q),zl (ltH b _ q),q];simp
  .by_cases hb:b=e
   .subst hb;rw[zh]at q;cases q;exact XO.ok hx'
   .rw[zl hb]at q;by_cases hb2:b=s2.heap.objs.size
    .subst hb2;rw[zh]at q;cases q;refine XD.ok hn' (λg=>?_) (λg hg=>?_) (by show 1<=1000;decide)
     .show Xi (List.lookup g [(f,y)]) (if g=f then some u else none);by_cases z:g=f
      .subst z;rw[if_pos rfl];simp only[List.lookup,beq_self_eq_true];exact ry
      .rw[if_neg z];simp only[List.lookup,beq_eq_false_iff_ne.mpr z];exact True.intro
     .by_cases z:g=f
      .subst z;exact R9.mpr rfl
      .exact absurd (if_neg z) hg
    .rw[zl hb2]at q;refine(I2.hok b ob q).oP (λc v hc r=>kp c v ?_ r) (λc r=>?_) λc xs r=>?_
     .rcases hc with z|z
      .rw[z];exact hb
      .intro z2;rw[z2,he]at z;cases z
     .rw[zl (λz=>by rw[z,he]at r;cases r),zl (ltH c _ r)];exact r
     .rw[zl (λz=>by rw[z,he]at r;cases r),zl (ltH c _ r)];exact r
 .obtain⟨t,sl,hx⟩:=XO.get (I2.hok e _ he);obtain⟨mA,hn,r,wi,l1⟩:=XD.get (I2.hok dx _ hd);refine pP I2.kIn c hx hn ne tk wi (by rw[u8,TC];omega) λh' hn' sb=>⟨Y,_,?_,q2⟩;have hdx:∃u,h'.get? dx=some u:=let⟨o,_,_,e',_⟩:=hn';⟨o,e'⟩
  refine I2.write (x:=dx) (e:=dx) (t':=s2.toks+2) (by rw[hd];exact True.intro) (.inl rfl) (λb u hb z=>(sb.2 b hb).trans z) hdx (XD.ok hn' (λg=>?_) (λg hg=>?_) ?_)
  .show Xi ((KH f y fs).lookup g) (if g=f then some u else mA g);rw[J6];by_cases q:g=f
   .rw[if_pos q,if_pos q];exact ry
   .rw[if_neg q,if_neg q];exact r g
  .by_cases q:g=f
   .rw[q];exact(Y4 f y fs).1
   .refine(Y4 f y fs).2 g (wi g λz=>hg ?_);show(if g=f then some u else mA g)=none;rw[if_neg q];exact z
  .have:=J7 f y fs;omega
def Gk(I:Inv X Sa Y H s)(he:H e=some (XC e C dx)\/∃T,H e=some (XO e C (some dx) T)):∃t T sl,s.heap.get? e=some (yU C (some dx) t T sl):=by
 rcases he with he|⟨T,he⟩
 .exact XC.get (I.hok e _ he)
 .obtain⟨t,sl,h⟩:=XO.get (I.hok e _ he);exact⟨t,T,sl,h⟩
def Dv(he:PE X e ta)(hb:attributeBase e f X.env (eval e X.env)=eval e X.env):PE X (.Attribute e f pos) (Mh X.K ta f):=by intro Sa s Y H Q I h;refine pC hb (Sk (he Sa s Y H _ I h) λu s1 ⟨x,H1,I1,rx,a,C,dx,fs,v,ex,c,n,ea,ed,l,q⟩=>?_);subst ex;obtain rfl:u=Value.ref a:=rx;obtain⟨t,T,sl,hx⟩:=Gk I1 ea;obtain⟨mA,hn,r,_,_⟩:=XD.get (I1.hok dx _ ed);obtain⟨u,hu,ru⟩:=Xi.some_of (v:=v) (o:=mA f) (by rw[<- l];exact r f);exact Oo I1.kIn c hx hn n hu (eA ru) ⟨v,H1,I1.tok _,ru,q⟩
def Gm(K:Pw)(E:XK)(te:TE):TS:=λ_ Y H=>te Y H λv H1=>∃e C dx,v=.ref e/\YY K C/\H1 e=some (XO e C (some dx) .none)/\E (.ref e) (some dx) (upd H1 e (XC e C dx))
def xE(hh:X.calm=true)(he:PE (δ X E) e te):PS (δ X E) (.Raise (some e) none pos) (Gm X.K E te):=by
 intro Sa s Y H D I h;rw[arm_exec_Raise];refine f8 (a1A ?_);show wpAny _ _ (raiseStmt X.env (some (do let v<-eval e X.env;standAt pos;pure v)) none) _ _ s;unfold raiseStmt;refine f8 (f8 (Sk (he Sa s Y H _ I h) λu s1 ⟨v,H1,I1,rv,a,C,dx,ev,c,hx,q⟩=>f8 (a1A (O5 ?_))));subst ev;obtain rfl:u=Value.ref a:=rv;obtain⟨t,sl,ho⟩:=XO.get (I1.hok a _ hx);obtain⟨cd,hcd,_⟩:=c.cd;have L0:Looks (Rk X) s1.heap (typeOf (.ref a)) (.ref C):=(Looks.ld ho).andThen .now;have Lb:Looks (Rk X) s1.heap (isSubtype (.ref C) (.type "BaseException")) true:=a1X I1.kIn (c.sub (x:="BaseException") (by decide));have LI:Looks (Rk X) s1.heap (isInstance (.ref a) (.type "BaseException")) true:=L0.andThen Lb;have fin:(δ X E).xe (.ref a) s1:=⟨Y,H1,a,C,dx,rfl,(I1.Y3.d7 _).lS,⟨.none,hx,.inl rfl⟩,q⟩;have hd:(δ X E).A.handled=none:=I1.ok.hd hh;have LT:Looks (Rk X) s1.heap (isType (.ref a)) false:=by intro A' Q' E' s' k q;unfold isType loadHead;exact f8 (a1h (k _ _ ho) (O5 q))
 have LE:Looks (Rk X) s1.heap (isExcClass (.ref a)) false:=LT.andThen .now;refine f8 (O5 ?_);dsimp only;refine f8 (ρ ?_);unfold excFromValue;refine f8 (LE.here ?_);simp only[Bool.false_eq_true,if_false];refine f8 (LI.here ?_);simp only[if_true];refine O5 (f8 (LT.here ?_));simp only[Bool.false_eq_true,if_false];have LC:Looks (Rk X) s1.heap (typeOf (.ref C)) (.type "type"):=looks_typeIn I1.kIn c.ty;have LR:Looks (Rk X) s1.heap (raisedInstance (.ref a)) (.ref a):=by unfold raisedInstance;refine L0.andThen (LC.andThen ?_);rw[if_pos (by simp)];exact .now
 refine f8 (LR.here (f8 (xB I1 hx ?_)));exact wpAny_raiseNew_none hd fin
end
def TyX(K:Pw)(H:Hp)(x:V)(t:Value):Prop:=oQ K H x t\/
 ∃e C dx fs,x=.ref e/\t=.ref C/\YY K C/\XIs K C/\(H e=some (XC e C dx)\/∃T,H e=some (XO e C (some dx) T))/\H dx=some (XD dx fs)
def Mi:V->Option Value
 |.ref a=>some (.ref a)
 |.ty n=>some (.type n)
 |_=>none
def xF(r:RelV c u)(e:Mi c=some v):u=v:=by
 cases c with
 |ref a=>cases e;exact r
 |ty n=>cases e;exact r
 |_=>cases e
def ig(I:Inv X Sa Y H s)(rx:RelV x u)(ty:TyX X.K H x t):∃P,KitX X.K u t P/\P s.heap/\u≠.builtin "__main__.__loader__#opaque":=by
 rcases ty with ty|⟨e,C,dx,fs,rfl,rfl,c,z,he,hd⟩
 .cases ty with
  |non=>cases(show u=Value.none from rx);exact⟨_,kitx_none,True.intro,λz=>nomatch z⟩
  |bl y=>cases(show u=Value.bool y from rx);exact⟨_,kitx_bool,True.intro,λz=>nomatch z⟩
  |int i=>obtain⟨t,q⟩:=(show ∃t,u=Value.int i t from rx);cases q;exact⟨_,kitx_int,True.intro,λz=>nomatch z⟩
  |str y=>obtain⟨t,q⟩:=(show ∃t,u=Value.str y t from rx);cases q;exact⟨_,kitx_str,True.intro,λz=>nomatch z⟩
  |flt y=>obtain⟨t,q⟩:=(show ∃t,u=Value.float y t from rx);cases q;exact⟨_,kitx_float,True.intro,λz=>nomatch z⟩
  |@lst a xs ea=>cases(show u=Value.ref a from rx);obtain⟨_,_,n,_,h1⟩:=(show ql X.prog X.w H s.heap a (.lst xs)from I.hok a _ ea);exact⟨_,kitx_list,⟨_,h1,rfl⟩,λz=>nomatch z⟩
  |@frz a ob xs ea=>cases(show u=Value.ref a from rx);obtain⟨_,_,_,n,_,h1⟩:=(show ql X.prog X.w H s.heap a (.frz ob (.lst xs))from I.hok a _ ea);exact⟨_,kitx_list,⟨_,h1,rfl⟩,λz=>nomatch z⟩
  |@tup a xs ea=>cases(show u=Value.ref a from rx);obtain⟨_,_,_,p⟩:=(show ql X.prog X.w H s.heap a (.tup xs)from I.hok a _ ea);obtain⟨o,h1,h2,_⟩:=p;exact⟨_,kitx_tuple,⟨o,h1,h2⟩,λz=>nomatch z⟩
  |@dK a kvs ea=>cases(show u=Value.ref a from rx);obtain⟨_,_,vs,_,p⟩:=(show ql X.prog X.w H s.heap a (.dK kvs)from I.hok a _ ea);obtain⟨o,es,ep,h1,h2,_⟩:=p;exact⟨_,kitx_dict,⟨o,h1,h2.1⟩,λz=>nomatch z⟩
  |@dT a kvs ea=>cases(show u=Value.ref a from rx);obtain⟨_,_,xs,_,o,es,ep,h1,h2,_⟩:=(show ql X.prog X.w H s.heap a (.dT kvs)from I.hok a _ ea);exact⟨_,kitx_dict,⟨o,h1,h2.1⟩,λz=>nomatch z⟩
  |@ins a C dx fs ea cl ha hn htk hm=>cases(show u=Value.ref a from rx);obtain⟨mA,O,_⟩:=cE I.hok ea;obtain⟨od,J,_⟩:=O.look;exact⟨_,kitx_own (cl.get _) cl.hd ha hn htk hm,J,λz=>nomatch z⟩
 .cases(show u=Value.ref e from rx);obtain⟨t,T,sl,hx⟩:=Gk I he;obtain⟨mA,hn,_⟩:=XD.get (I.hok dx _ hd);obtain⟨od,hod,_⟩:=KG hn;exact⟨_,xC c z,⟨hx,rfl,rfl,hod⟩,λz=>nomatch z⟩
def XP(X:Cx)(Sa:OR)(Y:St)(Z:XK)(v:Value)(s':OV):Prop:=∃H' e C dx,v=.ref e/\Inv X Sa Y H' s'/\Fl X Sa H' s' e C (some dx)/\Z (.ref e) (some dx) (upd H' e (XC e C dx))
abbrev TEx:=St->Hp->VK->XK->Prop
abbrev TSx:=Ends->XK->St->Hp->Prop
def PEx(X:Cx)(e:Pc)(t:TEx):Prop:=
 ∀(Sa:OR)(s:OV)(Y:St)(H:Hp)(Q:VK)(Z:XK),Inv X Sa Y H s->t Y H Q Z->wpAny (Rk X) X.A (eval e X.env) (EP X Sa Y Q) (XP X Sa Y Z) s
def PSx(X:Cx)(st:PB)(t:TSx):Prop:=
 ∀(Sa:OR)(s:OV)(Y:St)(H:Hp)(D:Ends)(Z:XK),Inv X Sa Y H s->t D Z Y H->wpAny (Rk X) X.A (exec st X.env) (SP X Sa D) (XP X Sa Y Z) s
def Mj(X:Cx)(st:Pt)(t:TSx):Prop:=
 ∀(Sa:OR)(s:OV)(Y:St)(H:Hp)(D:Ends)(Z:XK),Inv X Sa Y H s->t D Z Y H->wpAny (Rk X) X.A (execs st X.env) (SP X Sa D) (XP X Sa Y Z) s
def Dw(F:yW X.prog X.w X.K X.mg X.base (Sj X.prog X.w) k f fd ps sp)(hr:vf k X.A)(hb:Binds X.K fd ps [])(I:Inv X Sa Y H s)(r:Vals vs us)(h:sp vs H Q Z):wpAny (Rk X) X.A (call (.ref f) us) (EP X Sa Y Q) (XP X Sa Y Z) s:=by
 have hl:(us++[]).length=ps.length:=by rw[P7,<- r.length];exact F.len _ _ _ _ h
 have bd:=hb s us I.kIn hl;rw[P7]at bd;refine ύ (ϙ (F.run X.A X.stack s H ⟨us,[]⟩ us vs Q Z hr I.oR bd r h) λr s' hq=>?_);cases r with
 |error e=>exact I.thrown hq
 |ok fl=>
  cases fl with
  |ret u=>exact I.after hq
  |next=>exact False.elim hq
  |brk=>exact False.elim hq
  |cont=>exact False.elim hq
def PA.nox(h:PA X.nox es t)(pos:Pos)(I:Inv X Sa Y H s)(hw:t Y H Q):
  wpAny (Rk X) X.A (spliced (backTo pos (starEach es X.env))) (AP X Sa Y Q) E s:=
 Tg (h pos Sa s Y H Q (I.d7 _) hw) (λ_ _ ⟨vs,H',I',r,q⟩=>⟨vs,H',I'.Y3,r,q⟩) λ_ _ z=>False.elim z
def xG(F:yW X.prog X.w X.K X.mg X.base (Sj X.prog X.w) k f fd ps sp)(hr:vf k X.A)(hg:Gl X x)(hm:X.mg x=some (.ref f))(hk:keepIn X.K (.ref f)=true)(hb:Binds X.K fd ps [])(ha:PA X.nox (e::es) t)(hdb:Rn x:=by decide)(he:starEach (e::es) X.env=(false,eval e X.env)::starEach es X.env:=by rfl)(hpl:(backTo pos (starEach es X.env)).any (·.1)=false:=by rfl):
  PEx X (.Call (.Name x p) (e::es) [] pos) (λY H Q Z=>t Y H λvs H1=>sp vs H1 Q Z):=by
 intro Sa s Y H Q Z I h;refine ϯ (JZ I hg hm ?_ hdb);refine a07 (h₀:=X.base) I.ok.mod.kin hk (Sk (PA.nox ha pos I h) λus s1 ⟨vs,H1,I1,r,q⟩=>⟨I1.kIn,?_⟩) he hpl;exact Dw F hr hb I1 r q
def Dx(hN:X.N.Nodup)(hi:X.N[i]?=some x)(hx:Loc X.env.scope x)(he:PEx X e tx)(hs:Ro X e x pos' pos:=by rfl)(hf:Rm X x:=by first|exact .inl rfl|exact .inr rfl|assumption):
  PSx X (.Assign [.Name x pos'] e pos) (λD Z Y H=>tx Y H (λv H1=>D.nx (Y.set i (some v)) H1) Z):=by
 intro Sa s Y H D Z I h;refine wpAny_Assign_Name (Sk (he Sa s Y H _ Z I h) λv s1 ⟨y,H1,I1,r1,q1⟩=>?_) hs;exact Q2 I1 hN hi hx r1 (λs2 I2=>⟨_,H1,I2,q1⟩) hf
def xH{st:PB}{t:TSx}(h1:PSx X st t):Mj X [st] t:=by
 intro Sa s Y H D Z I h;refine a2d (Sk (h1 Sa s Y H D Z I h) λf s1 q=>?_);cases f with
 |next=>exact a06 q
 |ret v=>exact q
 |brk=>exact q
 |cont=>exact q
abbrev Cx.held(X:Cx)(v:Value):Cx:={ X with A:=X.A.mark (some v),calm:=false,xe:=λ_ _=>False }
def Inv.held(I:Inv X Sa Y H s)(v:Value):Inv (X.held v) Sa Y H s:=
 ⟨⟨I.ok.mod,I.ok.kind,I.ok.glob,I.ok.blt,I.ok.above,I.ok.inj,I.ok.has,I.ok.cab,λz=>Bool.noConfusion z,I.ok.frames,I.ok.stk,I.ok.exf,I.ok.bs,I.ok.bsz,I.ok.FD,I.ok.FE,I.ok.g6,I.ok.frf⟩,I.os,I.bare,I.base,I.loc,I.cell,I.free,I.Wo,I.pin,I.hok,I.len⟩
def Inv.BR(I:Inv (X.held v) Sa Y H s)(ok:X.Ok):Inv X Sa Y H s:=
 ⟨ok,I.os,I.bare,I.base,I.loc,I.cell,I.free,I.Wo,I.pin,I.hok,I.len⟩
def Inv.blank(I:Inv X Sa Y H s)(hn:h'.Ns X.env.locals m')(hs:Heap.SameBut X.env.locals s.heap h'):Inv X Sa (List.replicate X.N.length none) H { s with heap:=h',toks:=t' }:=by
 have ne:∀b o,X.s₀.heap.get? b=some o->b≠X.env.locals:=λb o e=>P6 (P4 (O7 e) I.ok.above);have neH:∀b o,H b=some o->b≠X.env.locals:=λb o q z=>by rw[z,I.free]at q;cases q
 refine⟨I.ok,I.os,I.bare,⟨λb o e n hb hx=>(hs.2 b (ne b o e)).trans (I.base.keep b o e n hb hx),λb o e n hb hx=>?_,λb o e n hx=>I.base.free b o e n hx,λb o e hx=>?_,I.base.oX,I.base.u7,I.base.Bn⟩,⟨m',hn,λi x v _ e2 _=>?_⟩,λx c e=>?_,I.free,I.Wo,λp hp=>?_,λb u e=>?_,by simp⟩
 .obtain⟨sl,q⟩:=I.base.slot b o e n hb hx;exact⟨sl,(hs.2 b (ne b o e)).trans q⟩
 .obtain⟨o',q⟩:=I.base.there b o e hx;exact⟨o',(hs.2 b (ne b o e)).trans q⟩
 .rw[a0M]at e2;split at e2<;>cases e2
 .obtain⟨v,o,ho,hd⟩:=I.cell x c e;exact⟨v,o,(hs.2 c (I.cne x c e)).trans ho,hd⟩
 .obtain⟨e,n,nL,nf,d⟩:=I.pin p hp;exact⟨(hs.2 p.1 nL).trans e,n,nL,nf,d⟩
 .refine(I.hok b u e).oP (λc w hc r=>(hs.2 c ?_).trans r) (λ_ r=>r) λ_ _ r=>r;rcases hc with z|z
  .rw[z];exact neH b u e
  .exact neH c _ z
def name_goes(I:Inv X Sa Y H s)(hl:X.env.kindOf n=some .local)(hQ:∀s',Inv X Sa (List.replicate X.N.length none) H s'->Q () s'):wpAny M A (do bindName X.env n .none;unbindBehindTheSuite X.env n pos) Q E s:=by
 obtain⟨m,hn,_⟩:=id I.loc;exact wpAny_nameGoes hl hn (by rw[I.ok.kind];rfl) λh' m' hn' hs=>hQ _ (I.blank hn' hs)
structure Catch(K:Pw)(C F:Addr)(b:Bool):Prop where
 ty:typeIn K (.ref F)=some (.type "type")
 cl:(clsIn K F).isSome=true
 ex:subIn K (.ref F) (.type "BaseException")=some true
 su:subIn K (.ref C) (.ref F)=some b
def J_{K:Pw}{M:Model}{h:Heap}{e C F:Addr}{b:Bool}{o:Obj}(X:K.In h)(he:h.get? e=some o)(hc:o.cls=.ref C)(k:Catch K C F b):Looks M h (excMatches (.ref e) (.ref F)) b:=by
 have L0:Looks M h (typeOf (.ref e)) (.ref C):=hc▸(Looks.ld he).andThen .now;have L1:Looks M h (typeOf (.ref F)) (.type "type"):=looks_typeIn X k.ty;have L2:Looks M h (isInstance (.ref F) (.type "tuple")) false:=L1.andThen (Looks.of_pure tc_notTuple);have L3:Looks M h (isType (.ref F)) true:=by
  have hcl:=k.cl;unfold clsIn at hcl;split at hcl
  .rename_i c' d' cd' sl' hl;intro A' Q' E' s' kk q;unfold isType loadHead;exact f8 (a1h (kk _ _ (X _ _ hl)) (O5 q))
  .cases hcl
 have L4:Looks M h (isExcClass (.ref F)) true:=L3.andThen (looks_subIn X k.ex);have L5:=looks_subIn (M:=M) X k.su;intro A Q E s kk q;obtain⟨hp,g,d,tk,os⟩:=s;have M0:=L0.keeps kk;have M2:=L2.keeps kk;have M4:=L4.keeps kk;have M5:=L5.keeps kk;clear L0 L1 L2 L3 L4 L5;unfold excMatches;cases b with
 |true=>(repeat lk);exact q
 |false=>(repeat lk);exact q
def xI(i j:Int):Prop:=i.natAbs<2 ^ 8192/\j.natAbs<2 ^ 8192
def xI.ok(h:xI i j):IntMulOk i j:=IntMulOk.of_le (intBits_le_iff.mpr h.1) (intBits_le_iff.mpr h.2) (by decide)
def Dy:Sx X (binaryOp .Mult) (rI xI λi j=>.int (i*j)):=ϟ λ_ _ _ _ _ _ _ hc q=>mul_int q hc.ok
section
variable {H:Hp}{Q:VK}{i j:Int}{x y:Str}{v:V}{o:Option V}{r:St}{n:Nat}
end
section
variable {K:Pw}{C:Addr}{f g:Str}{E E':XK}{D:Ends}{Y:St}{H:Hp}{v u:V}{te tu:TE}
end
def zH.upd{H:Hp}{p:Addr}{o:HO}(h:H p=Option.none):zH H (upd H p o):=λb q e=>by rw[zl (zQ e h)];exact e
def ij(cells:Pr):List (Str×NameKind)->List (Str×Addr)->List (Str×Addr)
 |[],cs=>cs
 | (n,k)::r,cs=>ij cells r (if k == .free then(match cells.lookup n with|some c=>(n,c)::cs|none=>cs)else cs)
def Wx{env:Env}:∀(names:Px)(cs:Pr),(∀y∈names,y.2=.free->(env.cells.lookup y.1).isSome=true)->
  (forIn names cs λx r=>if(x.2==NameKind.free)=true then do let a<-cellOf env x.1;pure (ForInStep.yield ((x.1,a)::r))else pure (ForInStep.yield r))=(pure (ij env.cells names cs):Sem _)
 |[],cs,_=>rfl
 | (n,k)::r,cs,h=>by
  rw[List.forIn_cons];have ih:=λcs=>Wx (env:=env) r cs λy hy=>h y (O4 _ hy);unfold ij;by_cases hk:(k==NameKind.free)=true
  .have hs:=h (n,k) O0 (S9.mp hk);obtain⟨c,hc⟩:=a0u.mp hs;have hc':List.lookup n env.cells=some c:=hc;simp only[hk,if_true,cellOf,hc',pure_bind];exact ih _
  .have hk':(k==NameKind.free)=false:=by simpa using hk
   simp only[hk',Bool.false_eq_true,if_false,pure_bind];exact ih _
def nS(h:∀y∈scope.names,y.2=.free->(env.cells.lookup y.1).isSome=true):closureFor scope env=pure (ij env.cells scope.names []):=by have:=Wx scope.names [] h;simp only[closureFor];rw[this];rfl
def Q4{cells:Pr}{x:Str}{c:Addr}:∀(names:Px)(cs:Pr),(∀d,cs.lookup x=some d->cells.lookup x=some d)->(ij cells names cs).lookup x=some c->cells.lookup x=some c
 |[],cs,h,e=>h c e
 | (n,k)::r,cs,h,e=>by
  unfold ij at e;refine Q4 r _ (λd hd=>?_) e;by_cases hk:(k==NameKind.free)=true
  .rw[if_pos hk]at hd;split at hd
   .rename_i c' hc';rw[T4]at hd;split at hd
    .rename_i hx;cases hd;rw[S9.mp hx];exact hc'
    .exact h d hd
   .exact h d hd
  .rw[if_neg hk]at hd;exact h d hd
def cI{cells:Pr}{x:Str}:∀(names:Px)(cs:Pr),((cs.lookup x).isSome=true\/((x,NameKind.free)∈names/\(cells.lookup x).isSome=true))->((ij cells names cs).lookup x).isSome=true
 |[],cs,h=>by
  rcases h with h|⟨h,_⟩
  .exact h
  .cases h
 | (n,k)::r,cs,h=>by
  unfold ij;refine cI r _ ?_;rcases h with h|⟨h,hc⟩
  .left;by_cases hk:(k==NameKind.free)=true
   .rw[if_pos hk];split
    .rw[T4];split
     .rfl
     .exact h
    .exact h
   .rw[if_neg hk];exact h
  .rcases P9.mp h with e|e
   .left;cases e;rw[if_pos (by rfl)];obtain⟨c,hc⟩:=a0u.mp hc;rw[hc,T4];simp
   .exact .inr ⟨e,hc⟩
def Dz{x:Str}{c:Addr}:∀(names:Px)(h:Heap)(cs:Pr),(cellsFrom h.objs.size names cs).lookup x=some c->cs.lookup x=some c\/(h.objs.size<=c/\∃v,(pushCells h names).IsCell c v)
 |[],_,_,e=>.inl e
 | (n,k)::r,h,cs,e=>by
  unfold cellsFrom at e;unfold pushCells;split at e
  .rename_i hk;rw[if_pos hk];have e':(cellsFrom (h.push { cls:=.type "cell",data:=.cell none }).objs.size r ((n,h.objs.size)::cs)).lookup x=some c:=by rw[Ϫ];exact e
   rcases Dz r _ _ e' with z|⟨z,v⟩
   .rw[T4]at z;split at z
    .cases z;exact .inr ⟨O2 _,none,_,a2A r _ _ _ (S5 _ rfl),rfl⟩
    .exact .inl z
   .rw[Ϫ]at z;exact .inr ⟨a17 z,v⟩
  .rename_i hk;rw[if_neg hk];exact Dz r h cs e
def pS:∀(names:Px)(lo:Nat)(cs:Pr),(∀x y c,cs.lookup x=some c->cs.lookup y=some c->x=y)->(∀x c,cs.lookup x=some c->c<lo)->∀x y c,(cellsFrom lo names cs).lookup x=some c->(cellsFrom lo names cs).lookup y=some c->x=y
 |[],_,_,h,_=>h
 | (n,k)::r,lo,cs,h,hl=>by
  unfold cellsFrom;split
  .refine pS r _ _ (λx y c e1 e2=>?_) λx c e=>?_
   .rw[T4]at e1 e2;split at e1<;>split at e2
    .rename_i q1 _ q2;rw[S9.mp q1,S9.mp q2]
    .cases e1;exact absurd (hl _ _ e2) (Κ _)
    .cases e2;exact absurd (hl _ _ e1) (Κ _)
    .exact h x y c e1 e2
   .rw[T4]at e;split at e
    .cases e;exact ϋ _
    .exact a1w (hl x c e)
  .exact pS r _ _ h hl
def pT{x:Str}:∀(names:Px)(lo:Nat)(cs:Pr),((cs.lookup x).isSome=true\/(x,NameKind.cell)∈names)->((cellsFrom lo names cs).lookup x).isSome=true
 |[],_,_,h=>h.elim id λz=>nomatch z
 | (n,k)::r,lo,cs,h=>by
  unfold cellsFrom;split
  .refine pT r _ _ ?_;rcases h with h|h
   .left;rw[T4];split
    .rfl
    .exact h
   .rcases P9.mp h with e|e
    .cases e;left;rw[T4];simp
    .exact .inr e
  .rename_i hk;refine pT r _ _ (h.imp id λz=>?_);rcases P9.mp z with e|e
   .cases e;exact absurd rfl hk
   .exact e
def pV{x:Str}:∀(names:Px)(lo:Nat)(cs:Pr),(x,NameKind.cell)∉names->(cellsFrom lo names cs).lookup x=cs.lookup x
 |[],_,_,_=>rfl
 | (n,k)::r,lo,cs,h=>by
  unfold cellsFrom;split
  .rename_i hk;rw[pV r _ _ λz=>h (O4 _ z),T4];have:(x==n)=false:=by
    cases q:x==n with
    |false=>rfl
    |true=>exact absurd (by rw[S9.mp q,S9.mp hk];exact O0) h
   rw[this]
  .exact pV r _ _ λz=>h (O4 _ z)
def pW{x:Str}{c:Addr}:∀(names:Px)(lo b:Nat)(cs:Pr),b<=lo->((x,NameKind.cell)∈names\/∀d,cs.lookup x=some d->b<=d)->(cellsFrom lo names cs).lookup x=some c->b<=c
 |[],_,_,_,_,h,e=>h.elim (λz=>nomatch z) λz=>z c e
 | (n,k)::r,lo,b,cs,hb,h,e=>by
  unfold cellsFrom at e;split at e
  .refine pW r _ b _ (a1x hb) ?_ e;rcases h with h|h
   .rcases P9.mp h with z|z
    .cases z;refine .inr λd hd=>?_;rw[T4]at hd;simp at hd;rw[<- hd];exact hb
    .exact .inl z
   .refine .inr λd hd=>?_;rw[T4]at hd;split at hd
    .cases hd;exact hb
    .exact h d hd
  .rename_i hk;refine pW r _ b _ hb (h.imp (λz=>?_) id) e;rcases P9.mp z with q|q
   .cases q;exact absurd rfl hk
   .exact q
def nU
  (h:Q (newEnv scope s.heap.objs.size globals (cellsFrom (s.heap.objs.size+1) scope.names cl) qual none .none (some env) builtinsNs) { s with heap:=pushCells (s.heap.push { cls:=.type "dict",data:=.dict #[] }) scope.names }):
  wpAny M A (newFunctionEnv scope globals cl [] qual none .none (some env)) Q E s:=by
 simp only[newFunctionEnv,Option.isSome_some,if_true];refine f8 (wpAny_alloc ?_);refine f8 (wpAny_layCells _ (λname kind cells=>by cases hkc:kind==NameKind.cell<;>simp[hkc]) _ _ _ _ ?_);rw[show({ s with heap:=s.heap.push { cls:=.type "dict",data:=.dict #[] } }:Shared).heap.objs.size=s.heap.objs.size+1 from Ϫ ..];refine f8 ?_;rw[List.forIn_nil];exact O5 (O5 h)
abbrev lU(scope:Scope)(cl:Pr)(L:Addr)(env:Env):Env:={ compEnvC scope cl L env with cells:=cellsFrom (L+1) scope.names cl }
abbrev qO(X:Cx)(scope:Scope)(N:OP)(fp:PD)(pn:OR)(s:OV)(H:Hp)(L:Addr):Cx:=
 { X with N:=N,s₀:=s,H₀:=H,env:=lU scope (ij X.env.cells scope.names []) L X.env,outer:=X.stack,ex:=fp,fn:=λx=>scope.names.contains (x,.cell),pn:=pn,xe:=λ_ _=>False }
def pX(X:Cx)(scope:Scope)(N:OP)(fr:Pf):Bool:=
 scope.kind == .function&&scope.names.all (λy=>y.2 != .cell || !scope.names.contains (y.1,.free))&&scope.names.all (λy=>y.2 != .local||scope.names.lookup y.1==some .local) &&
 scope.names.all (λy=>y.2 != .free||(X.env.kindOf y.1==some .cell||X.env.kindOf y.1==some .free))&&N.length==fr.length &&
 (N.zip fr).all λp=>match p.2 with|none=>true|some j=>X.N[j]?==some p.1&&scope.names.contains (p.1,.free)&&((relabel scope X.env).names.lookup p.1==some .cell||(relabel scope X.env).names.lookup p.1==some .free)
def uW(Y:St)(fr:Pf):St:=fr.map λo=>match o with|none=>none|some j=>(Y[j]?).join
def ϵ(X:Cx)(ifs:OX)(t:TT):Prop:=
 ∀(Sa:OR)(s:OV)(Y:St)(H:Hp)(Q:Bool->Hp->Prop),Inv X Sa Y H s->t Y H Q->
  wpAny (Rk X) X.A (forIn ifs true λc r=>if r=true then do let ok<-isTrue c X.env (eval c X.env);pure (ForInStep.yield ok)else pure (ForInStep.yield r)) (TP X Sa Y Q) X.xe s
def Oq:TT:=λ_ H Q=>Q true H
def DA:ϵ X [] Oq:=λ_ _ Y H _ I h=>wpAny_tests_nil ⟨H,I,h⟩
def DB(h:PT X c t):ϵ X [c] t:=λSa s Y H Q I q=>wpAny_tests_one (h Sa s Y H Q I q)
def e_(h:(relabel scope env).names.lookup x=some .cell\/(relabel scope env).names.lookup x=some .free):(x,NameKind.free)∈scope.names\/(x,NameKind.cell)∈scope.names:=by
 have key:∀(names:Px) k,(names.map λ(n,k)=>if(k==NameKind.free&&env.scope.kind == .function&&env.kindOf n==some .cell)then(n,NameKind.cell)else(n,k)).lookup x=some k->(k=.cell\/k=.free)->(x,NameKind.free)∈names\/(x,NameKind.cell)∈names:=by
  intro names
  induction names with
  |nil=>intro k e _;simp at e
  |cons y r ih=>
   intro k e hk;obtain⟨n,kd⟩:=y;rw[O6,T4]at e;by_cases q:(kd==NameKind.free&&env.scope.kind == .function&&env.kindOf n==some .cell)=true
   .simp only[q,if_true]at e;split at e
    .rename_i hx;have hf:kd=.free:=by simp only[Bool.and_eq_true,beq_iff_eq]at q;exact q.1.1
     left;rw[S9.mp hx,hf];exact O0
    .exact(ih k e hk).imp (O4 _) (O4 _)
   .simp only[q,Bool.false_eq_true,if_false]at e;split at e
    .rename_i hx;have e':kd=k:=ν e;rcases hk with z|z
     .right;rw[S9.mp hx,e',z];exact O0
     .left;rw[S9.mp hx,e',z];exact O0
    .exact(ih k e hk).imp (O4 _) (O4 _)
 rcases h with h|h
 .exact key _ _ h (.inl rfl)
 .exact key _ _ h (.inr rfl)
def ik(I:Nat->Shared->Prop)(turn:∀n s,I n s->wpAny (model prog w) A (pyNext it) (λr s1=>match r with
   |none=>R (.ok .next) s1
   |some v=>wpAny (model prog w) A (letOwnedTupleGo target it v) (λ_ s1'=>wpAny (model prog w) A (assign target env v) (λ_ s2=>
     wpAny (model prog w) A (forIn ifs true λc r=>if r=true then do let ok<-isTrue c env (eval c env);pure (ForInStep.yield ok)else pure (ForInStep.yield r)) (λok s3=>
      if ok=true then wpAny (model prog w) A (eval elt env) (λx s4=>wpAny (model prog w) A (call (.builtin "list.append") [acc,x]) (λ_ s5=>∃m,m<n/\I m s5) (λ_ _=>False) s4) (λ_ _=>False) s3
      else ∃m,m<n/\I m s3) (λ_ _=>False) s2) (λ_ _=>False) s1') (λ_ _=>False) s1) (λ_ _=>False) s)
  (n:Nat) (h:I n s):codeAny (model prog w) A (.compLoop (.ListComp elt [⟨target,jD,ifs,0⟩] scope pos) 0 it acc env) R s:=by
 refine codeAny_loop rfl I (λn s hI=>?_) n h;show wpAny _ A ((compTurn (.ListComp elt [⟨target,jD,ifs,0⟩] scope pos) 0 it acc env).onRaise λx=>do noteFrame x env;theTreesLotGoes x) _ _ s;refine wpAny_noted ?_;rw[compTurn_list];refine f8 (a1A (f8 (Tg (turn n s hI) (λr s1 h1=>?_) λ_ _ z=>False.elim z)));cases r with
 |none=>exact O5 h1
 |some v=>
  refine f8 (Tg h1 (λ_ s1' h1'=>f8 (Tg h1' (λ_ s2 h2=>f8 (Tg h2 (λok s3 h3=>?_) λ_ _ z=>False.elim z)) λ_ _ z=>False.elim z)) λ_ _ z=>False.elim z);cases ok with
  |false=>exact O5 ⟨rfl,h3⟩
  |true=>exact f8 (f8 (Tg h3 (λx s4 h4=>f8 (Tg h4 (λ_ s5 h5=>O5 (O5 ⟨rfl,h5⟩)) λ_ _ z=>False.elim z)) λ_ _ z=>False.elim z))
def nV{X:Cx}{Sa:OR}{Y:St}{H2:Hp}{s2:OV}{elt jD tg:Pc}{ifs:OX}{scope:Scope}{pos:Pos}{N:OP}{fr:Pf}{it:Addr}{fp:PD}{tn:Nat->Heap->Prop}{J:It}{E:OT}{RR:Value->Addr->Result->Shared->Prop}(hc:X.calm=true)(hok:pX X scope N fr=true)(I2:Inv X Sa Y H2 s2)(T:Turn X.prog X.w X.K tg J fp it tn)(st:tn 0 s2.heap)(f2:∀b∈fp,nE X Sa H2 b)(k:∀(s3:OV)(h1:Heap),Inv X Sa Y (upd H2 s2.heap.objs.size (.lst [])) s3->Inv (qO X scope N fp (X.pn++Sa) s3 (upd H2 s2.heap.objs.size (.lst [])) s3.heap.objs.size) [] (uW Y fr) (upd H2 s2.heap.objs.size (.lst [])) { s3 with heap:=h1,toks:=s3.toks+0 }->(∀b o,s2.heap.get? b=some o->h1.get? b=some o)->(∀b∈fp,(upd H2 s2.heap.objs.size (.lst [])) b=none)->(∀H':Hp,(∀b∈fp,H' b=none)->∀b∈fp,nE (qO X scope N fp (X.pn++Sa) s3 (upd H2 s2.heap.objs.size (.lst [])) s3.heap.objs.size) [] H' b)-> codeAny (Rk X) X.A (.compLoop (.ListComp elt [⟨tg,jD,ifs,0⟩] scope pos) 0 (.ref it) (.ref s2.heap.objs.size) (lU scope (ij X.env.cells scope.names []) s3.heap.objs.size X.env)) (RR (.ref s2.heap.objs.size) s3.heap.objs.size) { s3 with heap:=h1,toks:=s3.toks+0 }):
  wpAny (Rk X) X.A (newList []) (λacc s3=>wpAny (Rk X) X.A (newFunctionEnv scope X.env.globals (ij X.env.cells scope.names []) [] X.env.qual none .none (some X.env)) (λcenv s4=> codeAny (Rk X) X.A (.compStart (.ListComp elt [⟨tg,jD,ifs,0⟩] scope pos) 0 (.ref it) acc { cenv with scope:=relabel scope X.env }) (RR acc cenv.locals) s4) E s3) E s2:=by
 unfold pX at hok;simp only[Bool.and_eq_true,beq_iff_eq,List.all_eq_true]at hok;obtain⟨⟨⟨⟨⟨k1,k2⟩,k3⟩,k4⟩,k5⟩,k6⟩:=hok;have hcf:∀x,(x,NameKind.free)∈scope.names->(x,NameKind.cell)∉scope.names:=λx hf hc'=>by have:=k2 _ hc';simp only[bne_self_eq_false,Bool.false_or,Bool.not_eq_true',List.contains_eq_mem,decide_eq_false_iff_not]at this;exact this hf
 refine Ϙ ?_;have I3:Inv X Sa Y (upd H2 s2.heap.objs.size (.lst [])) { s2 with heap:=s2.heap.push { cls:=.type "list",data:=.seq ([]:List Value).toArray } }:=I2.L6 (ys:=[]) (Sf:=[]) (t':=s2.toks) .nil (Tx _);refine nU ?_;generalize hs3:({ s2 with heap:=s2.heap.push { cls:=.type "list",data:=.seq ([]:List Value).toArray } }:Shared)=s3 at I3 ⊢;have hns1:=(Heap.Ns.new s3.heap (.type "dict")).keeps (a2A scope.names _);have kp1:∀b o,s3.heap.get? b=some o->(pushCells (s3.heap.push { cls:=.type "dict",data:=.dict #[] }) scope.names).get? b=some o:=λb o e=>a2A _ _ b o (O3 _ e);have cor:∀x c,(cellsFrom (s3.heap.objs.size+1) scope.names (ij X.env.cells scope.names [])).lookup x=some c->X.env.cells.lookup x=some c\/(s3.heap.objs.size+1<=c/\∃v,(pushCells (s3.heap.push { cls:=.type "dict",data:=.dict #[] }) scope.names).IsCell c v):=λx c e=>by have:=Dz (x:=x) (c:=c) scope.names (s3.heap.push { cls:=.type "dict",data:=.dict #[] }) (ij X.env.cells scope.names []) (by rw[Ϫ];exact e);rw[Ϫ]at this;exact this.imp (Q4 _ [] λ_ z=>by simp at z) id
 generalize hh1:pushCells (s3.heap.push { cls:=.type "dict",data:=.dict #[] }) scope.names=h1 at hns1 kp1 cor ⊢;have kp0:∀b o,s2.heap.get? b=some o->s3.heap.get? b=some o:=λb o e=>by rw[<- hs3];exact O3 _ e
 have fp3:∀b∈fp,b<s3.heap.objs.size/\(upd H2 s2.heap.objs.size (.lst [])) b=none:=λb hb=>by obtain⟨o,ho,_⟩:=T.obj _ _ st b hb;refine⟨O7 (kp0 _ _ ho),?_⟩;rw[zl (P6 (O7 ho))];exact(f2 b hb).1
 have okc:(qO X scope N fp (X.pn++Sa) s3 (upd H2 s2.heap.objs.size (.lst [])) s3.heap.objs.size).Ok:=by
  refine⟨I3.ok.mod,k1,I3.ok.glob,I3.ok.blt,O2 _,pS _ _ _ (λx y c e1 e2=>I3.ok.inj x y c (Q4 _ [] (λ_ z=>by simp at z) e1) (Q4 _ [] (λ_ z=>by simp at z) e2)) λx c e=>?_,λx hx=>?_,λx c z e=>?_,λ_=>I3.ok.hd hc,I3.ok.frames,.inl rfl,
   λb hb=>⟨P6 (fp3 b hb).1,λx c e=>?_⟩,I3.bs,S6 I3.ok.bsz I3.sz,λb o e hb=>?_,λb hb z=>?_,I3.stack,I3.cA⟩
  .obtain⟨v,hv⟩:=I3.cell x c (Q4 _ [] (λ_ z=>by simp at z) e);exact a1w hv.lt
  .refine a0u.mp (pT _ _ _ ?_);rcases e_ hx with hf|hf
   .have hk:=k4 _ hf;simp only[bne_self_eq_false,Bool.false_or,Bool.or_eq_true,beq_iff_eq]at hk;obtain⟨c,hcx⟩:=I3.ok.has x hk;exact .inl (cI _ [] (.inr ⟨hf,by rw[hcx];rfl⟩))
   .exact .inr hf
  .exact pW scope.names (s3.heap.objs.size+1) s3.heap.objs.size _ (Δ _) (.inl (List.contains_iff_mem.mp z)) e
  .rcases cor x c e with z|⟨z,_⟩
   .exact(f2 b hb).2.2.2.2.1 x c z
   .exact λq=>absurd (Ϯ (a17 z) (show c<s3.heap.objs.size by rw[q];exact(fp3 b hb).1)) (Κ _)
  .rcases(f2 b hb).2.2.2.1 with z|z
   .exact I2.ok.FD b o e z
   .have:=O7 e;exact absurd (P4 this I2.ok.bsz) (Nat.not_lt.mpr z)
  .rcases P9.mp (I3.bK b z)with z|z
   .exact(f2 b hb).2.1 z
   .exact(f2 b hb).2.2.1 z
 have lenN:(uW Y fr).length=N.length:=by unfold uW;rw[u8];exact k5.symm
 have J0:Inv (qO X scope N fp (X.pn++Sa) s3 (upd H2 s2.heap.objs.size (.lst [])) s3.heap.objs.size) [] (uW Y fr) (upd H2 s2.heap.objs.size (.lst [])) { s3 with heap:=h1,toks:=s3.toks+0 }:=by
  have I4:=I3.kept (h':=h1) (t':=s3.toks+0) kp1;refine⟨okc,rfl,I3.bare,Un.kept kp1,⟨_,hns1,λi x v e1 e2 _=>?_⟩,λx c e=>(cor x c e).elim (I4.cell x c) λz=>z.2,I3.hok.fresh (O2 _),λx c e=>(cor x c e).elim (I4.Wo x c) λz=>I3.hok.fresh (a17 z.1),λp hp=>?_,I4.hok,lenN⟩
  .unfold uW at e2;rw[S7]at e2;cases hfi:fr[i]? with
   |none=>rw[hfi]at e2;cases e2
   |some o=>
    rw[hfi]at e2;cases o with
    |none=>cases e2
    |some j=>
     have e3:(Y[j]?).join=some v:=ν e2;have hm:(x,some j)∈N.zip fr:=by refine ϧ (i:=i) ?_;rw[List.getElem?_zip_eq_some];exact⟨e1,hfi⟩
     have hk:=k6 _ hm;simp only[Bool.and_eq_true,Bool.or_eq_true,beq_iff_eq,List.contains_iff_mem]at hk;obtain⟨⟨g1,g2⟩,g3⟩:=hk;have hσ:Y[j]?=some (some v):=by
      cases q:Y[j]? with
      |none=>rw[q]at e3;cases e3
      |some w=>rw[q]at e3;cases w with
       |none=>cases e3
       |some w=>cases e3;rfl
     have hkx:=k4 _ g2;simp only[bne_self_eq_false,Bool.false_or,Bool.or_eq_true,beq_iff_eq]at hkx;obtain⟨m,_,hl⟩:=I4.loc;obtain⟨u,ru,lk⟩:=hl j x v g1 hσ (by rcases hkx with z|z;exact .inr (.inl z);exact .inr (.inr z));refine⟨u,ru,.inr ⟨g3,?_⟩⟩;rcases lk with⟨z,_⟩|⟨_,c,ec,z⟩
     .rcases hkx with q|q<;>(rw[z]at q;cases q)
     .obtain⟨c',hc'⟩:=a0u.mp (cI (cells:=X.env.cells) (x:=x) scope.names [] (.inr ⟨g2,by rw[ec];rfl⟩));have:=Q4 _ [] (λ_ z=>by simp at z) hc';rw[ec]at this;cases this;exact⟨c,(pV _ _ _ (hcf x g2)).trans hc',z⟩
  .have hp':p∈X.pn++Sa:=by rw[P7]at hp;exact hp
   obtain⟨q1,q2,q3,q4,q5⟩:=I4.pin p hp';refine⟨q1,q2,P6 (O7 (I3.pin p hp').1),λz=>?_,q5⟩;rcases P9.mp (I3.bK _ z)with z|z
   .exact q3 z
   .exact q4 z
 have stat:∀{H':Hp},(∀b∈fp,H' b=none)->∀b∈fp,nE (qO X scope N fp (X.pn++Sa) s3 (upd H2 s2.heap.objs.size (.lst [])) s3.heap.objs.size) [] H' b:=λhn b hb=>
  ⟨hn b hb,(okc.exf b hb).1,λz=>okc.FE b hb z,.inl hb,(okc.exf b hb).2,λp hp=>by rw[P7]at hp;exact(f2 b hb).2.2.2.2.2 p hp⟩
 have loop:=k s3 h1 I3 J0 (λb o e=>kp1 b o (kp0 b o e)) (λb hb=>(fp3 b hb).2) (λ_ hn=>stat hn);exact codeAny_compStart_list loop (T.self _ 0 _ _ _ (T.keep _ _ _ st λb _ o e=>kp1 b o (kp0 b o e)) loop)
def lV{X:Cx}{Sa:OR}{Y:St}{H2:Hp}{s2:OV}{elt jD tg:Pc}{ifs:OX}{scope:Scope}{pos:Pos}{N:OP}{fr:Pf}{g:TG}{tc:TT}{te:TE}{it:Addr}{fp:PD}{tn:Nat->Heap->Prop}{J:It}{E:OT}{RR:Value->Addr->Result->Shared->Prop}{Q:VK}(hc:X.calm=true)(hok:pX X scope N fr=true)(I2:Inv X Sa Y H2 s2)(T:Turn X.prog X.w X.K tg J fp it tn)(st:tn 0 s2.heap)(f2:∀b∈fp,nE X Sa H2 b)(hg:∀fp pn s H L,PG (qO X scope N fp pn s H L) tg g)(hi:∀fp pn s H L,ϵ (qO X scope N fp pn s H L) ifs tc)(he:∀fp pn s H L,PE (qO X scope N fp pn s H L) elt te)(h:∀acc,H2 acc=none->∃W:Nat->Nat->St->Hp->Prop,(∃m,W 0 m (uW Y fr) (upd H2 acc (.lst [])))/\∀i m Y' H',W i m Y' H'-> (J.stop i H'/\Q (.ref acc) H')\/(J.go i H'/\∃N:St->Hp->Prop,(∀Y' H',N Y' H'->∃m',m'<m/\W (i+1) m' Y' H')/\∀x H3,J.yld i H' x H3->g x Y' H3 λσ4 H4=>tc σ4 H4 λb H5=> if b=true then te σ4 H5 λv H6=>∃ys,H6 acc=some (.lst ys)/\ys.length<sizeLine/\N σ4 (upd H6 acc (.lst (ys++[v])))else N σ4 H5))(hRR:∀acc C m s' H',Inv X Sa Y H' s'->s'.heap.Ns C m->X.s₀.heap.objs.size<=C->H' C=none->C≠X.env.locals->(∀x c,X.env.cells.lookup x=some c->c≠C)->(∀p∈X.pn++Sa,p.1≠C)->Q (.ref acc) H'->RR (.ref acc) C (.ok .next) s'):
  wpAny (Rk X) X.A (newList []) (λacc s3=>wpAny (Rk X) X.A (newFunctionEnv scope X.env.globals (ij X.env.cells scope.names []) [] X.env.qual none .none (some X.env)) (λcenv s4=> codeAny (Rk X) X.A (.compStart (.ListComp elt [⟨tg,jD,ifs,0⟩] scope pos) 0 (.ref it) acc { cenv with scope:=relabel scope X.env }) (RR acc cenv.locals) s4) E s3) E s2:=by
 have hDf:H2 s2.heap.objs.size=none:=I2.hok.fresh (O2 _);obtain⟨W,⟨m0,w0⟩,turn⟩:=h _ hDf;refine nV hc hok I2 T st f2 λs3 h1 I3 J0 kp fpn stat=>?_;have hcc:(qO X scope N fp (X.pn++Sa) s3 (upd H2 s2.heap.objs.size (.lst [])) s3.heap.objs.size).calm=true:=hc;refine ik (λn s'=>∃i Y' H',Inv (qO X scope N fp (X.pn++Sa) s3 (upd H2 s2.heap.objs.size (.lst [])) s3.heap.objs.size) [] Y' H' s'/\tn i s'.heap/\(∀b∈fp,H' b=none)/\W i n Y' H') ?_ m0
  ⟨0,_,_,J0,T.keep _ _ _ st λb _ o e=>kp b o e,fpn,w0⟩
 rintro n s5 ⟨i,σ5,H5,I5,st5,fr5,w5⟩
 rcases turn i n σ5 H5 w5 with⟨stop,qn⟩|⟨go,NN,hNN,step⟩
 .refine Sk (T.done (qO X scope N fp (X.pn++Sa) s3 (upd H2 s2.heap.objs.size (.lst [])) s3.heap.objs.size) rfl rfl rfl hcc i [] s5 σ5 H5 _ I5 (stat _ fr5) st5 stop) λr s6 ⟨hr,I6⟩=>?_;subst hr;have I7:Inv X Sa Y H5 s6:=I3.FJ (ch:=fp) I6.os I6.base I6.hok I6.bare λb hb=>⟨(f2 b hb).2.2.2.1,(f2 b hb).2.1,(f2 b hb).2.2.2.2.1,(f2 b hb).2.2.2.2.2⟩;obtain⟨mm,hmm,_⟩:=I6.loc;refine hRR _ _ mm s6 H5 I7 hmm I3.sz I6.free (Ϧ I3.lt) (λx c e z=>?_) (λp hp z=>?_) qn
  .obtain⟨v,hv⟩:=I3.cell x c e;exact absurd hv.lt (by rw[z];exact Κ _)
  .exact absurd (O7 (I3.pin p hp).1) (by rw[z];exact Κ _)
 .refine Sk (T.item (qO X scope N fp (X.pn++Sa) s3 (upd H2 s2.heap.objs.size (.lst [])) s3.heap.objs.size) rfl rfl rfl hcc i [] s5 σ5 H5 _ I5 (stat _ fr5) st5 go) λr s6 ⟨u,hr,h6⟩=>?_;subst hr;refine Sk h6 λ_ s7 ⟨x,H7,I7,r7,y7,st7,fr7⟩=>?_;have I7':=I7.pinned (stat _ fr7) (T.obj _ _ st7);have again:∀{σ9:St}{H9:Hp}{s9:OV},Inv (qO X scope N fp (X.pn++Sa) s3 (upd H2 s2.heap.objs.size (.lst [])) s3.heap.objs.size) ([]++ej fp s7.heap) σ9 H9 s9->NN σ9 H9->
    ∃m,m<n/\∃i Y' H',Inv (qO X scope N fp (X.pn++Sa) s3 (upd H2 s2.heap.objs.size (.lst [])) s3.heap.objs.size) [] Y' H' s9/\tn i s9.heap/\(∀b∈fp,H' b=none)/\W i m Y' H':=λ{σ9 H9 s9} I9 n9=>by
   obtain⟨m',hm,w9⟩:=hNN σ9 H9 n9;refine⟨m',hm,i+1,σ9,H9,I9.wm,T.keep _ _ _ st7 λb hb o e=>(I9.pin (b,o) (R8 _ (R8 _ (Q3 hb e)))).1,λb hb=>?_,w9⟩;obtain⟨o,e,d⟩:=T.obj _ _ st7 b hb;exact(I9.pin (b,o) (R8 _ (R8 _ (Q3 hb e)))).2.1
  refine Sk (hg _ _ _ _ _ _ s7 σ5 H7 x u _ I7' r7 (step x H7 y7)) λ_ s8 ⟨σ8,H8,I8,q8⟩=>?_;refine Sk (hi _ _ _ _ _ _ s8 σ8 H8 _ I8 q8) λok s9 ⟨H9,I9,q9⟩=>?_;cases ok with
  |false=>rw[if_neg (by decide)]at q9 ⊢;exact again I9 q9
  |true=>rw[if_pos rfl]at q9 ⊢;refine Sk (he _ _ _ _ _ _ s9 σ8 H9 _ I9 q9) λy s10 ⟨v,H10,I10,r10,ys,h10,l10,q10⟩=>?_;refine Sk (Ug (X:=qO X scope N fp (X.pn++Sa) s3 (upd H2 s2.heap.objs.size (.lst [])) s3.heap.objs.size) _ s10 σ8 H10 (.ref s2.heap.objs.size) [v] (.ref s2.heap.objs.size) [y] (λ_ H11=>NN σ8 H11) I10 rfl (.cons r10 .nil) ⟨_,ys,v,rfl,rfl,h10,l10,q10⟩) λ_ s11 ⟨_,H11,I11,_,q11⟩=>?_;exact again I11 q11
def tLC(wi:TI)(g:TG)(tc:TT)(te:TE)(fr:Pf):TE:=λY H Q=>wi Y H λJ H1=>∀acc,H1 acc=none->∃W:Nat->Nat->St->Hp->Prop,(∃m,W 0 m (uW Y fr) (upd H1 acc (.lst [])))/\∀i m Y' H',W i m Y' H'->
 (J.stop i H'/\Q (.ref acc) H')\/(J.go i H'/\∃N:St->Hp->Prop,(∀Y' H',N Y' H'->∃m',m'<m/\W (i+1) m' Y' H')/\∀x H3,J.yld i H' x H3->g x Y' H3 λσ4 H4=>tc σ4 H4 λb H5=> if b=true then te σ4 H5 λv H6=>∃ys,H6 acc=some (.lst ys)/\ys.length<sizeLine/\N σ4 (upd H6 acc (.lst (ys++[v])))else N σ4 H5)
def lX{X:Cx}{Sa:OR}{Y:St}{H:Hp}{s:OV}{scope:Scope}{N:OP}{fr:Pf}(hok:pX X scope N fr=true)(I:Inv X Sa Y H s):
  scope.kind=.function/\(∀y∈scope.names,y.2=.local->scope.names.lookup y.1=some .local)/\closureFor scope X.env=pure (ij X.env.cells scope.names []):=by
 unfold pX at hok;simp only[Bool.and_eq_true,beq_iff_eq,List.all_eq_true]at hok;obtain⟨⟨⟨⟨⟨k1,k2⟩,k3⟩,k4⟩,k5⟩,k6⟩:=hok;refine⟨k1,λy hy z=>?_,nS λy hy z=>?_⟩
 .have:=k3 y hy;rw[z]at this;simpa using this
 .have hk:=k4 y hy;rw[z]at hk;simp only[bne_self_eq_false,Bool.false_or,Bool.or_eq_true,beq_iff_eq]at hk;obtain⟨c,hcx⟩:=I.ok.has y.1 hk;rw[hcx];rfl
def Ml(N:OP)(fr:Pf)(hc:X.calm=true)(hok:pX X scope N fr=true)(hi:PI X tg jD wi)(hg:∀fp pn s H L,PG (qO X scope N fp pn s H L) tg g)(ht:∀fp pn s H L,ϵ (qO X scope N fp pn s H L) ifs tc)(he:∀fp pn s H L,PE (qO X scope N fp pn s H L) elt te)(hs:∀x,foldedSetIterable jD X.env x=pure x:=by intro _;rfl):PE X (.ListComp elt [⟨tg,jD,ifs,0⟩] scope pos) (tLC wi g tc te fr):=by
 intro Sa s Y H Q I h;obtain⟨k1,k3,hcl⟩:=lX hok I;rw[eval_ListComp];refine a2i (use:=none) rfl hs hcl k1 k3 (Sk (hi Sa s Y H _ I h) λv s1 h1=>Sk h1 λitv s2 h2=>?_);obtain⟨it,fp,tn,J,H2,e,I2,T,st2,f2,hr⟩:=h2;subst e;refine lV (Q:=Q) (RR:=λacc C=>compPost (Rk X) X.A X.xe none (EP X Sa Y Q) acc C) hc hok I2 T st2 f2 hg ht he hr λacc C m s' H' I' hn h1 h2 h3 h4 h5 q=>?_;exact⟨m,hn,λh' sb=>⟨.ref acc,H',I'.turned (t':=s'.toks) (λb o hb e=>(sb.2 b hb).trans e) h2 h3 (.inr h1) h4 h5,rfl,q⟩⟩
def DC(N:OP)(fr:Pf)(hN:X.N.Nodup)(hy:X.N[i]?=some y)(hl:X.env.scope.names.lookup y=some .local)(hc:X.calm=true)(hok:pX X scope N fr=true)(hi:PI X tg jD wi)(hg:∀fp pn s H L,PG (qO X scope N fp pn s H L) tg g)(ht:∀fp pn s H L,ϵ (qO X scope N fp pn s H L) ifs tc)(he:∀fp pn s H L,PE (qO X scope N fp pn s H L) elt te)(hsw:swapsWith (.ListComp elt [⟨tg,jD,ifs,0⟩] scope pos) (some (.Name y py)) ny.line X.env=pure true:=by rfl)(hs:∀x,foldedSetIterable jD X.env x=pure x:=by intro _;rfl):PS X (.Assign [.Name y py] (.ListComp elt [⟨tg,jD,ifs,0⟩] scope pos) ny) (Fq (tLC wi g tc te fr) (g7 i)):=by
 intro Sa s Y H D I h;obtain⟨k1,k3,hcl⟩:=lX hok I;rw[exec_Assign_Name_used _ _ _ _ hsw];refine f8 (a1A (f8 ?_));show wpAny _ X.A (do let _<-comprehension (.ListComp elt [⟨tg,jD,ifs,0⟩] scope pos) scope X.env _ (newList []) false (eval jD X.env) (some (assign (.Name y py) X.env))) _ _ s;refine f8 (Tg (a2i (use:=some (assign (.Name y py) X.env)) (Q:=λ_ s'=>SP X Sa D .next s') rfl hs hcl k1 k3
  (Sk (hi Sa s Y H _ I h) λv s1 h1=>Sk h1 λitv s2 h2=>?_)) (λ_ s' hq=>O5 (O5 hq)) λ_ _ z=>z)
 obtain⟨it,fp,tn,J,H2,e,I2,T,st2,f2,hr⟩:=h2;subst e;refine lV (Q:=λv H1=>g7 i v Y H1 D.nx) (RR:=λacc C=>compPost (Rk X) X.A X.xe (some (assign (.Name y py) X.env)) (λ_ s'=>SP X Sa D .next s') acc C) hc hok I2 T st2 f2 hg ht he hr λacc C m s' H' I' hn h1 h2 h3 h4 h5 q=>?_;show wpAny _ X.A (assign (.Name y py) X.env (.ref acc)) _ _ _;refine wpAny_assign_Name (d9 (v:=.ref acc) I' hN hy (.inl hl) rfl (λs'' I'' ⟨a,sb,ha⟩=>?_) (.inr hl));have nea:C≠a:=λz=>by
  rcases ha with e|e
  .exact h3 (z.trans e)
  .exact h4 y a e z.symm
 obtain⟨o,es,ep,ho,rr⟩:=id hn;refine⟨m,⟨o,es,ep,(sb.2 C nea).trans ho,rr⟩,λh' sb'=>⟨_,H',I''.turned (t':=s''.toks) (λb o hb e=>(sb'.2 b hb).trans e) h2 h3 (.inr h1) h4 h5,q⟩⟩
section
variable {X:Cx}
def Ot:V->Option Int->Option Int->Hp->VK->Prop:=λx lo hi H Q=>∃z,x=.str z/\z.length<=sizeLine/\Q (.str (Txt.slice z lo hi)) H
def Gn:ϛ X Ot:=by
 intro Sa s Y H x v vl vu lo hi sl Q I rx hs pl pu h;obtain⟨z,rfl,hz,q⟩:=h;obtain⟨t,rfl⟩:=rx;have part:∀{a:Value}{o:Pz},IsPart a o->∃p:Option (Int×Tok),a=partValue p/\p.map (·.1)=o:=by
  intro a o h;cases h
  .exact⟨none,rfl,rfl⟩
  .exact⟨some (_,_),rfl,rfl⟩
 obtain⟨p1,rfl,rfl⟩:=part pl;obtain⟨p2,rfl,rfl⟩:=part pu;refine⟨"str",_,F.slot_str_getitem.lookup,typeIs_str _ _ _,wpAny_getItem_str_slice (l:=p1) (u:=p2) (st:=none) ?_ rfl ?_⟩
 .exact hs
 .exact post_val_or_str ⟨S6 (Txt.slice_le z _ _) hz,λt' k=>⟨.str _,H,I.tok _,⟨t',rfl⟩,q⟩⟩
end
def Its(x:Str):It:=⟨λi _=>i<x.cps.size,λi H v H'=>H'=H/\∃c,x.cps[i]?=some c/\v=.str ⟨#[c]⟩,λi _=>x.cps.size<=i⟩
def DD(it:Addr)(x:Str)(i:Nat)(h:Heap):Prop:=∃t,h.IsStrIter it "str_ascii_iterator" x t i\/h.IsStrIter it "str_iterator" x t i
def xJ{P:Pg}{w:Pk}{K:Pw}{y:Str}{py:Pos}(it:Addr)(x:Str):Turn P w K (.Name y py) (Its x) [it] it (λi h=>i<=x.cps.size/\DD it x i h)where
 mem:=by simp
 obj:=λi h st b hb=>by
  obtain rfl:b=it:=by simpa using hb
  obtain⟨_,t,⟨o,e,_,d⟩|⟨o,e,_,d⟩⟩:=st<;>exact⟨o,e,λv z=>by rw[d]at z;cases z⟩
 keep:=λi h h' st k=>by
  obtain⟨hi,t,⟨o,e,r⟩|⟨o,e,r⟩⟩:=st
  .exact⟨hi,t,.inl ⟨o,k it (by simp) o e,r⟩⟩
  .exact⟨hi,t,.inr ⟨o,k it (by simp) o e,r⟩⟩
 item:=by
  intro X hP hw hK hc i Sa s Y H E I hf st hg;subst hP hw hK;have hg':i<x.cps.size:=hg;have hx:x.cps[i]?=some x.cps[i]:=Array.getElem?_eq_getElem hg';obtain⟨f0,f1,f2,f3,f4,f5⟩:=hf it (by simp);obtain⟨_,t,st|st⟩:=st
  .refine wpAny_pyNext_ascii_item st hx λh' st' sb=>⟨_,rfl,O5 ⟨.str ⟨#[x.cps[i]]⟩,H,I.turned (t':=s.toks+1) (λb o hb e=>(sb.2 b hb).trans e) f0 f1 f3 f4 f5,⟨_,rfl⟩,⟨rfl,_,hx,rfl⟩,⟨hg',t,.inl st'⟩,λb hb=>(hf b hb).1⟩⟩
  .refine wpAny_pyNext_wide_item st hx λh' st' sb=>⟨_,rfl,O5 ⟨.str ⟨#[x.cps[i]]⟩,H,I.turned (t':=s.toks+1) (λb o hb e=>(sb.2 b hb).trans e) f0 f1 f3 f4 f5,⟨_,rfl⟩,⟨rfl,_,hx,rfl⟩,⟨hg',t,.inr st'⟩,λb hb=>(hf b hb).1⟩⟩
 done:=by
  intro X hP hw hK hc i Sa s Y H E I hf st hg;subst hP hw hK;have hg':x.cps.size<=i:=hg;have hx:x.cps[i]?=none:=a2H hg';obtain⟨f0,f1,f2,f3,f4,f5⟩:=hf it (by simp);obtain⟨_,t,st|st⟩:=st
  .exact wpAny_pyNext_ascii_end (I.ok.hd hc) st hx λh' eb=>⟨rfl,I.turned (t':=s.toks) (λb o hb e=>eb b o hb e) f0 f1 f3 f4 f5⟩
  .exact wpAny_pyNext_wide_end (I.ok.hd hc) st hx λh' eb=>⟨rfl,I.turned (t':=s.toks) (λb o hb e=>eb b o hb e) f0 f1 f3 f4 f5⟩
 self:=λ_ _ _ _ _ st h=>by
  obtain⟨_,t,st|st⟩:=st
  .exact wpAny_pyIter_striter_ascii st h
  .exact wpAny_pyIter_striter_wide st h
def Ou(tl:TE):TI:=λY H R=>tl Y H λx H1=>∃z,x=.str z/\R (Its z) H1
def Gp(hl:PE X l tl):PI X (.Name y py) l (Ou tl):=by
 intro Sa s Y H R I h;refine Sk (hl Sa s Y H _ I h) λv s1 ⟨x,H1,I1,r1,z,e,q⟩=>?_;subst e;obtain⟨t,rfl⟩:=r1;have fin:∀o:Obj,(∀h,h.get? s1.heap.objs.size=some o->DD s1.heap.objs.size z 0 h)->PIE X Sa Y (.Name y py) R (.ref s1.heap.objs.size) { s1 with heap:=s1.heap.push o }->PIE X Sa Y (.Name y py) R (.ref s1.heap.objs.size) { s1 with heap:=s1.heap.push o }:=λ_ _ h=>h;have mk:∀o:Obj,o.isFreed=false->(∀h:Heap,h.get? s1.heap.objs.size=some o->DD s1.heap.objs.size z 0 h)->PIE X Sa Y (.Name y py) R (.ref s1.heap.objs.size) { s1 with heap:=s1.heap.push o }:=λo hf ho=>by
  have I2:Inv X Sa Y H1 { s1 with heap:=s1.heap.push o }:=I1.kept (t':=s1.toks) λb u e=>O3 _ e;refine⟨s1.heap.objs.size,[s1.heap.objs.size],_,Its z,H1,rfl,I2,xJ _ z,⟨Tx _,ho _ (S5 _ hf)⟩,λb hb=>?_,q⟩;obtain rfl:b=s1.heap.objs.size:=by simpa using hb
  exact I1.Fs (O2 _) (I1.hok.fresh (O2 _))
 cases ha:z.cps.all (·<128)
 .exact wpAny_pyIter_wide ha (mk _ rfl λh e=>⟨t,.inr ⟨_,e,rfl,rfl⟩⟩)
 .exact wpAny_pyIter_ascii ha (mk _ rfl λh e=>⟨t,.inl ⟨_,e,rfl,rfl⟩⟩)
section
variable {X:Cx}
end
section
variable {C:Addr}{f g:Str}{E':XK}{Y:St}{H:Hp}{v u:V}{te tu:TE}{Q:VK}
end
section
variable {K:Pw}{C e:Addr}{f:Str}{Y:St}{H:Hp}{v:V}{te:TE}{Q:VK}{fs:Pp}
end
section
variable {te:TE}{fr:Pf}{Y:St}{H:Hp}{Q:VK}{r:St}
end
abbrev TJ:=St->Hp->Str->(Str->Hp->Prop)->Prop
section
variable {X:Cx}{e:Pc}{es:OX}{t:TE}{tj:TJ}{pos:Pos}
end
section
variable {X:Cx}
def Gq:R2:=λx y H Q=>∃z i,x=.str z/\y=.int i/\z.length<=16/\-2 ^ 63<=i/\i<=1048576/\Q (.str (Txt.mul z i)) H
def nW:Sx X (binaryOp .Mult) Gq:=by intro Sa s Y H x y v u Q I rx ry h;obtain⟨z,i,rfl,rfl,hz,h1,h2,q⟩:=h;obtain⟨t,rfl⟩:=rx;obtain⟨t',rfl⟩:=ry;exact PySem.W.KXi.mul rfl hz h1 h2 λt' k _ _=>⟨.str _,H,I.tok _,⟨_,rfl⟩,q⟩
end
section
variable {X:Cx}{e o c:Pc}{st:PB}{rest a b:Pt}{t u:TS}{te to:TE}{tc:TT}{pos:Pos}
end
section
variable {X:Cx}
def Gr(i j:Int):Prop:=j≠0/\j.natAbs<2 ^ 8192
def xK:Sx X (binaryOp .FloorDiv) (rI Gr λi j=>.int (i.fdiv j)):=ϟ λ_ j _ _ _ _ _ hc q=>floordiv_int hc.1 q (.inl (PyProof.noPylong_of_log2 (by
 have h1:j.natAbs≠0:=by have:=hc.1;omega
 have:=(Nat.log2_lt h1).mpr hc.2;omega)))
def pY:∀{ns:Pn}{us:OZ},Vals (ns.map V.int) us->∃ts:List (Int×Tok),us=ts.map (λz=>Value.int z.1 z.2)/\ts.map Prod.fst=ns
 |[],_,.nil=>⟨[],rfl,rfl⟩
 |n::ns,_,.cons ⟨t,e⟩ r=>by subst e;obtain⟨ts,rfl,rfl⟩:=pY r;exact⟨(n,t)::ts,rfl,rfl⟩
def Gs(K:Pw):List V->Hp->VK->Prop:=λvs H Q=>∃(p:Addr)(ns:Pn),vs=[.ref p]/\Sq K H p (ns.map V.int)/\ns≠[]/\∀M,M∈ns->(∀a∈ns,a<=M)->Q (.int M) H
def pZ(hc:X.calm=true):ZV X (.builtin "max") (Gs X.K):=by
 intro Sa s Y H xs us Q I r h;obtain⟨p,ns,rfl,hS,hne,q⟩:=h;obtain⟨u,rfl,ru⟩:=vals1 r;cases ru;obtain⟨Sf,rv,pl,_⟩:=I.list hS;obtain⟨ts,rfl,rfl⟩:=pY rv;have e:(ts.map λz=>Value.int z.1 z.2).toArray=intItems ts.toArray:=by unfold intItems;simp
 have hsz:0<ts.toArray.size:=by
  rw[P0];cases ts with
  |nil=>exact absurd rfl hne
  |cons a r=>simp
 refine max_intList (xs:=ts.toArray) (I.ok.hd hc) (by rw[<- e];exact pl.isList) hsz λv h' tk hv hk=>?_;obtain⟨t,rfl⟩:=intItems_at hv;obtain⟨h1,h2⟩:=argBest_gt (numAt ts.toArray) (ts.toArray.size-1);refine⟨.int _,H,I.kept (t':=tk) hk,⟨t,rfl⟩,q _ ?_ λa ha=>?_⟩
 .rw[numAt_eq];exact getD_mem (by rw[u8];rw[P0]at *;omega)
 .obtain⟨j,hj,rfl⟩:=mem_getD ha;rw[u8]at hj;have:=h2 j (by rw[P0];omega);rw[numAt_eq]at this;exact this
end
section
variable {P:Pg}{w:Pk}{K:OY}{mg:OQ}{base:Heap}
end
section
variable {X:Cx}{k:Nat}{f:Addr}{fd:Pl}{ps:OP}{sp:Sp}{x:Str}{p pos:Pos}{e:Pc}{es:OX}{t:TA}
end
section
variable {X:Cx}{tg:Pc}
end
section
variable {K:Pw}{H:Hp}{Q:VK}
end
section
variable {X:Cx}
end
section
variable {X:Cx}{C:Addr}{x:Str}{p pos:Pos}
end
def Fu(P:Pg)(w:Pk)(K:Pw)(mg:OQ)(base:Heap)(A:Po)(m:Str)(C:Addr)(sp:Sp):Prop:=
 ∃k f fd ps,TL K C/\Meth K C m f/\yW P w K mg base (Sj P w) k f fd ps sp/\vf k A/\Binds K fd ps []
def BS(alts:Addr->Sp->Prop)(m:Str)(E:XK)(ta:TE)(t:TA):TE:=λY H Q=>ta Y H λx H1=>∃a dx fs C sp,alts C sp/\x=.ref a/\H1 a=some (.ins C dx fs)/\fs.lookup m=none/\t Y H1 λvs H2=>sp (x::vs) H2 Q E
def xM(he:PE X o ta)(hal:∀C sp,alts C sp->Fu X.prog X.w X.K X.mg X.base X.A m C sp)(hx:Passes (Sj X.prog X.w) X E)(ha:PA X (e::es) t)(hst:starEach (e::es) X.env=(false,eval e X.env)::starEach es X.env:=by rfl)(hpl:(backTo pos (starEach es X.env)).any (·.1)=false:=by rfl)(ht:eval (.Call (.Attribute o m jW) (e::es) [] pos) X.env=(do
   let ov<-eval o X.env
   standAt jW.atName
   let(f,first)<-holding [ov] (getMethod ov m pl)
   callWith pos f first (backTo pos (starEach (e::es) X.env)) (backToKw pos (keywordEach [] X.env))):=by rfl):
  PE X (.Call (.Attribute o m jW) (e::es) [] pos) (BS alts m E ta t):=by
 intro Sa s Y H Q I h;refine a2K (pl:=pl) (Sk (he Sa s Y H _ I h) λu s1 ⟨x,H1,I1,rx,a,dx,fs,C,sp,hin,ex,ea,l,q⟩=>?_) ht;obtain⟨k,f,fd,ps,c,hm,F,hr,hb⟩:=hal C sp hin;subst ex;obtain rfl:u=Value.ref a:=rx;refine bM I1 ea c hm l ?_;refine a07 (first:=[.ref a]) (h₀:=X.base) I.ok.mod.kin hm.kp (Sk (ha pos Sa s1 Y H1 _ I1 q) λus s2 ⟨vs,H2,I2,r,q2⟩=>⟨I2.kIn,?_⟩) hst hpl;exact pD (us:=.ref a::us) (vs:=.ref a::vs) (dvs:=[]) F hr hb .nil hx I2 (.cons rfl r) (by rwa [P7])
def p5(he:PE X o ta)(hal:∀C sp,alts C sp->Fu X.prog X.w X.K X.mg X.base X.A m C sp)(hx:Passes (Sj X.prog X.w) X E)(ht:eval (.Call (.Attribute o m jW) [] [] pos) X.env=(do
   let ov<-eval o X.env
   standAt jW.atName
   let(f,first)<-holding [ov] (getMethod ov m pl)
   callWith pos f first (backTo pos (starEach [] X.env)) (backToKw pos (keywordEach [] X.env))):=by rfl):
  PE X (.Call (.Attribute o m jW) [] [] pos) (BS alts m E ta LV):=by
 intro Sa s Y H Q I h;refine a2K (pl:=pl) (Sk (he Sa s Y H _ I h) λu s1 ⟨x,H1,I1,rx,a,dx,fs,C,sp,hin,ex,ea,l,q⟩=>?_) ht;obtain⟨k,f,fd,ps,c,hm,F,hr,hb⟩:=hal C sp hin;subst ex;obtain rfl:u=Value.ref a:=rx;refine bM I1 ea c hm l ?_;exact PySem.W.callWith_K0 (first:=[.ref a]) I1.kIn hm.kp (pD (us:=[.ref a]) (vs:=[.ref a]) (dvs:=[]) F hr hb .nil hx I1 (.cons rfl .nil) q)
def lY{A:Po}{xs ys:Pa}{us ws:OZ}{e:Nat->Bool}(r1:Vals xs us)(r2:Vals ys ws)(he:∀j x y u v,xs[j]?=some x->ys[j]?=some y->RelV x u->RelV y v->SeqAt.EqAt A s u v (e j)):
  ∀j (h1:j<us.toArray.size) (h2:j<ws.toArray.size),SeqAt.EqAt A s us.toArray[j] ws.toArray[j] (e j):=by
 intro j h1 h2;rw[P0]at h1 h2;have l1:j<xs.length:=by rw[r1.length];exact h1
 have l2:j<ys.length:=by rw[r2.length];exact h2
 have e1:xs[j]?=some xs[j]:=P1 l1;have e2:ys[j]?=some ys[j]:=P1 l2;obtain⟨u,hu,ru⟩:=r1.get e1;obtain⟨w,hw,rw'⟩:=r2.get e2;have eu:us.toArray[j]=u:=by have:=P1 h1;rw[hu]at this;simpa using(ν this).symm
 have ew:ws.toArray[j]=w:=by have:=P1 h2;rw[hw]at this;simpa using(ν this).symm
 rw[eu,ew];exact he j _ _ _ _ e1 e2 ru rw'
section
variable {X:Cx}
end
section
variable {H:Hp}{Q:VK}{i j:Int}
end
def zH.none(s:zH H H')(h:H' q=Option.none):H q=Option.none:=by
 cases e:H q with
 |none=>rfl
 |some o=>rw[s _ _ e]at h;cases h
inductive PV where
 |i (n:Int)|s (x:Str)|b (c:Bool)|n
 |l (xs:List PV)|t (xs:List PV)|d (kvs:List (Key×PV))|o (c:Nat) (fs:List (Str×PV))|x (c:Nat) (fs:List (Str×PV))|sc (ns:Pn)|dt (kvs:PR)
abbrev Pe:=List PV
abbrev Ph:=(List (Key×PV))
abbrev Pj:=(List (Str×PV))
abbrev Pu:=Option PV
abbrev PN:=(PV->PV->Option Bool)
abbrev PZ:=List (Option PV)
def μ(kvs:PR):List (List Key×V):=kvs.map λq=>(q.1,V.int q.2)
inductive Out(α:Type)where
 |ok (a:α)|exc (c:Nat) (fs:Pj)|wall
abbrev Pd:=(List PV->Out PV)
abbrev Ra:=(PV->PV->Out PV)
def Out.bind{α β:Type}:Out α->(α->Out β)->Out β
 |.ok a,f=>f a
 |.exc c fs,_=>.exc c fs
 |.wall,_=>.wall
structure RC where
 K:Frag
 cls:Nat->Addr
def KL(K:Pw)(a:Addr)(xs:Pa):Prop:=∃(o:Obj)(Sf:PQ)(n:Nat),K.lookup a=some o/\o.cls=.type "list"/\o.dict=none/\o.data=.seq Sf n/\Sf.size<=sizeLine/\Vals xs Sf.toList
def il(K:Pw)(N:OU)(H:Hp)(p:Addr)(vs:Pa):Prop:=(N p/\Rd H p (.lst vs))\/KL K p vs
def il.sq{K:Pw}{N:OU}{H:Hp}{p:Addr}{vs:Pa}(h:il K N H p vs):Sq K H p vs:=h.elim (λz=>.inl z.2) .inr
mutual
def Rep(W:RC)(M:OU)(H:Hp):PV->V->Prop
 |.i n,v=>v=.int n
 |.s x,v=>v=.str x
 |.b c,v=>v=.bl c
 |.n,v=>v=.non
 |.l xs,v=>∃p vs,v=.ref p/\M p/\H p=some (.lst vs)/\yq W M H xs vs
 |.t xs,v=>∃p vs,v=.ref p/\SN W.K H p vs/\yq W M H xs vs
 |.d kvs,v=>∃p es,v=.ref p/\M p/\Rd H p (.dK es)/\jX W M H kvs es
 |.sc ns,v=>∃p,v=.ref p/\il W.K M H p (ns.map V.int)
 |.dt kvs,v=>∃p,v=.ref p/\M p/\Rd H p (.dT (μ kvs))
 |.o c fs,v=>∃p dx es,v=.ref p/\M p/\H p=some (.ins (W.cls c) dx es)/\vg W M H fs es
 |.x c fs,v=>∃p dx es,v=.ref p/\H p=some (XC p (W.cls c) dx)/\H dx=some (XD dx es)/\vg W M H fs es
def yq(W:RC)(M:OU)(H:Hp):List PV->List V->Prop
 |[],vs=>vs=[]
 |x::xs,vs=>∃v r,vs=v::r/\Rep W M H x v/\yq W M H xs r
def jX(W:RC)(M:OU)(H:Hp):List (Key×PV)->List (Key×V)->Prop
 |[],es=>es=[]
 |kx::r,es=>∃v q,es=(kx.1,v)::q/\Rep W M H kx.2 v/\jX W M H r q
def vg(W:RC)(M:OU)(H:Hp):List (Str×PV)->List (Str×V)->Prop
 |[],es=>es=[]
 |kx::r,es=>∃v q,es=(kx.1,v)::q/\Rep W M H kx.2 v/\vg W M H r q
end
def Ρ:HO->Prop
 |.lst _=>False | .dK _=>False | .dT _=>False | .set _ _=>False | .ins _ _ _=>False
 |_=>True
def Fr(M:OU)(H H':Hp):Prop:=∀a o,H a=some o->(M a\/Ρ o)->H' a=some o
def Fr.rd(f:Fr M H H')(h:Rd H p u)(m:M p):Rd H' p u:=
 h.elim (λz=>.inl (f _ _ z (.inl m))) λ⟨o,z⟩=>.inr ⟨o,f _ _ z (.inl m)⟩
def Fr.sqT{M:OU}{K:Pw}{H H':Hp}(f:Fr M H H'){p:Addr}{u:Pa}(h:SN K H p u):SN K H' p u:=
 h.elim (λh=>.inl (h.elim (λz=>.inl (f _ _ z (.inr trivial))) λ⟨o,z⟩=>.inr ⟨o,f _ _ z (.inr trivial)⟩)) .inr
def il.frame{K:Pw}{N:OU}{H H':Hp}(f:Fr N H H'){p:Addr}{vs:Pa}(h:il K N H p vs):il K N H' p vs:=h.elim (λz=>.inl ⟨z.1,f.rd z.2 z.1⟩) .inr
def jE(h:Rd H p u):H p≠none:=by rcases h with z|⟨_,z⟩<;>rw[z]<;>intro e<;>cases e
section
variable {W:RC}{M M':OU}{H H':Hp}
mutual
def Rep.gen(f:Fr M H H')(s:∀a,M a->H a≠none->M' a):∀{x:PV}{v:V},Rep W M H x v->Rep W M' H' x v
 |.i n,v,h=>h
 |.s x,v,h=>h
 |.b c,v,h=>h
 |.n,v,h=>h
 |.l xs,v,h=>by unfold Rep at h ⊢;obtain⟨p,vs,e,m,r,q⟩:=h;exact⟨p,vs,e,s p m (by rw[r];intro e;cases e),f _ _ r (.inl m),yq.gen f s q⟩
 |.sc ns,v,h=>by unfold Rep at h ⊢;obtain⟨p,e,r⟩:=h;exact⟨p,e,r.elim (λz=>.inl ⟨s p z.1 (by rcases z.2 with z|⟨_,z⟩<;>rw[z]<;>intro e<;>cases e),f.rd z.2 z.1⟩) .inr⟩
 |.dt kvs,v,h=>by unfold Rep at h ⊢;obtain⟨p,e,m,r⟩:=h;exact⟨p,e,s p m (jE r),f.rd r m⟩
 |.t xs,v,h=>by unfold Rep at h ⊢;obtain⟨p,vs,e,r,q⟩:=h;exact⟨p,vs,e,f.sqT r,yq.gen f s q⟩
 |.d kvs,v,h=>by unfold Rep at h ⊢;obtain⟨p,vs,e,m,r,q⟩:=h;exact⟨p,vs,e,s p m (jE r),f.rd r m,jX.gen f s q⟩
 |.o c fs,v,h=>by unfold Rep at h ⊢;obtain⟨p,dx,es,e,m,r,q⟩:=h;exact⟨p,dx,es,e,s p m (by rw[r];intro e;cases e),f _ _ r (.inl m),vg.gen f s q⟩
 |.x c fs,v,h=>by unfold Rep at h ⊢;obtain⟨p,dx,es,e,r,r2,q⟩:=h;exact⟨p,dx,es,e,f _ _ r (.inr trivial),f _ _ r2 (.inr trivial),vg.gen f s q⟩
def yq.gen(f:Fr M H H')(s:∀a,M a->H a≠none->M' a):∀{x:Pe}{v:Pa},yq W M H x v->yq W M' H' x v
 |[],v,h=>h
 |x::xs,vs,h=>by unfold yq at h ⊢;obtain⟨v,r,e,h1,h2⟩:=h;exact⟨v,r,e,Rep.gen f s h1,yq.gen f s h2⟩
def jX.gen(f:Fr M H H')(s:∀a,M a->H a≠none->M' a):∀{x:Ph}{v:Pb},jX W M H x v->jX W M' H' x v
 |[],v,h=>h
 | (k,x)::xs,vs,h=>by unfold jX at h ⊢;obtain⟨v,r,e,h1,h2⟩:=h;exact⟨v,r,e,Rep.gen f s h1,jX.gen f s h2⟩
def vg.gen(f:Fr M H H')(s:∀a,M a->H a≠none->M' a):∀{x:Pj}{v:Pp},vg W M H x v->vg W M' H' x v
 |[],v,h=>h
 | (k,x)::xs,vs,h=>by unfold vg at h ⊢;obtain⟨v,r,e,h1,h2⟩:=h;exact⟨v,r,e,Rep.gen f s h1,vg.gen f s h2⟩
end
end
def Fr.refl:Fr M H H:=λ_ _ h _=>h
def zH.fr(s:zH H H'):Fr M H H':=λa o h _=>s a o h
def Rep.same(h:Rep W M H x v)(s:zH H H'):Rep W M H' x v:=Rep.gen s.fr (λ_ m _=>m) h
def yq.same(h:yq W M H x v)(s:zH H H'):yq W M H' x v:=yq.gen s.fr (λ_ m _=>m) h
def jX.same(h:jX W M H x v)(s:zH H H'):jX W M H' x v:=jX.gen s.fr (λ_ m _=>m) h
def Rep.sub(h:Rep W M H x v)(s:∀a,M a->H a≠none->M' a):Rep W M' H x v:=Rep.gen Fr.refl s h
def yq.sub(h:yq W M H x v)(s:∀a,M a->H a≠none->M' a):yq W M' H x v:=yq.gen Fr.refl s h
def jX.sub(h:jX W M H x v)(s:∀a,M a->H a≠none->M' a):jX W M' H x v:=jX.gen Fr.refl s h
def vg.sub(h:vg W M H x v)(s:∀a,M a->H a≠none->M' a):vg W M' H x v:=vg.gen Fr.refl s h
def yZ(W:RC)(N M:OU)(H:Hp):PV->V->Prop
 |.l xs,v=>∃p vs,v=.ref p/\N p/\H p=some (.lst vs)/\yq W M H xs vs
 |.d kvs,v=>∃p es,v=.ref p/\N p/\Rd H p (.dK es)/\jX W M H kvs es
 |.sc ns,v=>∃p,v=.ref p/\il W.K N H p (ns.map V.int)
 |.dt kvs,v=>∃p,v=.ref p/\N p/\Rd H p (.dT (μ kvs))
 |.o c fs,v=>∃p dx es,v=.ref p/\N p/\H p=some (.ins (W.cls c) dx es)/\vg W M H fs es
 |x,v=>Rep W M H x v
def yZ.iff:yZ W M M H x v↔Rep W M H x v:=by cases x<;>simp only[yZ,Rep]
def yZ.gen{W:RC}{N M N' M':OU}{H H':Hp}{x:PV}{v:V}(fN:Fr N H H')(f:Fr M H H')(sN:∀a,N a->H a≠none->N' a)(s:∀a,M a->H a≠none->M' a)(h:yZ W N M H x v):yZ W N' M' H' x v:=by
 cases x with
 |l xs=>obtain⟨p,vs,e,m,r,q⟩:=h;exact⟨p,vs,e,sN p m (by rw[r];intro e;cases e),fN _ _ r (.inl m),q.gen f s⟩
 |d kvs=>obtain⟨p,es,e,m,r,q⟩:=h;exact⟨p,es,e,sN p m (jE r),fN.rd r m,q.gen f s⟩
 |sc ns=>obtain⟨p,e,r⟩:=h;exact⟨p,e,r.elim (λz=>.inl ⟨sN p z.1 (jE z.2),fN.rd z.2 z.1⟩) .inr⟩
 |dt kvs=>obtain⟨p,e,m,r⟩:=h;exact⟨p,e,sN p m (jE r),fN.rd r m⟩
 |o c fs=>obtain⟨p,dx,es,e,m,r,q⟩:=h;exact⟨p,dx,es,e,sN p m (by rw[r];intro e;cases e),fN _ _ r (.inl m),q.gen f s⟩
 |i n=>exact Rep.gen f s h
 |s n=>exact Rep.gen f s h
 |b n=>exact Rep.gen f s h
 |n=>exact Rep.gen f s h
 |t n=>exact Rep.gen f s h
 |x c n=>exact Rep.gen f s h
def yZ.same(h:yZ W N M H x v)(s:zH H H'):yZ W N M H' x v:=yZ.gen s.fr s.fr (λ_ m _=>m) (λ_ m _=>m) h
def yZ.sub(h:yZ W N M H x v)(sN:∀a,N a->H a≠none->N' a)(s:∀a,M a->H a≠none->M' a):yZ W N' M' H x v:=yZ.gen Fr.refl Fr.refl sN s h
def Rep.weak(h:Rep W M H x v):yZ W (λ_=>True) M H x v:=yZ.sub (yZ.iff.mpr h) (λ_ _ _=>trivial) (λ_ m _=>m)
def cJ(W:RC)(M:OU)(H:Hp)(p:Addr):PV->Prop
 |.l xs=>∃vs,H p=some (.lst vs)/\yq W M H xs vs
 |.d kvs=>∃es,H p=some (.dK es)/\jX W M H kvs es
 |.dt kvs=>H p=some (.dT (μ kvs))
 |.o c fs=>∃dx es,H p=some (.ins (W.cls c) dx es)/\vg W M H fs es
 |_=>False
def cJ.Mm(h:cJ W M H p x)(n:N p):yZ W N M H x (.ref p):=by
 cases x with
 |l xs=>obtain⟨vs,e,q⟩:=h;exact⟨p,vs,rfl,n,e,q⟩
 |d kvs=>obtain⟨es,e,q⟩:=h;exact⟨p,es,rfl,n,.inl e,q⟩
 |dt kvs=>exact⟨p,rfl,n,.inl h⟩
 |o c fs=>obtain⟨dx,es,e,q⟩:=h;exact⟨p,dx,es,rfl,n,e,q⟩
 |i n=>exact h.elim
 |s n=>exact h.elim
 |b n=>exact h.elim
 |n=>exact h.elim
 |t n=>exact h.elim
 |x c n=>exact h.elim
 |sc n=>exact h.elim
def cJ.gen(h:cJ W M H p x)(hp:H' p=H p)(f:Fr M H H')(s:∀a,M a->H a≠none->M' a):cJ W M' H' p x:=by
 cases x with
 |l xs=>obtain⟨vs,e,q⟩:=h;exact⟨vs,hp.trans e,q.gen f s⟩
 |d kvs=>obtain⟨es,e,q⟩:=h;exact⟨es,hp.trans e,q.gen f s⟩
 |dt kvs=>exact hp.trans h
 |o c fs=>obtain⟨dx,es,e,q⟩:=h;exact⟨dx,es,hp.trans e,q.gen f s⟩
 |i n=>exact h.elim
 |s n=>exact h.elim
 |b n=>exact h.elim
 |n=>exact h.elim
 |t n=>exact h.elim
 |x c n=>exact h.elim
 |sc n=>exact h.elim
def cJ.some{W:RC}{M:OU}{H:Hp}{p:Addr}{x:PV}(h:cJ W M H p x):∃o,H p=some o/\¬Ρ o:=by
 cases x with
 |l xs=>obtain⟨vs,e,q⟩:=h;exact⟨_,e,id⟩
 |d kvs=>obtain⟨es,e,q⟩:=h;exact⟨_,e,id⟩
 |dt kvs=>exact⟨_,h,id⟩
 |o c fs=>obtain⟨dx,es,e,q⟩:=h;exact⟨_,e,id⟩
 |i n=>exact h.elim
 |s n=>exact h.elim
 |b n=>exact h.elim
 |n=>exact h.elim
 |t n=>exact h.elim
 |x c n=>exact h.elim
 |sc n=>exact h.elim
def cJ.same(h:cJ W M H p x)(s:zH H H'):cJ W M H' p x:=by obtain⟨o,e,_⟩:=h.some;exact h.gen ((s _ _ e).trans e.symm) s.fr λ_ m _=>m
structure Bs where
 H0:Hp
 M0:Addr->Prop
 N0:Addr->Prop
 nz:∀a,N0 a->H0 a≠none
 pin:Option Addr
 xc:Addr->Prop
structure LC where
 W:RC
 E:XK
 fr:Bool
abbrev So:=List (Option PV)
def Bs.Mt(B:Bs):Addr->Prop:=λa=>B.M0 a\/B.H0 a=none
def Sl(B:Bs)(S:OS)(P:O_):Addr->Prop:=λa=>(B.Mt a/\¬B.xc a)/\∀i,S[i]?=some 2->P i≠a
structure Rel(W:RC)(B:Bs)(S:OS)(P:O_)(H:Hp)(Y:St)(U:So):Prop where
 same:zH B.H0 H
 len:Y.length=U.length
 var:∀(i:Nat) x,U[i]?=some (some x)->∃v,Y[i]?=some (some v)/\(S[i]?=some 2->v=.ref (P i)/\cJ W (Sl B S P) H (P i) x)/\(S[i]?=some 1->yZ W B.N0 (Sl B S P) H x v)/\(S[i]?≠some 2->S[i]?≠some 1->Rep W (Sl B S P) H x v)
 act:∀i,S[i]?=some 2->B.H0 (P i)=none/\∃o,H (P i)=some o/\¬Ρ o
 inj:∀i j,S[i]?=some 2->S[j]?=some 2->P i=P j->i=j
 pin:S[0]?=some 2->∀p,B.pin=some p->P 0=p
 exc:∀a,B.xc a->∃o,H a=some o/\¬Ρ o/\B.H0 a=none
 axc:∀i,S[i]?=some 2->¬B.xc (P i)
def Rel.keep{W:RC}{B:Bs}{S:OS}{P:O_}{H H':Hp}{Y:St}{U:So}(R:Rel W B S P H Y U)(s:zH H H'):Rel W B S P H' Y U where
 same:=R.same.trans s
 len:=R.len
 var:=λi x e=>by obtain⟨v,h1,h2,h3,h4⟩:=R.var i x e;exact⟨v,h1,λz=>⟨(h2 z).1,(h2 z).2.same s⟩,λz=>(h3 z).same s,λz z'=>(h4 z z').same s⟩
 act:=λi h=>⟨(R.act i h).1,let⟨o,e,n⟩:=(R.act i h).2;⟨o,s _ _ e,n⟩⟩
 inj:=R.inj
 pin:=R.pin
 exc:=λa h=>let⟨o,e,n⟩:=R.exc a h;⟨o,s _ _ e,n⟩
 axc:=R.axc
def Rel.wr(R:Rel W B S P H Y U)(hi:S[i]?=some 2)(hl:i<U.length)(hσ:Y[i]?=some (some (.ref (P i))))(hn:¬Ρ o)(hx:cJ W (Sl B S P) (upd H (P i) o) (P i) x'):Rel W B S P (upd H (P i) o) Y (U.set i (some x')):=by
 obtain⟨h0,o0,e0,n0⟩:=R.act i hi;have fM:Fr (Sl B S P) H (upd H (P i) o):=λa q e m=>by
  have:a≠P i:=λz=>by
   rcases m with m|m
   .exact m.2 i hi z.symm
   .rw[z,e0]at e;cases e;exact n0 m
  rw[zl this];exact e
 have fN:Fr B.N0 H (upd H (P i) o):=λa q e m=>by
  have:a≠P i:=λz=>by
   rcases m with m|m
   .exact B.nz a m (z▸h0)
   .rw[z,e0]at e;cases e;exact n0 m
  rw[zl this];exact e
 refine⟨λa q e=>?_,by rw[τ];exact R.len,λj x e=>?_,λj hj=>?_,R.inj,R.pin,λa h=>?_,R.axc⟩
 .have:a≠P i:=λz=>by rw[z,h0]at e;cases e
  rw[zl this];exact R.same a q e
 .by_cases hij:i=j
  .subst hij;rw[T5 hl]at e;cases e;exact⟨_,hσ,λ_=>⟨rfl,hx⟩,(λz=>by rw[hi]at z;cases z),λz=>absurd hi z⟩
  .rw[S8 hij]at e;obtain⟨v,h1,h2,h3,h4⟩:=R.var j x e;refine⟨v,h1,λz=>⟨(h2 z).1,?_⟩,λz=>yZ.gen fN fM (λ_ m _=>m) (λ_ m _=>m) (h3 z),λz z'=>Rep.gen fM (λ_ m _=>m) (h4 z z')⟩;have:P j≠P i:=λq=>hij (R.inj i j hi z q.symm);exact(h2 z).2.gen (zl this) fM λ_ m _=>m
 .by_cases hij:j=i
  .subst hij;exact⟨h0,o,zh,hn⟩
  .obtain⟨g0,o1,e1,n1⟩:=R.act j hj;have:P j≠P i:=λq=>hij (R.inj j i hj hi q);exact⟨g0,o1,by rw[zl this];exact e1,n1⟩
 .obtain⟨o1,e1,n1⟩:=R.exc a h;by_cases e:a=P i
  .subst e;exact⟨o,zh,hn,n1.2⟩
  .exact⟨o1,by rw[zl e];exact e1,n1⟩
def wo{S:OS}{i j c:Nat}(h:(S.set i 0)[j]?=some 2):S[j]?=some 2/\j≠i:=by
 by_cases e:i=j
 .subst e;rw[List.getElem?_set]at h;rw[if_pos rfl]at h;split at h<;>cases h
 .rw[S8 e]at h;exact⟨h,λz=>e z.symm⟩
def Rel.set(R:Rel W B S P H Y U)(hx:Rep W (Sl B S P) H x v):Rel W B (S.set i 0) P H (Y.set i (some v)) (U.set i (some x)):=by
 have sM:∀a,Sl B S P a->H a≠none->Sl B (S.set i 0) P a:=λa m _=>⟨m.1,λj hj=>m.2 j (wo (c:=0) hj).1⟩;refine⟨R.same,by rw[τ,τ];exact R.len,λj y e=>?_,λj hj=>R.act j (wo (c:=0) hj).1,λj k hj hk=>R.inj j k (wo (c:=0) hj).1 (wo (c:=0) hk).1,λh0=>R.pin (wo (c:=0) h0).1,R.exc,λj hj=>R.axc j (wo (c:=0) hj).1⟩;by_cases hij:i=j
 .subst hij;have hl:i<U.length:=by
   have:=(P8.mp e).1
   rwa [τ]at this
  rw[T5 hl]at e;cases e;refine⟨v,by rw[T5 (by rw[R.len];exact hl)],λz=>absurd rfl (wo (c:=0) z).2,λz=>?_,λ_ _=>hx.sub sM⟩;rw[List.getElem?_set,if_pos rfl]at z;split at z<;>cases z
 .rw[S8 hij]at e;obtain⟨w,h1,h2,h3,h4⟩:=R.var j y e;rw[S8 hij,S8 hij];exact⟨w,h1,λz=>⟨(h2 z).1,(h2 z).2.gen rfl Fr.refl sM⟩,λz=>(h3 z).sub (λ_ m _=>m) sM,λz z'=>(h4 z z').sub sM⟩
def Rel.Ov(R:Rel W B S P H Y U)(s:zH H H')(hp:H p=none)(hi:i<S.length)(hi0:i≠0)(hx:cJ W (λa=>Sl B S P a/\a≠p) H' p x):Rel W B (S.set i 2) (λj=>if j=i then p else P j) H' (Y.set i (some (.ref p))) (U.set i (some x)):=by
 have s0:B.H0 p=none:=zH.none R.same hp;have hS:∀{j},(S.set i 2)[j]?=some 2->j≠i->S[j]?=some 2:=λ{j} h n=>by rwa [S8 λz=>n z.symm]at h
 have sM:∀a,Sl B S P a->a≠p->Sl B (S.set i 2) (λj=>if j=i then p else P j) a:=λa m hn=>⟨m.1,λj hj=>by
  by_cases e:j=i
  .simp only[e,if_true];exact λz=>hn z.symm
  .simp only[e,if_false];exact m.2 j (hS hj e)⟩
 have sMH:∀a,Sl B S P a->H a≠none->Sl B (S.set i 2) (λj=>if j=i then p else P j) a:=λa m hn=>sM a m λz=>hn (z▸hp);have pj:∀{j},S[j]?=some 2->P j≠p:=λ{j} hj z=>by obtain⟨_,o,e,_⟩:=R.act j hj;rw[z,hp]at e;cases e
 refine⟨R.same.trans s,by rw[τ,τ];exact R.len,λj y e=>?_,λj hj=>?_,λj k hj hk e=>?_,λh0 q hq=>?_,λa h=>let⟨o,e,n⟩:=R.exc a h;⟨o,s _ _ e,n⟩,λj hj=>?_⟩
 .by_cases hij:i=j
  .subst hij;have hl:i<U.length:=by
    have:=(P8.mp e).1
    rwa [τ]at this
   rw[T5 hl]at e;cases e;rw[T5 (by rw[R.len];exact hl),T5 hi];refine⟨.ref p,rfl,λ_=>⟨by simp,?_⟩,(λz=>by cases z),λz=>absurd rfl z⟩;simp only[if_true];exact hx.gen rfl Fr.refl λa m _=>sM a m.1 m.2
  .rw[S8 hij]at e;obtain⟨w,h1,h2,h3,h4⟩:=R.var j y e;rw[S8 hij,S8 hij];have nij:¬j=i:=λz=>hij z.symm;simp only[nij,if_false];exact⟨w,h1,λz=>⟨(h2 z).1,((h2 z).2.gen (H':=H) rfl Fr.refl sMH).same s⟩,λz=>((h3 z).sub (λ_ m _=>m) sMH).same s,λz z'=>((h4 z z').sub sMH).same s⟩
 .by_cases hij:j=i
  .subst hij;simp only[if_true];exact⟨s0,hx.some⟩
  .simp only[hij,if_false];obtain⟨g0,o,e,n⟩:=R.act j (hS hj hij);exact⟨g0,o,s _ _ e,n⟩
 .by_cases h1:j=i
  .by_cases h2:k=i
   .rw[h1,h2]
   .simp only[h1,h2,if_true,if_false]at e;exact absurd e.symm (pj (hS hk h2))
  .by_cases h2:k=i
   .simp only[h1,h2,if_true,if_false]at e;exact absurd e (pj (hS hj h1))
   .simp only[h1,h2,if_false]at e;exact R.inj j k (hS hj h1) (hS hk h2) e
 .rw[S8 hi0]at h0;rw[if_neg λz=>hi0 z.symm];exact R.pin h0 q hq
 .by_cases e:j=i
  .rw[if_pos e];exact λz=>by obtain⟨o,q,_⟩:=R.exc p z;rw[hp]at q;cases q
  .rw[if_neg e];exact R.axc j (hS hj e)
def Rel.wrx(R:Rel W B S P H Y U)(ha:B.xc a)(hn:¬Ρ o):Rel W B S P (upd H a o) Y U:=by
 obtain⟨o0,e0,n0,h0⟩:=R.exc a ha;have fM:Fr (Sl B S P) H (upd H a o):=λc q e m=>by
  have:c≠a:=λz=>by
   rcases m with m|m
   .exact m.1.2 (z▸ha)
   .rw[z,e0]at e;cases e;exact n0 m
  rw[zl this];exact e
 have fN:Fr B.N0 H (upd H a o):=λc q e m=>by
  have:c≠a:=λz=>by
   rcases m with m|m
   .exact B.nz c m (z▸h0)
   .rw[z,e0]at e;cases e;exact n0 m
  rw[zl this];exact e
 have pa:∀{i},S[i]?=some 2->P i≠a:=λ{i} hi z=>R.axc i hi (z▸ha);refine⟨λc q e=>?_,R.len,λj x e=>?_,λj hj=>?_,R.inj,R.pin,λc h=>?_,R.axc⟩
 .have:c≠a:=λz=>by rw[z,h0]at e;cases e
  rw[zl this];exact R.same c q e
 .obtain⟨v,h1,h2,h3,h4⟩:=R.var j x e;exact⟨v,h1,λz=>⟨(h2 z).1,(h2 z).2.gen (zl (pa z)) fM λ_ m _=>m⟩,λz=>yZ.gen fN fM (λ_ m _=>m) (λ_ m _=>m) (h3 z),λz z'=>Rep.gen fM (λ_ m _=>m) (h4 z z')⟩
 .obtain⟨g0,o1,e1,n1⟩:=R.act j hj;exact⟨g0,o1,by rw[zl (pa hj)];exact e1,n1⟩
 .by_cases e:c=a
  .subst e;exact⟨o,zh,hn,h0⟩
  .obtain⟨o1,e1,n1⟩:=R.exc c h;exact⟨o1,by rw[zl e];exact e1,n1⟩
abbrev ME:=So->Out PV
abbrev MT:=So->Out Bool
abbrev MA:=So->Out (List PV)
inductive Fw where
 |nx (U:So)|rt (x:PV)|bk (U:So)|ct (U:So)
abbrev MS:=So->Out Fw
def Ξ(C:LC)(B:Bs)(c:Nat)(fs:Pj):Prop:=∀e dx es H2,zH B.H0 H2->H2 e=some (XC e (C.W.cls c) dx)->H2 dx=some (XD dx es)->vg C.W B.Mt H2 fs es->C.E (.ref e) (some dx) H2
def zV(C:LC)(B:Bs)(H:Hp)(R:Hp->PV->V->Prop)(Q:VK):Out PV->Prop
 |.ok r=>∀v H2,zH H H2->R H2 r v->Q v H2
 |.exc c fs=>Ξ C B c fs
 |.wall=>False
def cK(C:LC)(B:Bs)(H:Hp)(Q:Bool->Hp->Prop):Out Bool->Prop
 |.ok r=>∀H2,zH H H2->Q r H2
 |.exc c fs=>Ξ C B c fs
 |.wall=>False
def RV(C:LC)(B:Bs)(S:OS)(P:O_)(w:Bool)(H:Hp)(x:PV)(v:V):Prop:=yZ C.W (if w=true then λ_=>True else Sl B S P) (Sl B S P) H x v
def RV.rep(h:RV C B S P false H x v):Rep C.W (Sl B S P) H x v:=yZ.iff.mp h
def RV.of(h:Rep C.W (Sl B S P) H x v):RV C B S P false H x v:=yZ.iff.mpr h
def RV.weak(h:RV C B S P w H x v):yZ C.W (λ_=>True) (Sl B S P) H x v:=yZ.sub h (λ_ _ _=>trivial) λ_ m _=>m
def RV.same(h:RV C B S P w H x v)(s:zH H H'):RV C B S P w H' x v:=yZ.same h s
def LE(C:LC)(S:OS)(w:Bool)(te:TE)(m:ME):Prop:=∀B P H Y U,Rel C.W B S P H Y U->∀Q,zV C B H (RV C B S P w) Q (m U)->te Y H Q
def LT(C:LC)(S:OS)(tt:TT)(m:MT):Prop:=∀B P H Y U,Rel C.W B S P H Y U->∀Q,cK C B H Q (m U)->tt Y H Q
def EM(X:Cx)(C:LC)(S:OS)(w:Bool)(e:Pc)(m:ME):Prop:=X.K=C.W.K->∃te,PE X e te/\LE C S w te m
def TM(X:Cx)(C:LC)(S:OS)(e:Pc)(m:MT):Prop:=X.K=C.W.K->∃tt,PT X e tt/\LT C S tt m
def TWM(X:Cx)(C:LC)(S:OS)(e:Pc)(m:MT):Prop:=X.K=C.W.K->∃tt,PW X e tt/\LT C S tt m
def zV.bind(h:zV C B H R Q (o.bind f))(k:∀r,o=.ok r->∀v H2,zH H H2->R0 H2 r v->zV C B H2 R Q (f r)->Q' v H2)(hR:∀H2,zH H H2->∀x v,R H2 x v->R H2 x v):zV C B H R0 Q' o:=by
 cases o with
 |ok r=>exact λv H2 s hr=>k r rfl v H2 s hr (by
   show zV C B H2 R Q (f r);have h:zV C B H R Q (f r):=h;revert h;cases f r with
   |ok x=>exact λh v H3 s3 hx=>h v H3 (s.trans s3) hx
   |exc c fs=>exact id
   |wall=>exact id)
 |exc c fs=>exact h
 |wall=>exact h
def yr(h:zV C B H R Q (o.bind f))(k:∀r v H2,zH H H2->R0 H2 r v->zV C B H2 R Q (f r)->Q' v H2):zV C B H R0 Q' o:=
 zV.bind h (λr _ v H2 s hr hp=>k r v H2 s hr hp) λ_ _ _ _ h=>h
def j0(h:zV C B H R Q o)(s:zH H H2):zV C B H2 R Q o:=by
 cases o with
 |ok x=>exact λv H3 s3 hx=>h v H3 (s.trans s3) hx
 |exc c fs=>exact h
 |wall=>exact h
def Uk(h:cK C B H Q o)(s:zH H H2):cK C B H2 Q o:=by
 cases o with
 |ok x=>exact λH3 s3=>h H3 (s.trans s3)
 |exc c fs=>exact h
 |wall=>exact h
def nX(h:cK C B H Q (o.bind f))(k:∀r v H2,zH H H2->R0 H2 r v->cK C B H2 Q (f r)->Q' v H2):zV C B H R0 Q' o:=by
 cases o with
 |ok r=>exact λv H2 s hr=>k r v H2 s hr (Uk (o:=f r) h s)
 |exc c fs=>exact h
 |wall=>exact h
def Ka(h:cK C B H Q (o.bind f))(k:∀r H2,zH H H2->cK C B H2 Q (f r)->Q' r H2):cK C B H Q' o:=by
 cases o with
 |ok r=>exact λH2 s=>k r H2 s (Uk (o:=f r) h s)
 |exc c fs=>exact h
 |wall=>exact h
def ip(h:zV C B H R Q (o.bind f))(k:∀r H2,zH H H2->zV C B H2 R Q (f r)->Q' r H2):cK C B H Q' o:=by
 cases o with
 |ok r=>exact λH2 s=>k r H2 s (j0 (o:=f r) h s)
 |exc c fs=>exact h
 |wall=>exact h
def zc(i:Nat):ME:=λU=>match U[i]? with|some (some x)=>.ok x|_=>.wall
def mC(x:PV):ME:=λ_=>.ok x
section
variable {X:Cx}{C:LC}{S:OS}{e a b:Pc}{w w1 w2:Bool}{m m1 m2:ME}{t1 t2:MT}
def EM.weak(h:EM X C S w e m):EM X C S true e m:=λhK=>by
 obtain⟨te,h1,h2⟩:=h hK;refine⟨te,h1,λB P H Y U R Q q=>h2 B P H Y U R Q ?_⟩;revert q;cases m U with
 |ok r=>exact λq v H2 s hr=>q v H2 s (by unfold RV;rw[if_pos rfl];exact hr.weak)
 |exc c fs=>exact id
 |wall=>exact id
def lv(R:Rel C.W B S P H Y U)(q:zV C B H R' Q (zc i U))(k:∀x v,Y[i]?=some (some v)->U[i]?=some (some x)->R' H x v):nC i Y H Q:=by
 unfold zc at q;cases e:U[i]? with
 |none=>rw[e]at q;exact q.elim
 |some o=>
  cases o with
  |none=>rw[e]at q;exact q.elim
  |some x=>rw[e]at q;obtain⟨v,hv,_⟩:=R.var i x e;exact⟨v,hv,q v H (zH.refl _) (k x v hv e)⟩
def zj(h:PE X e (nC i))(hS:S[i]?≠some 2/\S[i]?≠some 1:=by decide):EM X C S false e (zc i):=λ_=>⟨_,h,λB P H Y U R Q q=>lv R q λx v hv e=>by
 obtain⟨v',hv',_,_,h4⟩:=R.var i x e;rw[hv]at hv';cases hv';exact RV.of (h4 hS.1 hS.2)⟩
def Gu(h:PE X e (nC i)):EM X C S true e (zc i):=λ_=>⟨_,h,λB P H Y U R Q q=>lv R q λx v hv e=>by
 obtain⟨v',hv',h2,h3,h4⟩:=R.var i x e;rw[hv]at hv';cases hv';show yZ C.W (if true=true then _ else _) _ _ _ _;rw[if_pos rfl];by_cases c2:S[i]?=some 2
 .obtain⟨rfl,z⟩:=h2 c2;exact z.Mm trivial
 .by_cases c1:S[i]?=some 1
  .exact(h3 c1).sub (λ_ _ _=>trivial) λ_ m _=>m
  .exact(h4 c2 c1).weak⟩
def I_(h:PE X e (tC v))(hx:∀M H,Rep C.W M H x v):EM X C S false e (mC x):=λ_=>⟨_,h,λB P H Y U R Q q=>q v H (zH.refl _) (RV.of (hx _ _))⟩
def zT(h:PE X e (tC (.int i))):EM X C S false e (mC (.i i)):=I_ h λ_ _=>rfl
def wq(h:PE X e (tC (.str i))):EM X C S false e (mC (.s i)):=I_ h λ_ _=>rfl
def Y6(h:PE X e (tC (.bl i))):EM X C S false e (mC (.b i)):=I_ h λ_ _=>rfl
def KO(h:PE X e (tC .non)):EM X C S false e (mC .n):=I_ h λ_ _=>rfl
def Se(p:Ra)(m1 m2:ME):ME:=λU=>(m1 U).bind λx=>(m2 U).bind λy=>p x y
def To(p:PV->Out PV)(m1:ME):ME:=λU=>(m1 U).bind p
def Ϝ(M:OU)(H:Hp):Prop:=∀p,H p=none->M p
def Rel.new(R:Rel W B S P H Y U):Ϝ (Sl B S P) H:=λp h=>⟨⟨.inr (zH.none R.same h),λz=>by obtain⟨o,q,_⟩:=R.exc p z;rw[h]at q;cases q⟩,λi hi e=>by obtain⟨_,o,q,_⟩:=R.act i hi;rw[e,h]at q;cases q⟩
def RV.eq:RV C B S P false=Rep C.W (Sl B S P):=by
 funext H x v;exact propext yZ.iff
def Th(W:RC)(r:R2)(p:Ra):Prop:=∀(M:OU)(C:LC)(B:Bs) H x y v u Q,Ϝ M H->yZ W (λ_=>True) M H x v->yZ W (λ_=>True) M H y u->zV C B H (Rep W M) Q (p x y)->r v u H Q
def Lf1(W:RC)(r:V->Hp->VK->Prop)(p:PV->Out PV):Prop:=∀(M:OU)(C:LC)(B:Bs) H x v Q,Ϝ M H->yZ W (λ_=>True) M H x v->zV C B H (Rep W M) Q (p x)->r v H Q
def p6(L:Th C.W r p)(h1:LE C S w1 ta m1)(h2:LE C S w2 tb m2):LE C S false (Ϲ r ta tb) (Se p m1 m2):=λB P H Y U R Q q=>
 h1 B P H Y U R _ (yr q λx v H1 s1 r1 q1=>h2 B P H1 Y U (R.keep s1) _ (yr q1 λy u H2 s2 r2 q2=>L _ C B H2 x y v u Q ((R.keep s1).keep s2).new (r1.same s2).weak r2.weak (RV.eq▸q2)))
def zE(o:Sx X (binaryOp op) r)(L:Th C.W r p)(h1:EM X C S w1 a m1)(h2:EM X C S w2 b m2):EM X C S false (.BinOp a op b pos) (Se p m1 m2):=λhK=>by obtain⟨ta,a1,a2⟩:=h1 hK;obtain⟨tb,b1,b2⟩:=h2 hK;exact⟨_,FT o a1 b1,p6 L a2 b2⟩
def Gv{op:Operator}{r:Frag->R2}{p:Ra}{pos:Pos}(o:Sx X (binaryOp op) (r X.K))(L:Th C.W (r C.W.K) p)(h1:EM X C S w1 a m1)(h2:EM X C S w2 b m2):EM X C S false (.BinOp a op b pos) (Se p m1 m2):=λhK=>by obtain⟨ta,a1,a2⟩:=h1 hK;obtain⟨tb,b1,b2⟩:=h2 hK;exact⟨_,FT o a1 b1,p6 (hK▸L) a2 b2⟩
def DE(o:UnR X (unaryOp op) r)(L:Lf1 C.W r p)(h1:EM X C S w1 a m1):EM X C S false (.UnaryOp op a pos) (To p m1):=λhK=>by obtain⟨ta,a1,a2⟩:=h1 hK;exact⟨_,LN o a1,λB P H Y U R Q q=>a2 B P H Y U R _ (yr q λx v H1 s1 r1 q1=>L _ C B H1 x v Q (R.keep s1).new r1.weak (RV.eq▸q1))⟩
def lZ(o:Sx X (compareOp op) r)(L:Th C.W r p)(h1:EM X C S w1 a m1)(h2:EM X C S w2 b m2)(hm:behindInMarks op b=false):EM X C S false (.Compare a [op] [b] pos) (Se p m1 m2):=λhK=>by obtain⟨ta,a1,a2⟩:=h1 hK;obtain⟨tb,b1,b2⟩:=h2 hK;exact⟨_,C8 o a1 b1 hm,p6 L a2 b2⟩
def asB:PV->Out Bool
 |.b c=>.ok c
 |_=>.wall
def zW(m:ME):MT:=λU=>(m U).bind asB
def cL(h:LE C S w te m):LT C S (FY te) (zW m):=λB P H Y U R Q q=>
 h B P H Y U R _ (nX q λx v H1 s1 r1 q1=>by
  cases x with
  |b c=>exact⟨c,(show v=.bl c from r1),q1 H1 (zH.refl _)⟩
  |_=>exact q1.elim)
def qp(o:Sx X (compareOp op) r)(L:Th C.W r p)(h1:EM X C S w1 a m1)(h2:EM X C S w2 b m2)(hm:behindInMarks op b=false):TM X C S (.Compare a [op] [b] pos) (zW (Se p m1 m2)):=λhK=>by obtain⟨ta,a1,a2⟩:=h1 hK;obtain⟨tb,b1,b2⟩:=h2 hK;exact⟨_,g8 o a1 b1 hm,cL (p6 L a2 b2)⟩
variable {c:Pc}{w3:Bool}{m3:ME}
end
def pI(g:Int->Int->PV):PV->PV->Out PV
 |.i a,.i b=>.ok (g a b)
 |_,_=>.wall
def pU(g:Int->PV):PV->Out PV
 |.i a=>.ok (g a)
 |_=>.wall
def Gw(hg:∀a b M H,Rep W M H (g a b) (gv a b)):Th W (TY gv) (pI g):=λM C B H x y v u Q hM hx hy q=>by
 cases x with
 |i a=>
  cases y with
  |i b=>exact⟨a,b,hx,hy,q _ H (zH.refl _) (hg a b _ _)⟩
  |_=>exact q.elim
 |_=>exact q.elim
def Ow(hg:∀a M H,Rep W M H (g a) (gv a)):Lf1 W (rU gv) (pU g):=λM C B H x v Q hM hx q=>by
 cases x with
 |i a=>exact⟨a,hx,q _ H (zH.refl _) (hg a _ _)⟩
 |_=>exact q.elim
abbrev XJ:=pI λa b=>.i (a-b)
abbrev ζ:=pI λa b=>.b (decide (a<b))
abbrev pLe:=pI λa b=>.b (decide (a<=b))
abbrev TU:=pI λa b=>.b (decide (b<a))
abbrev pGe:=pI λa b=>.b (decide (b<=a))
abbrev xN:=pU λa=>.i (-a)
def ZD:Th W (TY λi j=>.int (i-j)) XJ:=Gw λ_ _ _ _=>rfl
def p7:Lf1 W (rU λi=>.int (-i)) xN:=Ow λ_ _ _=>rfl
section
variable {W:RC}{M:OU}{H:Hp}
def yq.nil:yq W M H [] []:=rfl
def yq.cons(h:Rep W M H x v)(t:yq W M H xs vs):yq W M H (x::xs) (v::vs):=⟨v,vs,rfl,h,t⟩
def yq.len:∀{xs:Pe}{vs:Pa},yq W M H xs vs->vs.length=xs.length
 |[],_,h=>by cases(show _=_ from h);rfl
 |x::xs,_,h=>by obtain⟨v,r,rfl,_,h2⟩:=h;rw[v0,v0,yq.len h2]
def yq.get:∀{xs:Pe}{vs:Pa}{i:Nat}{x:PV},yq W M H xs vs->xs[i]?=some x->∃v,vs[i]?=some v/\Rep W M H x v
 |[],_,_,_,_,e=>by simp at e
 |x::xs,_,0,y,h,e=>by obtain⟨v,r,rfl,h1,h2⟩:=h;simp at e;subst e;exact⟨v,rfl,h1⟩
 |x::xs,_,i+1,y,h,e=>by obtain⟨v,r,rfl,h1,h2⟩:=h;simp only[List.getElem?_cons_succ]at e ⊢;exact yq.get h2 e
def yq.Fv:∀{xs:Pe}{vs:Pa}{i:Nat}{v:V},yq W M H xs vs->vs[i]?=some v->∃x,xs[i]?=some x/\Rep W M H x v
 |[],_,_,_,h,e=>by cases(show _=_ from h);simp at e
 |x::xs,_,0,y,h,e=>by obtain⟨v,r,rfl,h1,h2⟩:=h;simp at e;subst e;exact⟨x,rfl,h1⟩
 |x::xs,_,i+1,y,h,e=>by obtain⟨v,r,rfl,h1,h2⟩:=h;simp only[List.getElem?_cons_succ]at e ⊢;exact yq.Fv h2 e
def yq.append:∀{xs ys:Pe}{vs us:Pa},yq W M H xs vs->yq W M H ys us->yq W M H (xs++ys) (vs++us)
 |[],_,_,_,h,k=>by cases(show _=_ from h);exact k
 |x::xs,_,_,_,h,k=>by obtain⟨v,r,rfl,h1,h2⟩:=h;exact⟨v,_,rfl,h1,yq.append h2 k⟩
def yq.take:∀{xs:Pe}{vs:Pa}(n:Nat),yq W M H xs vs->yq W M H (xs.take n) (vs.take n)
 |[],_,_,h=>by cases(show _=_ from h);simp;exact yq.nil
 |x::xs,_,0,h=>yq.nil
 |x::xs,_,n+1,h=>by obtain⟨v,r,rfl,h1,h2⟩:=h;exact⟨v,_,rfl,h1,yq.take n h2⟩
def yq.drop:∀{xs:Pe}{vs:Pa}(n:Nat),yq W M H xs vs->yq W M H (xs.drop n) (vs.drop n)
 |[],_,_,h=>by cases(show _=_ from h);simp;exact yq.nil
 |x::xs,_,0,h=>h
 |x::xs,_,n+1,h=>by obtain⟨v,r,rfl,h1,h2⟩:=h;exact yq.drop n h2
def yq.ints:∀{ns:Pn},yq W M H (ns.map PV.i) (ns.map V.int)
 |[]=>rfl
 |n::ns=>⟨_,_,rfl,rfl,yq.ints⟩
def yq.at(h:yq W M H xs vs)(e:SV xs i=some x):∃v,SV vs i=some v/\Rep W M H x v:=by
 unfold SV at e ⊢;rw[h.len];cases q:ixN xs.length i with
 |none=>rw[q]at e;cases e
 |some j=>rw[q]at e;exact h.get e
def yq.cut{xs:Pe}{vs:Pa}{lo hi:Pz}(h:yq W M H xs vs):yq W M H ((xs.drop (HT.sIx xs.length 0 lo)).take (HT.sIx xs.length xs.length hi-HT.sIx xs.length 0 lo)) (uV vs lo hi):=by unfold uV;rw[h.len];exact(h.drop _).take _
def jX.iff:∀{kvs:Ph}{es:Pb},jX W M H kvs es↔es.map (·.1)=kvs.map (·.1)/\yq W M H (kvs.map (·.2)) (es.map (·.2))
 |[],es=>⟨λh=>by cases(show _=_ from h);exact⟨rfl,rfl⟩,λh=>by cases es with|nil=>rfl|cons a r=>cases h.1⟩
 |kx::r,es=>by
  constructor
  .rintro ⟨v,q,rfl,h1,h2⟩
   obtain⟨e,t⟩:=jX.iff.mp h2;exact⟨by simp only[List.map_cons,e],v,_,rfl,h1,t⟩
  .rintro ⟨e,v,q,e2,h1,h2⟩
   cases es with
   |nil=>cases e2
   |cons a es=>simp only[List.map_cons,List.cons.injEq]at e e2;refine⟨a.2,es,by rw[<- e.1],by rw[e2.1];exact h1,jX.iff.mpr ⟨e.2,by rw[e2.2];exact h2⟩⟩
def vg.iff:∀{kvs:Pj}{es:Pp},vg W M H kvs es↔es.map (·.1)=kvs.map (·.1)/\yq W M H (kvs.map (·.2)) (es.map (·.2))
 |[],es=>⟨λh=>by cases(show _=_ from h);exact⟨rfl,rfl⟩,λh=>by cases es with|nil=>rfl|cons a r=>cases h.1⟩
 |kx::r,es=>by
  constructor
  .rintro ⟨v,q,rfl,h1,h2⟩
   obtain⟨e,t⟩:=vg.iff.mp h2;exact⟨by simp only[List.map_cons,e],v,_,rfl,h1,t⟩
  .rintro ⟨e,v,q,e2,h1,h2⟩
   cases es with
   |nil=>cases e2
   |cons a es=>simp only[List.map_cons,List.cons.injEq]at e e2;refine⟨a.2,es,by rw[<- e.1],by rw[e2.1];exact h1,vg.iff.mpr ⟨e.2,by rw[e2.2];exact h2⟩⟩
def vg.lookup:∀{kvs:Pj}{es:Pp}{f:Str}{x:PV},vg W M H kvs es->kvs.lookup f=some x->∃v,es.lookup f=some v/\Rep W M H x v
 |[],_,_,_,_,e=>by cases e
 |kx::r,_,f,x,h,e=>by
  obtain⟨v,q,rfl,h1,h2⟩:=h;rw[T4]at e ⊢;by_cases c:(f==kx.1)=true
  .simp only[c]at e ⊢;cases e;exact⟨v,rfl,h1⟩
  .simp only[c]at e ⊢;exact vg.lookup h2 e
def vg.p8:∀{kvs:Pj}{es:Pp}{f:Str},vg W M H kvs es->kvs.lookup f=none->es.lookup f=none
 |[],_,_,h,_=>by cases(show _=_ from h);rfl
 |kx::r,_,f,h,e=>by
  obtain⟨v,q,rfl,h1,h2⟩:=h;rw[T4]at e ⊢;by_cases c:(f==kx.1)=true
  .simp only[c]at e;cases e
  .simp only[c]at e ⊢;exact vg.p8 h2 e
def p9(n:Ϝ M H)(hp:H p=none)(h:yq W M H xs vs):Rep W M (upd H p (.lst vs)) (.l xs) (.ref p):=⟨p,vs,rfl,n p hp,zh,h.same (zH.upd hp)⟩
def iq(hp:H p=none)(h:yq W M H xs vs):Rep W M (upd H p (.tup vs)) (.t xs) (.ref p):=⟨p,vs,rfl,SN.of zh,h.same (zH.upd hp)⟩
end
def Gx:R2:=λx y H Q=>(TY (λi j=>.int (i+j)) x y H Q\/∃i j,x=.str i/\y=.str j/\i.length+j.length<=sizeLine/\Q (.str (i++j)) H)\/NB x y H Q
def zF:Sx X (binaryOp .Add) Gx:=(FV.or nH).or F8
def zU:PV->PV->Out PV
 |.i a,.i b=>.ok (.i (a+b))
 |.s a,.s b=>if a.length+b.length<=sizeLine then .ok (.s (a++b))else .wall
 |.l a,.l b=>if a.length+b.length<=sizeLine then .ok (.l (a++b))else .wall
 |_,_=>.wall
def zG:Th W Gx zU:=λM C B H x y v u Q n hx hy q=>by
 unfold zU at q;split at q
 .exact .inl (.inl ⟨_,_,hx,hy,q _ H (zH.refl _) rfl⟩)
 .split at q
  .rename_i h;exact .inl (.inr ⟨_,_,hx,hy,h,q _ H (zH.refl _) rfl⟩)
  .exact q.elim
 .split at q
  .rename_i h;obtain⟨p,vs,rfl,_,e,r⟩:=hx;obtain⟨p',vs',rfl,_,e',r'⟩:=hy;exact .inr ⟨p,p',vs,vs',rfl,rfl,e,e',by rw[r.len,r'.len];exact h,λz hz=>q _ _ (zH.upd hz) (p9 n hz (r.append r'))⟩
  .exact q.elim
 .exact q.elim
def Gy:R2:=λx y H Q=>(rI BB (λi j=>.int (i*j)) x y H Q\/rI xI (λi j=>.int (i*j)) x y H Q)\/(Gq x y H Q\/NC x y H Q)
def yt:Sx X (binaryOp .Mult) Gy:=(FW.or Dy).or (nW.or F9)
instance{i j:Int}:Decidable (BB i j):=by unfold BB;infer_instance
instance{i j:Int}:Decidable (Ft i j):=by unfold Ft;infer_instance
instance{i j:Int}:Decidable (FU i j):=by unfold FU;infer_instance
def qS:PV->PV->Out PV
 |.i a,.i b=>if BB a b\/(a.natAbs<2 ^ 8192/\b.natAbs<2 ^ 8192)then .ok (.i (a*b))else .wall
 |.s a,.i b=>if a.length<=16/\-2 ^ 63<=b/\b<=1048576 then .ok (.s (Txt.mul a b))else .wall
 |.l a,.i b=>if -(2 ^ 63)<=b/\b<2 ^ 63/\a.length*b.toNat<=sizeLine then .ok (.l (List.replicate b.toNat a).flatten)else .wall
 |_,_=>.wall
def yq.rep{W:RC}{M:OU}{H:Hp}{xs:Pe}{vs:Pa}(h:yq W M H xs vs):∀n,yq W M H (List.replicate n xs).flatten (List.replicate n vs).flatten
 |0=>rfl
 |n+1=>by rw[ϱ,ϱ,Μ,Μ];exact h.append (h.rep n)
def yw:Th W Gy qS:=λM C B H x y v u Q n hx hy q=>by
 unfold qS at q;split at q
 .split at q
  .rename_i h;rcases h with h|h
   .exact .inl (.inl ⟨_,_,hx,hy,h,q _ H (zH.refl _) rfl⟩)
   .exact .inl (.inr ⟨_,_,hx,hy,h,q _ H (zH.refl _) rfl⟩)
  .exact q.elim
 .split at q
  .rename_i h;exact .inr (.inl ⟨_,_,hx,hy,h.1,h.2.1,h.2.2,q _ H (zH.refl _) rfl⟩)
  .exact q.elim
 .split at q
  .rename_i h;obtain⟨p,vs,rfl,_,e,r⟩:=hx;exact .inr (.inr ⟨p,_,vs,rfl,hy,e,h.1,h.2.1,by rw[r.len];exact h.2.2,λz hz=>q _ _ (zH.upd hz) (p9 n hz (r.rep _))⟩)
  .exact q.elim
 .exact q.elim
def Gz:R2:=λx y H Q=>rI Ft (λi j=>.int (i / j)) x y H Q\/rI Gr (λi j=>.int (i.fdiv j)) x y H Q
def p_:Sx X (binaryOp .FloorDiv) Gz:=C5.or xK
def nY:PV->PV->Out PV
 |.i a,.i b=>if Ft a b then .ok (.i (a / b))else if b≠0/\b.natAbs<2 ^ 8192 then .ok (.i (a.fdiv b))else .wall
 |_,_=>.wall
def rg:Th W Gz nY:=λM C B H x y v u Q n hx hy q=>by
 unfold nY at q;split at q
 .split at q
  .rename_i h;exact .inl ⟨_,_,hx,hy,h,q _ H (zH.refl _) rfl⟩
  .split at q
   .rename_i h;exact .inr ⟨_,_,hx,hy,h,q _ H (zH.refl _) rfl⟩
   .exact q.elim
 .exact q.elim
def GA:R2:=λx y H Q=>rI (λ_ j=>0<j) (λi j=>.int (i % j)) x y H Q\/rI (λ_ j=>j≠0) (λi j=>.int (i.fmod j)) x y H Q
def Y7:Sx X (binaryOp .Mod) GA:=FX.or C6
def KP:PV->PV->Out PV
 |.i a,.i b=>if 0<b then .ok (.i (a % b))else if b≠0 then .ok (.i (a.fmod b))else .wall
 |_,_=>.wall
def Y8:Th W GA KP:=λM C B H x y v u Q n hx hy q=>by
 unfold KP at q;split at q
 .split at q
  .rename_i h;exact .inl ⟨_,_,hx,hy,h,q _ H (zH.refl _) rfl⟩
  .split at q
   .rename_i h;exact .inr ⟨_,_,hx,hy,h,q _ H (zH.refl _) rfl⟩
   .exact q.elim
 .exact q.elim
def nZ:PV->PV->Out PV
 |.i a,.i b=>if FU a b then .ok (.i (a ^ b.toNat))else .wall
 |_,_=>.wall
def rh:Th W (rI FU λi j=>.int (i ^ j.toNat)) nZ:=λM C B H x y v u Q n hx hy q=>by
 unfold nZ at q;split at q
 .split at q
  .rename_i h;exact⟨_,_,hx,hy,h,q _ H (zH.refl _) rfl⟩
  .exact q.elim
 .exact q.elim
def fb:Th W (TY λi j=>.bl (decide (i<j))) ζ:=Gw λ_ _ _ _=>rfl
def Mn:Th W (TY λi j=>.bl (decide (i<=j))) pLe:=Gw λ_ _ _ _=>rfl
def cM:Th W (TY λi j=>.bl (decide (j<i))) TU:=Gw λ_ _ _ _=>rfl
def Mo:Th W (TY λi j=>.bl (decide (j<=i))) pGe:=Gw λ_ _ _ _=>rfl
def isN:PV->Bool
 |.n=>true
 |_=>false
def xO(neg:Bool):PV->PV->Out PV
 |x,.n=>.ok (.b (xor neg (isN x)))
 |_,_=>.wall
def GC(h:yZ W N M H x v):decide (v=.non)=isN x:=by
 cases x with
 |n=>cases(show v=_ from h);rfl
 |i a=>cases(show v=_ from h);rfl
 |s a=>cases(show v=_ from h);rfl
 |b a=>cases(show v=_ from h);rfl
 |l a=>obtain⟨p,_,rfl,_⟩:=h;rfl
 |t a=>obtain⟨p,_,rfl,_⟩:=h;rfl
 |d a=>obtain⟨p,_,rfl,_⟩:=h;rfl
 |o c a=>obtain⟨p,_,_,rfl,_⟩:=h;rfl
 |x c a=>obtain⟨p,_,_,rfl,_⟩:=h;rfl
 |sc a=>obtain⟨p,rfl,_⟩:=h;rfl
 |dt a=>obtain⟨p,rfl,_⟩:=h;rfl
def ri:Th W (λx y H Q=>y=.non/\Q (.bl (decide (x=.non))) H) (xO false):=λM C B H x y v u Q n hx hy q=>by
 unfold xO at q;split at q
 .refine⟨hy,?_⟩;rw[GC hx];exact q _ H (zH.refl _) (by rw[ϑ];rfl)
 .exact q.elim
def DF:Th W (λx y H Q=>y=.non/\Q (.bl (!decide (x=.non))) H) (xO true):=λM C B H x y v u Q n hx hy q=>by
 unfold xO at q;split at q
 .refine⟨hy,?_⟩;rw[GC hx];exact q _ H (zH.refl _) (by rw[a10];rfl)
 .exact q.elim
def lN.rk(e:Rd H a (.dK kvs)):lN H a (kV k) (aM kvs k):=.inl ⟨kvs,k,e,rfl,rfl⟩
def SW(W:RC)(M:OU)(H:Hp)(H2:Hp)(x:PV)(v:V):Prop:=∃p,v=.ref p/\H p=none/\cJ W (λa=>M a/\a≠p) H2 p x
def SW.rep(n:Ϝ M H)(h:SW W M H H2 x v):Rep W M H2 x v:=by obtain⟨p,rfl,hp,h⟩:=h;exact yZ.iff.mp ((h.Mm (N:=M) (n p hp)).sub (λ_ m _=>m) λ_ m _=>m.1)
def ϝ(C:LC)(S:OS)(te:TE)(m:ME):Prop:=∀B P H Y U,Rel C.W B S P H Y U->∀Q,zV C B H (SW C.W (Sl B S P) H) Q (m U)->te Y H Q
def FM(X:Cx)(C:LC)(S:OS)(e:Pc)(m:ME):Prop:=X.K=C.W.K->∃te,PE X e te/\ϝ C S te m
def KQ(h:zV C B H R Q o)(k:∀x v H2,zH H H2->R' H2 x v->R H2 x v):zV C B H R' Q o:=by
 cases o with
 |ok r=>exact λv H2 s hr=>h v H2 s (k _ _ _ s hr)
 |exc c fs=>exact h
 |wall=>exact h
def FM.em(h:FM X C S e m):EM X C S false e m:=λhK=>by obtain⟨te,h1,h2⟩:=h hK;exact⟨te,h1,λB P H Y U R Q q=>h2 B P H Y U R Q (KQ q λx v H2 s hr=>RV.of (hr.rep R.new))⟩
def TH(C:LC)(B:Bs)(S:OS)(P:O_)(H:Hp):List Bool->List PV->List V->Prop
 |[],xs,vs=>xs=[]/\vs=[]
 |w::ws,xs,vs=>∃x v xr vr,xs=x::xr/\vs=v::vr/\RV C B S P w H x v/\TH C B S P H ws xr vr
def n4(C:LC)(B:Bs)(H:Hp)(R:Hp->List PV->List V->Prop)(Q:List V->Hp->Prop):Out (List PV)->Prop
 |.ok r=>∀v H2,zH H H2->R H2 r v->Q v H2
 |.exc c fs=>Ξ C B c fs
 |.wall=>False
def LA(C:LC)(S:OS)(ws:OW)(ta:TA)(m:MA):Prop:=∀B P H Y U,Rel C.W B S P H Y U->∀Q,n4 C B H (λH2=>TH C B S P H2 ws) Q (m U)->ta Y H Q
def AM(X:Cx)(C:LC)(S:OS)(ws:OW)(es:OX)(m:MA):Prop:=X.K=C.W.K->∃ta,PA X es ta/\LA C S ws ta m
def zm:MA:=λ_=>.ok []
def zb(m:ME)(ms:MA):MA:=λU=>(m U).bind λx=>(ms U).bind λxs=>.ok (x::xs)
def n5{α:Type}{f:PV->Out α}{T:Hp->Out α->Prop}(hT:∀H H2 o,zH H H2->T H o->T H2 o)(hx:∀c fs,T H (.exc c fs)->Ξ C B c fs)(hw:T H .wall->False)(h:T H (o.bind f))(k:∀r v H2,zH H H2->R H2 r v->T H2 (f r)->Q' v H2):zV C B H R Q' o:=by
 cases o with
 |ok r=>exact λv H2 s hr=>k r v H2 s hr (hT _ _ _ s h)
 |exc c fs=>exact hx _ _ h
 |wall=>exact hw h
def ir(s:zH H H2)(h:n4 C B H R Q o):n4 C B H2 R Q o:=by
 cases o with
 |ok x=>exact λv H3 s3 hx=>h v H3 (s.trans s3) hx
 |exc c fs=>exact h
 |wall=>exact h
def je(h:zV C B H R Q (o.bind f))(k:∀r v H2,zH H H2->R' H2 r v->zV C B H2 R Q (f r)->Q' v H2):n4 C B H R' Q' o:=by
 cases o with
 |ok r=>exact λv H2 s hr=>k r v H2 s hr (j0 (o:=f r) h s)
 |exc c fs=>exact h
 |wall=>exact h
section
variable {X:Cx}{C:LC}{S:OS}{e a b:Pc}{es:OX}{w w1 w2:Bool}{ws:OW}{m m1 m2:ME}{ms:MA}{t1 t2:MT}{pos:Pos}
def ze:AM X C S [] [] zm:=λ_=>⟨_,Ub,λB P H Y U R Q q=>q [] H (zH.refl _) ⟨rfl,rfl⟩⟩
def za(h:EM X C S w e m)(hr:AM X C S ws es ms)(hs:starEach (e::es) X.env=(false,eval e X.env)::starEach es X.env:=by rfl):AM X C S (w::ws) (e::es) (zb m ms):=λhK=>by
 obtain⟨te,a1,a2⟩:=h hK;obtain⟨ta,b1,b2⟩:=hr hK;refine⟨_,ZW a1 b1 hs,λB P H Y U R Q q=>a2 B P H Y U R _ (n5 (T:=λH o=>n4 C B H (λH2=>TH C B S P H2 (w::ws)) Q o) (λ_ _ _ s h=>ir s h) (λ_ _ h=>h) (λh=>h) q λx v H1 s1 r1 q1=>?_)⟩;refine b2 B P H1 Y U (R.keep s1) _ ?_;revert q1;cases ms U with
 |ok xs=>exact λq1 vs H2 s2 r2=>q1 (v::vs) H2 s2 ⟨x,v,xs,vs,rfl,rfl,r1.same s2,r2⟩
 |exc c fs=>exact id
 |wall=>exact id
def TH.La{B:Bs}{P:O_}{H:Hp}:∀{ws:OW}{xs:Pe}{vs:Pa},TH C B S P H ws xs vs->ws.all (!·)=true->yq C.W (Sl B S P) H xs vs
 |[],_,_,⟨e1,e2⟩,_=>by subst e1;subst e2;rfl
 |w::ws,_,_,⟨x,v,xr,vr,e1,e2,h1,h2⟩,hw=>by subst e1;subst e2;simp only[List.all_cons,Bool.and_eq_true,Bool.not_eq_true']at hw;rw[hw.1]at h1;exact⟨v,vr,rfl,h1.rep,TH.La h2 hw.2⟩
def KA(ms:MA):ME:=λU=>(ms U).bind λxs=>if xs.length<=sizeLine then .ok (.l xs)else .wall
def V5(ms:MA):ME:=λU=>(ms U).bind λxs=>if xs.length<=sizeLine then .ok (.t xs)else .wall
def wt(h:AM X C S ws es ms)(hw:ws.all (!·)=true:=by rfl):FM X C S (.List es pos) (KA ms):=λhK=>by
 obtain⟨ta,a1,a2⟩:=h hK;refine⟨_,BF a1,λB P H Y U R Q q=>a2 B P H Y U R _ (je q λxs vs H1 s1 r1 q1=>?_)⟩;have rs:=r1.La hw;split at q1
 .rename_i hl;exact⟨by rw[rs.len];exact hl,λp hp=>q1 _ _ (zH.upd hp) ⟨p,rfl,zH.none s1 hp,vs,zh,(rs.sub λa m n=>⟨m,λz=>n (z▸hp)⟩).same (zH.upd hp)⟩⟩
 .exact q1.elim
def jF{x1}(h:AM X C S ws es ms)(hw:ws.all (!·)=true:=by rfl):EM X C S false (.Tuple es x1 pos) (V5 ms):=λhK=>by
 obtain⟨ta,a1,a2⟩:=h hK;refine⟨_,bN a1,λB P H Y U R Q q=>a2 B P H Y U R _ (je q λxs vs H1 s1 r1 q1=>?_)⟩;have rs:=r1.La hw;split at q1
 .rename_i hl;exact⟨by rw[rs.len];exact hl,λp hp=>q1 _ _ (zH.upd hp) (RV.of (iq hp rs))⟩
 .exact q1.elim
def BU(t u:MT):MT:=λU=>(t U).bind λc=>if c=true then u U else .ok false
def Te(t u:MT):MT:=λU=>(t U).bind λc=>if c=true then .ok true else u U
def iu(t:MT):MT:=λU=>(t U).bind λc=>.ok (!c)
def fc(m1 m2:ME):ME:=λU=>(m1 U).bind λx=>(asB x).bind λc=>if c=true then m2 U else .ok (.b false)
def Lc(m1 m2:ME):ME:=λU=>(m1 U).bind λx=>(asB x).bind λc=>if c=true then .ok (.b true)else m2 U
def mIf(t:MT)(m1 m2:ME):ME:=λU=>(t U).bind λc=>if c=true then m1 U else m2 U
def TWM.tm(h:TWM X C S e t1):TM X C S e t1:=λhK=>let⟨tt,a1,a2⟩:=h hK;⟨tt,a1.pt,a2⟩
def rj(h:TM X C S a t1):TWM X C S (.BoolOp .And [a] pos) t1:=λhK=>let⟨tt,a1,a2⟩:=h hK;⟨tt,ε a1,a2⟩
def Ys(h:TM X C S a t1):TWM X C S (.BoolOp .Or [a] pos) t1:=λhK=>let⟨tt,a1,a2⟩:=h hK;⟨tt,Ϟ a1,a2⟩
variable {rest:OX}
def BV(h:TM X C S a t1)(h2:TWM X C S (.BoolOp .And (b::rest) pos) t2):TWM X C S (.BoolOp .And (a::b::rest) pos) (BU t1 t2):=λhK=>by
 obtain⟨tt,a1,a2⟩:=h hK;obtain⟨tu,b1,b2⟩:=h2 hK;refine⟨_,Η a1 b1,λB P H Y U R Q q=>a2 B P H Y U R _ (Ka q λc H1 s1 q1=>?_)⟩;cases c with
 |true=>exact BO (b2 B P H1 Y U (R.keep s1) _ q1)
 |false=>exact BM (q1 H1 (zH.refl _))
def V6(h:TM X C S a t1)(h2:TWM X C S (.BoolOp .Or (b::rest) pos) t2):TWM X C S (.BoolOp .Or (a::b::rest) pos) (Te t1 t2):=λhK=>by
 obtain⟨tt,a1,a2⟩:=h hK;obtain⟨tu,b1,b2⟩:=h2 hK;refine⟨_,pw_or a1 b1,λB P H Y U R Q q=>a2 B P H Y U R _ (Ka q λc H1 s1 q1=>?_)⟩;cases c with
 |true=>exact BO (q1 H1 (zH.refl _))
 |false=>exact BM (b2 B P H1 Y U (R.keep s1) _ q1)
def Wz(h:TM X C S a t1):TM X C S (.UnaryOp .Not a pos) (iu t1):=λhK=>by obtain⟨tt,a1,a2⟩:=h hK;exact⟨_,Bx a1,λB P H Y U R Q q=>a2 B P H Y U R _ (Ka q λc H1 s1 q1=>q1 H1 (zH.refl _))⟩
def ZE(h:EM X C S w e m)(he:∀whole,isTrue e X.env whole=(do let v<-whole;standAt e.pos;holding [v] (truthy v)):=by intro _;rfl):TM X C S e (zW m):=λhK=>by obtain⟨te,a1,a2⟩:=h hK;exact⟨_,Bw a1 he,cL a2⟩
def rl{op}(h:EM X C S w a m):EM X C S w (.BoolOp op [a] pos) m:=λhK=>let⟨tt,a1,a2⟩:=h hK;⟨tt,FN a1,a2⟩
def BW(h:EM X C S w1 a m1)(h2:EM X C S false (.BoolOp .And (b::rest) pos) m2):EM X C S false (.BoolOp .And (a::b::rest) pos) (fc m1 m2):=λhK=>by
 obtain⟨tt,a1,a2⟩:=h hK;obtain⟨tu,b1,b2⟩:=h2 hK;refine⟨_,FO a1 b1,λB P H Y U R Q q=>a2 B P H Y U R _ (yr q λx v H1 s1 r1 q1=>?_)⟩;cases x with
 |b c=>
  refine⟨c,(show v=.bl c from r1),?_⟩;cases c with
  |true=>exact BO (b2 B P H1 Y U (R.keep s1) _ q1)
  |false=>exact BM (q1 _ H1 (zH.refl _) (RV.of rfl))
 |_=>exact q1.elim
def DG(h:EM X C S w1 a m1)(h2:EM X C S false (.BoolOp .Or (b::rest) pos) m2):EM X C S false (.BoolOp .Or (a::b::rest) pos) (Lc m1 m2):=λhK=>by
 obtain⟨tt,a1,a2⟩:=h hK;obtain⟨tu,b1,b2⟩:=h2 hK;refine⟨_,LD a1 b1,λB P H Y U R Q q=>a2 B P H Y U R _ (yr q λx v H1 s1 r1 q1=>?_)⟩;cases x with
 |b c=>
  refine⟨c,(show v=.bl c from r1),?_⟩;cases c with
  |true=>exact BO (q1 _ H1 (zH.refl _) (RV.of rfl))
  |false=>exact BM (b2 B P H1 Y U (R.keep s1) _ q1)
 |_=>exact q1.elim
def Mp(h:TM X C S c t1)(h1:EM X C S w a m1)(h2:EM X C S w b m2):EM X C S w (.IfExp c a b pos) (mIf t1 m1 m2):=λhK=>by
 obtain⟨tt,a1,a2⟩:=h hK;obtain⟨tu,b1,b2⟩:=h1 hK;obtain⟨tv,c1,c2⟩:=h2 hK;refine⟨_,xa a1 b1 c1,λB P H Y U R Q q=>a2 B P H Y U R _ (ip q λx H1 s1 q1=>?_)⟩;cases x with
 |true=>exact BO (b2 B P H1 Y U (R.keep s1) _ q1)
 |false=>exact BM (c2 B P H1 Y U (R.keep s1) _ q1)
end
def zM{κ α:Type}[DecidableEq κ](kvs:List (κ×α))(k:κ):Option α:=(kvs.find? λkv=>decide (kv.1=k)).map (·.2)
def jX.get{W:RC}{M:OU}{H:Hp}:∀{kvs:Ph}{es:Pb}{k:Key}{x:PV},jX W M H kvs es->zM kvs k=some x->∃v,aM es k=some v/\Rep W M H x v
 |[],_,_,_,_,e=>by cases e
 |kx::r,_,k,x,h,e=>by
  obtain⟨v,q,rfl,h1,h2⟩:=h;unfold zM at e;unfold aM;rw[a1a]at e ⊢;by_cases c:kx.1=k
  .simp only[c,decide_true]at e ⊢;cases e;exact⟨v,rfl,h1⟩
  .simp only[c,decide_false]at e ⊢;exact jX.get h2 e
def jX.Ld{W:RC}{M:OU}{H:Hp}:∀{kvs:Ph}{es:Pb}{k:Key},jX W M H kvs es->zM kvs k=none->aM es k=none
 |[],_,_,h,_=>by cases(show _=_ from h);rfl
 |kx::r,_,k,h,e=>by
  obtain⟨v,q,rfl,h1,h2⟩:=h;unfold zM at e;unfold aM;rw[a1a]at e ⊢;by_cases c:kx.1=k
  .simp only[c,decide_true]at e;cases e
  .simp only[c,decide_false]at e ⊢;exact jX.Ld h2 e
def jX.Ox(h:jX W M H kvs es):(aM es k).isSome=(zM kvs k).isSome:=by
 cases e:zM kvs k with
 |none=>rw[h.Ld e];rfl
 |some x=>obtain⟨v,q,_⟩:=h.get e;rw[q];rfl
def pk:PV->Option Key
 |.i n=>some (.inl n)
 |.s x=>some (.inr x)
 |_=>none
def Ul(h:yZ W N M H x v)(e:pk x=some k):v=kV k:=by
 cases x with
 |i n=>cases e;exact h
 |s n=>cases e;exact h
 |_=>cases e
def ND:R2:=λx y H Q=>∃a v,x=.ref a/\lN H a y (some v)/\Q v H
def iw(hu:X.A.units+1<cLine):Ϗ X ND:=by
 intro value slice Sa s Y H x y v u Q I rx ry h hs;obtain⟨a,w',rfl,g,q⟩:=h;cases rx;have hT:=ia I g;unfold subscriptTail;refine f8 ?_;rw[getitemInPython_of_ne hT.not_modules];refine f8 (wpAny_specialOf hT PySem.F.slot_dict_getitem.lookup ?_);have fin:wpAny (Rk X) X.A (subscripted slice false (.ref a) u) (λr s₃=>wpAny (Rk X) X.A (letTemporaryGo value (.ref a) r >>= λ_=>pure r) (EP X Sa Y Q) X.xe s₃) X.xe s:=by rw[hs];exact wpAny_operating (Tg (pK hu I g ry λw' s3 I3 rw'=>⟨_,H,I3,rw',q⟩) (λr s₃ h₃=>f8 (wpAny_letTemporaryGo (O5 h₃))) λ_ _ x=>x)
 first
  |exact O5 (f8 fin)
  |exact f8 (O5 (f8 fin))
  |exact f8 fin
def NF(K:Pw):R2:=λx y H Q=>rIx K x y H Q\/ND x y H Q
def ZS{α:Type}:Option α->Out α
 |some a=>.ok a
 |none=>.wall
def Sg:PV->PV->Out PV
 |.l xs,.i k=>ZS (SV xs k)
 |.t xs,.i k=>ZS (SV xs k)
 |.sc ns,.i k=>ZS ((SV ns k).map PV.i)
 |.s z,.i k=>if z.length<=sizeLine then ZS ((SV z.cps.toList k).map λc=>.s ⟨#[c]⟩)else .wall
 |.d kvs,y=>ZS ((pk y).bind λk=>zM kvs k)
 |_,_=>.wall
def qq(h:zV C B H R Q (ZS o)):∃x,o=some x/\∀v H2,zH H H2->R H2 x v->Q v H2:=by
 cases o with
 |none=>exact h.elim
 |some x=>exact⟨x,rfl,h⟩
def GD:Th W (NF W.K) Sg:=λM C B H x y v u Q n hx hy q=>by
 unfold Sg at q;split at q
 .obtain⟨x,e,q⟩:=qq q;obtain⟨p,vs,rfl,_,hl,r⟩:=hx;obtain⟨v,hv,rv⟩:=r.at e;exact .inl (.inl ⟨p,vs,_,v,rfl,hy,Sq.of hl,hv,q v H (zH.refl _) rv⟩)
 .obtain⟨x,e,q⟩:=qq q;obtain⟨p,vs,rfl,hl,r⟩:=hx;obtain⟨v,hv,rv⟩:=r.at e;exact .inl (.inr (.inl ⟨p,vs,_,v,rfl,hy,hl,hv,q v H (zH.refl _) rv⟩))
 .obtain⟨x,e,q⟩:=qq q;obtain⟨p,rfl,hl⟩:=hx;obtain⟨z,hz,rfl⟩:=v4.mp e;refine .inl (.inl ⟨p,_,_,.int z,rfl,hy,hl.sq,?_,q _ H (zH.refl _) rfl⟩);unfold SV at hz ⊢;rw[u8];cases c:ixN _ _ with
  |none=>rw[c]at hz;cases hz
  |some j=>rw[c,Option.bind_some]at hz;show(List.map V.int _)[j]?=_;rw[S7,hz];rfl
 .split at q
  .rename_i hl;obtain⟨x,e,q⟩:=qq q;obtain⟨z,hz,rfl⟩:=v4.mp e;exact .inl (.inr (.inr ⟨_,_,z,hx,hy,hl,hz,q _ H (zH.refl _) rfl⟩))
  .exact q.elim
 .obtain⟨x,e,q⟩:=qq q;obtain⟨p,es,rfl,_,hl,r⟩:=hx;obtain⟨k,hk,e⟩:=R4.mp e;obtain⟨v,hv,rv⟩:=r.get e;exact .inr ⟨p,v,rfl,by rw[Ul hy hk,<- hv];exact lN.rk hl,q v H (zH.refl _) rv⟩
 .exact q.elim
def Mq(hu:X.A.units+1<cLine)(h1:EM X C S w1 a m1)(h2:EM X C S w2 b m2)(hs:Ud b:=by intro _ _;rfl):EM X C S false (.Subscript a b pos) (Se Sg m1 m2):=λhK=>by obtain⟨ta,a1,a2⟩:=h1 hK;obtain⟨tb,b1,b2⟩:=h2 hK;exact⟨_,Dj (BG.or (iw hu)) a1 b1 hs,p6 (by rw[hK];exact GD) a2 b2⟩
def toV:PV->Option V
 |.i a=>some (.int a)
 |.s a=>some (.str a)
 |.b a=>some (.bl a)
 |.n=>some .non
 |_=>none
def Um(h:yZ W N M H x v)(e:toV x=some u):v=u/\Xk u=true:=by cases x<;>first|(cases e;exact⟨h,rfl⟩)|cases e
def GF:Option Bool->Option Bool->Option Bool
 |some a,some b=>some (a&&b)
 |_,_=>none
def uX(f:PN):List PV->List PV->Option Bool
 |[],[]=>some true
 |x::xs,y::ys=>GF (f x y) (uX f xs ys)
 |_,_=>some false
def Fx(f:PN)(b:Ph):List (Key×PV)->Option Bool
 |[]=>some true
 |kx::r=>match zM b kx.1 with
  |none=>some false
  |some y=>GF (f kx.2 y) (Fx f b r)
def GG(x y:PV):Option Bool:=match toV x,toV y with|some a,some b=>some (θ a b)|_,_=>none
def aN:Nat->PV->PV->Option Bool
 |n+1,.l xs,.l ys=>uX (aN n) xs ys
 |n+1,.t xs,.t ys=>uX (aN n) xs ys
 |_,x,y=>GG x y
def BX(n:Nat):PV->PV->Option Bool
 |.d a,.d b=>if a.length=b.length then Fx (aN n) b a else some false
 |x,y=>aN n x y
def KR(h:GF a b=some c):∃p q,a=some p/\b=some q/\c=(p&&q):=by cases a<;>cases b<;>first|(cases h;done)|(cases h;exact⟨_,_,rfl,rfl,rfl⟩)
def l0{f:PN}:∀{xs ys:Pe}{b:Bool},uX f xs ys=some b->xs.length≠ys.length->b=false
 |[],[],_,_,h=>absurd rfl h
 |[],_::_,_,h,_=>by cases h;rfl
 |_::_,[],_,h,_=>by cases h;rfl
 |x::xs,y::ys,b,h,n=>by obtain⟨p,q,_,h2,rfl⟩:=KR h;rw[l0 h2 (λz=>n (by rw[v0,v0,z])),a1W]
def iy{f:PN}:∀{xs ys:Pe}{b:Bool},uX f xs ys=some b->∃e:Nat->Bool,(∀j x y,xs[j]?=some x->ys[j]?=some y->f x y=some (e j))/\b=((List.range (min xs.length ys.length)).all e&&xs.length==ys.length)
 |[],[],b,h=>⟨λ_=>true,(λj x y h=>by simp at h),by cases h;rfl⟩
 |[],_::_,b,h=>⟨λ_=>true,(λj x y h=>by simp at h),by cases h;simp⟩
 |_::_,[],b,h=>⟨λ_=>true,(λj x y _ h=>by simp at h),by cases h;simp⟩
 |x::xs,y::ys,b,h=>by
  obtain⟨p,q,h1,h2,rfl⟩:=KR h;obtain⟨e,he,rfl⟩:=iy h2;refine⟨λj=>match j with|0=>p|j+1=>e j,λj a c ha hc=>?_,?_⟩
  .cases j with
   |zero=>simp only[List.getElem?_cons_zero,Option.some.injEq]at ha hc;subst ha;subst hc;exact h1
   |succ j=>simp only[List.getElem?_cons_succ]at ha hc;exact he j a c ha hc
  .simp only[List.length_cons,Nat.add_min_add_right,List.range_succ_eq_map,List.all_cons,List.all_map,Bool.and_assoc];congr 1;simp[Function.comp_def]
section
variable {X:Cx}{Sa:OR}{Y:St}{H:Hp}{s:OV}{W:RC}
def DH(I:Inv X Sa Y H s)(hK:W.K=X.K):∀{n:Nat}{x y:PV}{b:Bool}{v:V}{N M N' M':OU},aN n x y=some b->yZ W N M H x v->yZ W N' M' H y v->b=true:=by
 have fl:∀{x y:PV}{b:Bool}{v:V}{N M N' M':OU},GG x y=some b->yZ W N M H x v->yZ W N' M' H y v->b=true:=by
  intro x y b v N M N' M' h h1 h2;unfold GG at h;cases ex:toV x with
  |none=>rw[ex]at h;cases h
  |some a=>
   cases ey:toV y with
   |none=>rw[ex,ey]at h;cases h
   |some c=>rw[ex,ey]at h;obtain⟨e1,f1⟩:=Um h1 ex;obtain⟨e2,_⟩:=Um h2 ey;cases h;rw[<- e1]at f1 ⊢;rw[<- e2];cases v<;>first|rfl|(cases f1;done)|(simp[θ];done)
 intro n
 induction n with
 |zero=>intro x y b v N M N' M' h;exact fl (by cases x<;>cases y<;>exact h)
 |succ n ih=>
  have Sf:∀{xs ys:Pe}{vs:Pa}{b:Bool}{M M':OU},uX (aN n) xs ys=some b->yq W M H xs vs->yq W M' H ys vs->b=true:=by
   intro xs
   induction xs with
   |nil=>intro ys vs b M M' h h1 h2;cases(show _=_ from h1);cases ys with
    |nil=>cases h;rfl
    |cons y ys=>obtain⟨_,_,e,_⟩:=h2;cases e
   |cons x xs ihx=>
    intro ys vs b M M' h h1 h2;obtain⟨v,r,rfl,hx,hr⟩:=h1;cases ys with
    |nil=>cases(show _=_ from h2)
    |cons y ys=>obtain⟨v',r',e,hy,hr'⟩:=h2;cases e;obtain⟨p,q,hp,hq,rfl⟩:=KR h;rw[ih hp (yZ.iff.mpr hx) (yZ.iff.mpr hy),ihx hq hr hr'];rfl
  intro x y b v N M N' M' h h1 h2;cases x with
  |l xs=>
   cases y with
   |l ys=>obtain⟨p,vs,rfl,_,e,r⟩:=h1;obtain⟨p',vs',e2,_,e',r'⟩:=h2;cases e2;rw[e]at e';cases e';exact Sf h r r'
   |_=>exact fl h h1 h2
  |t xs=>
   cases y with
   |t ys=>obtain⟨p,vs,rfl,e,r⟩:=h1;obtain⟨p',vs',e2,e',r'⟩:=h2;cases e2;rw[hK]at e e';cases I.d_ e e';exact Sf h r r'
   |_=>exact fl h h1 h2
  |_=>exact fl (by cases y<;>exact h) h1 h2
def BY(ry:RelV y u)(rx:RelV x v)(fy:Xk y=true)(fx:Xk x=true):SeqAt.RcAt A s u v (θ y x)/\SeqAt.RcNeAt A s u v (!θ y x):=by
 cases y with
 |non=>
  cases ry;cases x with
  |non=>cases rx;exact⟨SeqAt.RcAt.none_none,SeqAt.RcNeAt.none_none⟩
  |bl b=>cases rx;exact⟨SeqAt.RcAt.none_bool b,SeqAt.RcNeAt.none_bool b⟩
  |int b=>obtain⟨t,rfl⟩:=rx;exact⟨SeqAt.RcAt.none_int b t,SeqAt.RcNeAt.none_int b t⟩
  |str b=>obtain⟨t,rfl⟩:=rx;exact⟨SeqAt.RcAt.none_str b t,SeqAt.RcNeAt.none_str b t⟩
  |_=>exact absurd (show false=true from fx) P5
 |bl a=>
  cases ry;cases x with
  |non=>cases rx;exact⟨SeqAt.RcAt.bool_none a,SeqAt.RcNeAt.bool_none a⟩
  |bl b=>cases rx;exact⟨SeqAt.RcAt.bool_bool a b,SeqAt.RcNeAt.bool_bool a b⟩
  |int b=>obtain⟨t,rfl⟩:=rx;exact⟨SeqAt.RcAt.bool_int a b t,SeqAt.RcNeAt.bool_int a b t⟩
  |str b=>obtain⟨t,rfl⟩:=rx;exact⟨SeqAt.RcAt.bool_str a b t,SeqAt.RcNeAt.bool_str a b t⟩
  |_=>exact absurd (show false=true from fx) P5
 |int a=>
  obtain⟨t',rfl⟩:=ry;cases x with
  |non=>cases rx;exact⟨SeqAt.RcAt.int_none a t',SeqAt.RcNeAt.int_none a t'⟩
  |bl b=>cases rx;exact⟨SeqAt.RcAt.int_bool a t' b,SeqAt.RcNeAt.int_bool a t' b⟩
  |int b=>obtain⟨t,rfl⟩:=rx;exact⟨SeqAt.RcAt.int_int a t' b t,SeqAt.RcNeAt.int_int a t' b t⟩
  |str b=>obtain⟨t,rfl⟩:=rx;exact⟨SeqAt.RcAt.int_str a t' b t,SeqAt.RcNeAt.int_str a t' b t⟩
  |_=>exact absurd (show false=true from fx) P5
 |str a=>
  obtain⟨t',rfl⟩:=ry;cases x with
  |non=>cases rx;exact⟨SeqAt.RcAt.str_none a t',SeqAt.RcNeAt.str_none a t'⟩
  |bl b=>cases rx;exact⟨SeqAt.RcAt.str_bool a t' b,SeqAt.RcNeAt.str_bool a t' b⟩
  |int b=>obtain⟨t,rfl⟩:=rx;exact⟨SeqAt.RcAt.str_int a t' b t,SeqAt.RcNeAt.str_int a t' b t⟩
  |str b=>obtain⟨t,rfl⟩:=rx;exact⟨SeqAt.RcAt.str_str a t' b t,SeqAt.RcNeAt.str_str a t' b t⟩
  |_=>exact absurd (show false=true from fx) P5
 |_=>exact absurd (show false=true from fy) P5
def cN(h:GG x y=some b)(h1:yZ W N M H x xv)(h2:yZ W N' M' H y yv)(ru:RelV xv u)(rv:RelV yv v):
  SeqAt.EqAt A s u v b/\SeqAt.RcAt A s u v b/\SeqAt.RcNeAt A s u v (!b):=by
 unfold GG at h;cases ex:toV x with
 |none=>rw[ex]at h;cases h
 |some a=>
  cases ey:toV y with
  |none=>rw[ex,ey]at h;cases h
  |some c=>rw[ex,ey]at h;cases h;obtain⟨rfl,f1⟩:=Um h1 ex;obtain⟨rfl,f2⟩:=Um h2 ey;exact⟨BH ru rv f1 f2,(BY ru rv f1 f2).1,(BY ru rv f1 f2).2⟩
def DI(I:Inv X Sa Y H s)(hK:W.K=X.K):∀(n:Nat){A:Po}{x y:PV}{b:Bool}{xv yv:V}{u v:Value}{N M N' M':OU},aN n x y=some b->yZ W N M H x xv->yZ W N' M' H y yv->RelV xv u->RelV yv v->A.units+n<cLine->
  SeqAt.EqAt A s u v b/\SeqAt.RcAt A s u v b/\SeqAt.RcNeAt A s u v (!b):=by
 intro n
 induction n with
 |zero=>intro A x y b xv yv u v N M N' M' h h1 h2 ru rv _;exact cN (by cases x<;>cases y<;>exact h) h1 h2 ru rv
 |succ n ih=>
  intro A x y b xv yv u v N M N' M' h h1 h2 ru rv hu;have top:∀{p q:Addr},u=.ref p->v=.ref q->xv=.ref p->yv=.ref q->SeqAt.RcAt A s u v b/\SeqAt.RcNeAt A s u v (!b)->SeqAt.EqAt A s u v b/\SeqAt.RcAt A s u v b/\SeqAt.RcNeAt A s u v (!b):=λ{p q} e1 e2 e3 e4 hr=>by
   refine⟨?_,hr⟩;by_cases c:p=q
   .subst c;rw[e1,e2];rw[DH I hK h (e3▸h1) (e4▸h2)];exact SeqAt.EqAt.same _
   .rw[e1,e2]at hr ⊢;exact SeqAt.EqAt.of_refs c hr.1
  cases x with
  |l xs=>
   cases y with
   |l ys=>
    obtain⟨p,vs,rfl,_,e,r⟩:=h1;obtain⟨p',vs',rfl,_,e',r'⟩:=h2;cases ru;cases rv;refine top rfl rfl rfl rfl ?_;obtain⟨us,r1,p1,_⟩:=I.list (Sq.of e);obtain⟨ws,r2,p2,_⟩:=I.list (Sq.of e');have l1:us.toArray.size=xs.length:=by rw[P0,<- r1.length,r.len]
    have l2:ws.toArray.size=ys.length:=by rw[P0,<- r2.length,r'.len]
    by_cases hl:xs.length=ys.length
    .obtain⟨f,hf,rfl⟩:=iy h;rw[hl,a0Z,Bool.and_true,Nat.min_self,<- hl,<- l1];have it:=lY (A:=A.in1) (e:=f) (s:=s) r1 r2 λj x y u v hx hy ru rv=>by obtain⟨x',hx',rx'⟩:=r.Fv hx;obtain⟨y',hy',ry'⟩:=r'.Fv hy;exact(ih (A:=A.in1) (hf j x' y' hx' hy') (yZ.iff.mpr rx') (yZ.iff.mpr ry') ru rv (by show A.units+1+n<cLine;omega)).1
     exact⟨SeqAt.RcAt.lists p1.isList p2.isList (by rw[l1,l2,hl]) (by omega) it,SeqAt.RcNeAt.lists p1.isList p2.isList (by rw[l1,l2,hl]) (by omega) it⟩
    .rw[l0 h hl];exact⟨SeqAt.RcAt.lists_lengths p1.isList p2.isList (by rw[l1,l2];simpa using hl) (by omega),SeqAt.RcNeAt.lists_lengths p1.isList p2.isList (by rw[l1,l2];simpa using hl) (by omega)⟩
   |_=>exact cN h h1 h2 ru rv
  |t xs=>
   cases y with
   |t ys=>
    obtain⟨p,vs,rfl,e,r⟩:=h1;obtain⟨p',vs',rfl,e',r'⟩:=h2;cases ru;cases rv;refine top rfl rfl rfl rfl ?_;rw[hK]at e e';obtain⟨us,r1,p1,_⟩:=I.tuple e;obtain⟨ws,r2,p2,_⟩:=I.tuple e';have l1:us.toArray.size=xs.length:=by rw[P0,<- r1.length,r.len]
    have l2:ws.toArray.size=ys.length:=by rw[P0,<- r2.length,r'.len]
    obtain⟨f,hf,rfl⟩:=iy h;have it:=lY (A:=A.in1) (e:=f) (s:=s) r1 r2 λj x y u v hx hy ru rv=>by obtain⟨x',hx',rx'⟩:=r.Fv hx;obtain⟨y',hy',ry'⟩:=r'.Fv hy;exact(ih (A:=A.in1) (hf j x' y' hx' hy') (yZ.iff.mpr rx') (yZ.iff.mpr ry') ru rv (by show A.units+1+n<cLine;omega)).1
    rw[<- l1,<- l2];exact⟨SeqAt.RcAt.tuples p1 p2 (by omega) it,SeqAt.RcNeAt.tuples p1 p2 (by omega) it⟩
   |_=>exact cN h h1 h2 ru rv
  |_=>exact cN (by cases y<;>exact h) h1 h2 ru rv
def GI{es:Pb}{vs:PH}(r:KV es vs){k:Key}{v:V}(h:aM es k=some v):∃u,valueAt vs k=some u/\RelV v u:=Xi.some_of (v:=v) (o:=valueAt vs k) (by rw[<- h];exact KV.val r k)
def DJ{es:Pb}{vs:PH}(r:KV es vs){k:Key}(h:aM es k=none):valueAt vs k=none:=by
 have:=KV.val r k;rw[h]at this;cases e:valueAt vs k with
 |none=>rfl
 |some u=>rw[e]at this;exact this.elim
def iz(I:Inv X Sa Y H s)(hK:W.K=X.K){n:Nat}{A:Po}(hu:A.units+n<cLine){b:Ph}{eb:Pb}{vb:PH}{M M':OU}(rb:jX W M' H b eb)(kb:KV eb vb):
  ∀{a:Ph}{ea:Pb}{va:PH}{r:Bool},jX W M H a ea->KV ea va->Fx (aN n) b a=some r->KeqHits A s vb va r
 |[],_,_,_,h,k,e=>by cases(show _=_ from h);cases k;cases e;exact .nil
 |kx::a,_,_,r,h,k,e=>by
  obtain⟨v,q,rfl,h1,h2⟩:=h;cases k with
  |@cons _ u _ us rr kk=>
   obtain⟨k',u⟩:=u;obtain⟨e1,ru⟩:=rr;cases e1;unfold Fx at e;cases hy:zM b kx.1 with
   |none=>rw[hy]at e;cases e;exact .miss (DJ kb (rb.Ld hy))
   |some y=>rw[hy]at e;obtain⟨p,q,hp,hq,rfl⟩:=KR e;obtain⟨yv,hyv,ry⟩:=rb.get hy;obtain⟨yu,hyu,ryu⟩:=GI kb hyv;exact .hit hyu (DI I hK n hp (yZ.iff.mpr h1) (yZ.iff.mpr ry) ru ryu hu).1 (iz I hK hu rb kb h2 kk hq)
end
def Mr(W:RC)(neg:Bool):R2:=λxv yv H Q=>∃M x y b,yZ W (λ_=>True) M H x xv/\yZ W (λ_=>True) M H y yv/\BX 8 x y=some b/\Q (.bl (xor neg b)) H
def rq:(∃a b,x=.d a/\y=.d b)\/BX n x y=aN n x y:=by
 cases x with
 |d a=>cases y with
  |d b=>exact .inl ⟨a,b,rfl,rfl⟩
  |_=>exact .inr rfl
 |_=>exact .inr rfl
def BZ(hK:W.K=X.K)(hu:X.A.units+64<cLine):Sx X (compareOp .Eq) (Mr W false):=by
 intro Sa s Y H xv yv u v Q I ru rv h;obtain⟨M,x,y,b,h1,h2,e,q⟩:=h;rw[ϑ]at q;rcases rq (n:=8) (x:=x) (y:=y)with⟨a,c,rfl,rfl⟩|z
 .obtain⟨p,es,rfl,_,ha,ra⟩:=h1;obtain⟨p',es',rfl,_,hb,rb⟩:=h2;cases ru;cases rv;obtain⟨_,na,va,ka,da⟩:=J9 I.hok ha;obtain⟨_,nb,vb,kb,db⟩:=J9 I.hok hb;have l1:va.length=a.length:=by rw[<- ϳ ka];have:=SS List.length (jX.iff.mp ra).1;simpa using this
  have l2:vb.length=c.length:=by rw[<- ϳ kb];have:=SS List.length (jX.iff.mp rb).1;simpa using this
  have e:(if a.length=c.length then Fx (aN 8) c a else some false)=some b:=e;by_cases hl:a.length=c.length
  .rw[if_pos hl]at e;refine keq_eq na nb da db (by omega) (λ_=>iz I hK (A:=X.A.in1) (by show X.A.units+1+8<cLine;omega) rb kb ra ka e) ?_;rw[l1,l2,hl,a0Z,Bool.true_and];exact⟨.bl b,H,I,rfl,q⟩
  .rw[if_neg hl]at e;cases e;refine keq_eq (r:=false) na nb da db (by omega) (λz=>absurd (by rw[<- l1,<- l2,z]) hl) ?_;rw[a1W];exact⟨.bl false,H,I,rfl,q⟩
 .rw[z]at e;exact(DI I hK 8 e h1 h2 ru rv (by omega)).2.1 _ _ _ _ ⟨.bl b,H,I,rfl,q⟩
def GJ(hK:W.K=X.K)(hu:X.A.units+64<cLine):Sx X (compareOp .NotEq) (Mr W true):=by
 intro Sa s Y H xv yv u v Q I ru rv h;obtain⟨M,x,y,b,h1,h2,e,q⟩:=h;rw[a10]at q;rcases rq (n:=8) (x:=x) (y:=y)with⟨a,c,rfl,rfl⟩|z
 .obtain⟨p,es,rfl,_,ha,ra⟩:=h1;obtain⟨p',es',rfl,_,hb,rb⟩:=h2;cases ru;cases rv;obtain⟨_,na,va,ka,da⟩:=J9 I.hok ha;obtain⟨_,nb,vb,kb,db⟩:=J9 I.hok hb;have l1:va.length=a.length:=by rw[<- ϳ ka];have:=SS List.length (jX.iff.mp ra).1;simpa using this
  have l2:vb.length=c.length:=by rw[<- ϳ kb];have:=SS List.length (jX.iff.mp rb).1;simpa using this
  have e:(if a.length=c.length then Fx (aN 8) c a else some false)=some b:=e;by_cases hl:a.length=c.length
  .rw[if_pos hl]at e;refine keq_ne na nb da db (by omega) (λ_=>iz I hK (A:=X.A.in1) (by show X.A.units+1+8<cLine;omega) rb kb ra ka e) ?_;rw[l1,l2,hl,a0Z,Bool.true_and];exact⟨.bl (!b),H,I,rfl,q⟩
  .rw[if_neg hl]at e;cases e;refine keq_ne (r:=false) na nb da db (by omega) (λz=>absurd (by rw[<- l1,<- l2,z]) hl) ?_;rw[a1W];exact⟨.bl (!false),H,I,rfl,q⟩
 .rw[z]at e;exact(DI I hK 8 e h1 h2 ru rv (by omega)).2.2 _ _ _ _ ⟨.bl (!b),H,I,rfl,q⟩
def qE(neg:Bool)(x y:PV):Out PV:=match BX 8 x y with|some b=>.ok (.b (xor neg b))|none=>.wall
def rA:Th W (Mr W neg) (qE neg):=λM C B H x y v u Q n hx hy q=>by
 unfold qE at q;cases e:BX 8 x y with
 |none=>rw[e]at q;exact q.elim
 |some b=>rw[e]at q;exact⟨M,x,y,b,hx,hy,e,q _ H (zH.refl _) rfl⟩
def rB(hu:X.A.units+64<cLine)(h1:EM X C S w1 a m1)(h2:EM X C S w2 b m2):EM X C S false (.Compare a [.Eq] [b] pos) (Se (qE false) m1 m2):=λhK=>lZ (BZ hK.symm hu) rA h1 h2 (cC _ (by decide) (by decide)) hK
def rC(hu:X.A.units+64<cLine)(h1:EM X C S w1 a m1)(h2:EM X C S w2 b m2):TM X C S (.Compare a [.Eq] [b] pos) (zW (Se (qE false) m1 m2)):=λhK=>qp (BZ hK.symm hu) rA h1 h2 (cC _ (by decide) (by decide)) hK
def fe(hu:X.A.units+64<cLine)(h1:EM X C S w1 a m1)(h2:EM X C S w2 b m2):TM X C S (.Compare a [.NotEq] [b] pos) (zW (Se (qE true) m1 m2)):=λhK=>qp (GJ hK.symm hu) rA h1 h2 (cC _ (by decide) (by decide)) hK
def ϐ(v:V):List PV->Option Bool
 |[]=>some false
 |y::r=>match toV y,ϐ v r with
  |some u,some b=>some (θ u v||b)
  |_,_=>none
def rD{W:RC}{M:OU}{H:Hp}{v:V}:∀{ys:Pe}{vs:Pa}{b:Bool},yq W M H ys vs->ϐ v ys=some b->vs.all Xk=true/\inV v vs=b
 |[],_,_,h,e=>by cases(show _=_ from h);cases e;exact⟨rfl,rfl⟩
 |y::ys,_,b,h,e=>by
  obtain⟨u,r,rfl,h1,h2⟩:=h;unfold ϐ at e;cases hy:toV y with
  |none=>rw[hy]at e;cases e
  |some u'=>
   cases hr:ϐ v ys with
   |none=>rw[hy,hr]at e;cases e
   |some b'=>rw[hy,hr]at e;cases e;obtain⟨rfl,f⟩:=Um (yZ.iff.mpr h1) hy;obtain⟨f2,e2⟩:=rD h2 hr;exact⟨by rw[a2X,f,f2];rfl,by unfold inV at e2 ⊢;rw[π,e2]⟩
def Le(K:Pw)(neg:Bool):R2:=λx y H Q=>(rIn K neg x y H Q\/∃i j,x=.str i/\y=.str j/\Q (.bl (xor neg (!(Builtin.Str.occurrences j i 0 j.length 1).isEmpty))) H)\/∃a o,y=.ref a/\lN H a x o/\Q (.bl (xor neg o.isSome)) H
def B0(hu:X.A.units+1<cLine):Sx X (compareOp .In) (Le X.K false):=by
 intro Sa s Y H x y v u Q I rx ry h;rcases h with(h|⟨i,j,e1,e2,q⟩)|⟨a,o,rfl,g,q⟩
 .exact pH Sa s Y H x y v u Q I rx ry h
 .exact px Sa s Y H x y v u Q I rx ry ⟨i,j,e1,e2,by rw[ϑ]at q;exact q⟩
 .obtain rfl:u=Value.ref a:=ry;exact Om hu I g rx λs3 I3=>⟨.bl o.isSome,H,I3,rfl,by rw[ϑ]at q;exact q⟩
def ff(hu:X.A.units+1<cLine):Sx X (compareOp .NotIn) (Le X.K true):=by
 intro Sa s Y H x y v u Q I rx ry h;rcases h with(h|⟨i,j,e1,e2,q⟩)|⟨a,o,rfl,g,q⟩
 .exact eJ Sa s Y H x y v u Q I rx ry h
 .exact eK Sa s Y H x y v u Q I rx ry ⟨i,j,e1,e2,by rw[a10]at q;exact q⟩
 .obtain rfl:u=Value.ref a:=ry;exact Dq hu I g rx λs3 I3=>⟨.bl (!o.isSome),H,I3,rfl,by rw[a10]at q;exact q⟩
def TN(neg:Bool):PV->PV->Out PV
 |x,.l ys=>ZS (((toV x).bind λv=>ϐ v ys).map λb=>.b (xor neg b))
 |x,.t ys=>ZS (((toV x).bind λv=>ϐ v ys).map λb=>.b (xor neg b))
 |.s i,.s j=>.ok (.b (xor neg (!(Builtin.Str.occurrences j i 0 j.length 1).isEmpty)))
 |x,.d kvs=>ZS ((pk x).map λk=>.b (xor neg (zM kvs k).isSome))
 |_,_=>.wall
def rE:(if neg=true then !b else b)=xor neg b:=by cases neg<;>simp
def GK:Th W (Le W.K neg) (TN neg):=λM C B H x y v u Q n hx hy q=>by
 unfold TN at q;split at q
 .obtain⟨z,e,q⟩:=qq q;obtain⟨b,hb,rfl⟩:=v4.mp e;obtain⟨xv,hxv,hb⟩:=R4.mp hb;obtain⟨p,vs,rfl,_,hl,r⟩:=hy;obtain⟨rfl,f⟩:=Um hx hxv;obtain⟨f2,e2⟩:=rD r hb;exact .inl (.inl ⟨p,vs,rfl,.inl (Sq.of hl),f,f2,by rw[e2,rE];exact q _ H (zH.refl _) rfl⟩)
 .obtain⟨z,e,q⟩:=qq q;obtain⟨b,hb,rfl⟩:=v4.mp e;obtain⟨xv,hxv,hb⟩:=R4.mp hb;obtain⟨p,vs,rfl,hl,r⟩:=hy;obtain⟨rfl,f⟩:=Um hx hxv;obtain⟨f2,e2⟩:=rD r hb;exact .inl (.inl ⟨p,vs,rfl,.inr hl,f,f2,by rw[e2,rE];exact q _ H (zH.refl _) rfl⟩)
 .exact .inl (.inr ⟨_,_,hx,hy,q _ H (zH.refl _) rfl⟩)
 .obtain⟨z,e,q⟩:=qq q;obtain⟨k,hk,rfl⟩:=v4.mp e;obtain⟨p,es,rfl,_,hl,r⟩:=hy;exact .inr ⟨p,_,rfl,by rw[Ul hx hk];exact lN.rk hl,by rw[r.Ox];exact q _ H (zH.refl _) rfl⟩
 .exact q.elim
section
variable {X:Cx}{C:LC}{S:OS}{e a b:Pc}{es:OX}{w w1 w2:Bool}{ws:OW}{m m1 m2:ME}{ms:MA}{pos p:Pos}{x:Str}
def xP(hu:X.A.units+1<cLine)(h1:EM X C S w1 a m1)(h2:EM X C S w2 b m2)(hm:behindInMarks .In b=false:=by with_unfolding_all rfl):TM X C S (.Compare a [.In] [b] pos) (zW (Se (TN false) m1 m2)):=λhK=>qp (B0 hu) (by rw[hK];exact GK) h1 h2 hm hK
def XM(hu:X.A.units+1<cLine)(h1:EM X C S w1 a m1)(h2:EM X C S w2 b m2)(hm:behindInMarks .NotIn b=false:=by with_unfolding_all rfl):TM X C S (.Compare a [.NotIn] [b] pos) (zW (Se (TN true) m1 m2)):=λhK=>qp (ff hu) (by rw[hK];exact GK) h1 h2 hm hK
def xQ(W:RC)(M:OU)(H:Hp):List PV->List V->Prop
 |[],vs=>vs=[]
 |x::xs,vs=>∃v r,vs=v::r/\yZ W (λ_=>True) M H x v/\xQ W M H xs r
def TH.weak{B:Bs}{P:O_}{H:Hp}:∀{ws:OW}{xs:Pe}{vs:Pa},TH C B S P H ws xs vs->xQ C.W (Sl B S P) H xs vs
 |[],_,_,⟨e1,e2⟩=>by subst e1;subst e2;rfl
 |w::ws,_,_,⟨x,v,xr,vr,e1,e2,h1,h2⟩=>by subst e1;subst e2;exact⟨v,vr,rfl,h1.weak,TH.weak h2⟩
def LfC(W:RC)(r:List V->Hp->VK->Prop)(p:Pd):Prop:=∀(M:OU)(C:LC)(B:Bs) H xs vs Q,Ϝ M H->xQ W M H xs vs->zV C B H (Rep W M) Q (p xs)->r vs H Q
def LfF(W:RC)(r:List V->Hp->VK->Prop)(p:Pd):Prop:=∀(M:OU)(C:LC)(B:Bs) H xs vs Q,Ϝ M H->xQ W M H xs vs->zV C B H (SW W M H) Q (p xs)->r vs H Q
def zg(g:Pd)(ms:MA):ME:=λU=>(ms U).bind g
def GL(L:LfC C.W r g)(h:LA C S ws ta ms):LE C S false (tCB r ta) (zg g ms):=λB P H Y U R Q q=>
 h B P H Y U R _ (je q λxs vs H1 s1 r1 q1=>L _ C B H1 xs vs Q (R.keep s1).new r1.weak (RV.eq▸q1))
def ZY(h:zV C B H (SW W M H) Q o)(s:zH H H2):zV C B H2 (SW W M H2) Q o:=by
 cases o with
 |ok x=>exact λv H3 s3 hx=>h v H3 (s.trans s3) (let⟨p,e,hp,hr⟩:=hx;⟨p,e,zH.none s hp,hr⟩)
 |exc c fs=>exact h
 |wall=>exact h
def ZZ(h:zV C B H (SW W M H) Q (o.bind f))(k:∀r v H2,zH H H2->R' H2 r v->zV C B H2 (SW W M H2) Q (f r)->Q' v H2):n4 C B H R' Q' o:=by
 cases o with
 |ok r=>exact λv H2 s hr=>k r v H2 s hr (ZY (o:=f r) h s)
 |exc c fs=>exact h
 |wall=>exact h
def iA(h:zV C B H (SW W M H) Q (o.bind f))(k:∀r v H2,zH H H2->R' H2 r v->zV C B H2 (SW W M H2) Q (f r)->Q' v H2):zV C B H R' Q' o:=by
 cases o with
 |ok r=>exact λv H2 s hr=>k r v H2 s hr (ZY (o:=f r) h s)
 |exc c fs=>exact h
 |wall=>exact h
def Ms(L:LfF C.W r g)(h:LA C S ws ta ms):ϝ C S (tCB r ta) (zg g ms):=λB P H Y U R Q q=>
 h B P H Y U R _ (ZZ q λxs vs H1 s1 r1 q1=>L _ C B H1 xs vs Q (R.keep s1).new r1.weak q1)
def l4{id:String}{r:List V->Hp->VK->Prop}{g:Pd}(hc:X.K=C.W.K->ZV X (.builtin id) r)(L:LfC C.W r g)(hg:Gl X x)(hm:X.mg x=none)(hv:bootBuiltins x=some (.builtin id))(ha:AM X C S ws (e::es) ms)(hn:x≠"__name__":=by decide)(hdb:Rn x:=by decide)(he:starEach (e::es) X.env=(false,eval e X.env)::starEach es X.env:=by rfl)(hpl:(backTo pos (starEach es X.env)).any (·.1)=false:=by rfl):EM X C S false (.Call (.Name x p) (e::es) [] pos) (zg g ms):=λhK=>by
 obtain⟨ta,a1,a2⟩:=ha hK;exact⟨_,lJ (hc hK) hg hm hv a1 hn hdb he hpl,GL L a2⟩
def xR{id:String}{r:List V->Hp->VK->Prop}{g:Pd}(hc:X.K=C.W.K->ZV X (.type id) r)(L:LfC C.W r g)(hg:Gl X x)(hm:X.mg x=none)(hv:bootBuiltins x=some (.type id))(ha:AM X C S ws (e::es) ms)(hn:x≠"__name__":=by decide)(hdb:Rn x:=by decide)(he:starEach (e::es) X.env=(false,eval e X.env)::starEach es X.env:=by rfl)(hpl:(backTo pos (starEach es X.env)).any (·.1)=false:=by rfl):EM X C S false (.Call (.Name x p) (e::es) [] pos) (zg g ms):=λhK=>by
 obtain⟨ta,a1,a2⟩:=ha hK;exact⟨_,eG (hc hK) hg hm hv a1 hn hdb he hpl,GL L a2⟩
def l5{id:String}{r:List V->Hp->VK->Prop}{g:Pd}(hc:X.K=C.W.K->ZV X (.type id) r)(L:LfF C.W r g)(hg:Gl X x)(hm:X.mg x=none)(hv:bootBuiltins x=some (.type id))(ha:AM X C S ws (e::es) ms)(hn:x≠"__name__":=by decide)(hdb:Rn x:=by decide)(he:starEach (e::es) X.env=(false,eval e X.env)::starEach es X.env:=by rfl)(hpl:(backTo pos (starEach es X.env)).any (·.1)=false:=by rfl):FM X C S (.Call (.Name x p) (e::es) [] pos) (zg g ms):=λhK=>by
 obtain⟨ta,a1,a2⟩:=ha hK;exact⟨_,eG (hc hK) hg hm hv a1 hn hdb he hpl,Ms L a2⟩
end
def jC:List PV->Out PV
 |[.l xs]=>.ok (.i xs.length)
 |[.t xs]=>.ok (.i xs.length)
 |[.sc xs]=>.ok (.i xs.length)
 |[.d xs]=>.ok (.i xs.length)
 |[.s z]=>if z.length<=sizeLine then .ok (.i z.length)else .wall
 |_=>.wall
def jX.len(h:jX W M H a es):es.length=a.length:=by have:=SS List.length (jX.iff.mp h).1;simpa using this
def GN(K:Pw):List V->Hp->VK->Prop:=λxs H Q=>(∃x n,xs=[x]/\Nv K x H n/\Q (.int n) H)\/∃a kvs,xs=[V.ref a]/\Rd H a (.dK kvs)/\Q (.int kvs.length) H
def rF:ZV X (.builtin "len") (λxs H Q=>∃a kvs,xs=[V.ref a]/\Rd H a (.dK kvs)/\Q (.int kvs.length) H):=by intro Sa s Y H xs us Q I r h;obtain⟨a,kvs,rfl,e,q⟩:=h;obtain⟨u,rfl,ru⟩:=vals1 r;cases ru;exact L9 I e λt s' I'=>⟨.int _,H,I',⟨t,rfl⟩,q⟩
def GO:LfC W (GN W.K) jC:=λM C B H xs vs Q n h q=>by
 unfold jC at q;split at q
 .obtain⟨v,r,rfl,⟨p,vs,rfl,_,hl,rr⟩,hr⟩:=h;cases(show _=_ from hr);exact .inl ⟨_,vs.length,rfl,.inl ⟨vs,Sq.of hl,rfl⟩,q _ H (zH.refl _) (by rw[rr.len];rfl)⟩
 .obtain⟨v,r,rfl,⟨p,vs,rfl,hl,rr⟩,hr⟩:=h;cases(show _=_ from hr);exact .inl ⟨_,vs.length,rfl,.inr ⟨vs,hl,rfl⟩,q _ H (zH.refl _) (by rw[rr.len];rfl)⟩
 .obtain⟨v,r,rfl,⟨p,rfl,hl⟩,hr⟩:=h;cases(show _=_ from hr);exact .inl ⟨_,_,rfl,.inl ⟨_,hl.sq,rfl⟩,q _ H (zH.refl _) (by rw[u8];rfl)⟩
 .obtain⟨v,r,rfl,⟨p,es,rfl,_,hl,rr⟩,hr⟩:=h;cases(show _=_ from hr);exact .inr ⟨_,es,rfl,hl,q _ H (zH.refl _) (by rw[rr.len];rfl)⟩
 .split at q
  .rename_i hz;obtain⟨v,r,rfl,hx,hr⟩:=h;cases(show _=_ from hr);cases(show _=_ from hx);exact .inl ⟨_,_,rfl,⟨hz,rfl⟩,q _ H (zH.refl _) rfl⟩
  .exact q.elim
 .exact q.elim
def qc(hg:Gl X "len")(hm:X.mg "len"=none)(ha:AM X C S ws [e] ms)(he:starEach [e] X.env=[(false,eval e X.env)]:=by rfl):EM X C S false (.Call (.Name "len" p) [e] [] pos) (zg jC ms):=
 l4 (r:=GN C.W.K) (λhK=>hK▸xh.or rF) GO hg hm PySem.boot_len ha (he:=he)
def DK:List PV->Out PV
 |[.l xs]=>.ok (.l xs)
 |[.t xs]=>.ok (.l xs)
 |[.sc xs]=>.ok (.l (xs.map PV.i))
 |_=>.wall
def Uo(r:yq W M H xs vs)(hl:H l=none):SW W M H (upd H l (.lst vs)) (.l xs) (.ref l):=
 ⟨l,rfl,hl,vs,zh,(r.sub λa m n=>⟨m,λz=>n (z▸hl)⟩).same (zH.upd hl)⟩
def DL(r:jX W M H xs vs)(hl:H l=none):SW W M H (upd H l (.dK vs)) (.d xs) (.ref l):=
 ⟨l,rfl,hl,vs,zh,(r.sub λa m n=>⟨m,λz=>n (z▸hl)⟩).same (zH.upd hl)⟩
def DM:LfF W (λxs H Q=>∃p ys,xs=[.ref p]/\(Sq W.K H p ys\/SN W.K H p ys)/\∀l,H l=none->Q (.ref l) (upd H l (.lst ys))) DK:=λM C B H xs vs Q n h q=>by
 unfold DK at q;split at q
 .obtain⟨v,r,rfl,⟨p,vs,rfl,_,hl,rr⟩,hr⟩:=h;cases(show _=_ from hr);exact⟨p,vs,rfl,.inl (Sq.of hl),λl hl=>q _ _ (zH.upd hl) (Uo rr hl)⟩
 .obtain⟨v,r,rfl,⟨p,vs,rfl,hl,rr⟩,hr⟩:=h;cases(show _=_ from hr);exact⟨p,vs,rfl,.inr hl,λl hl=>q _ _ (zH.upd hl) (Uo rr hl)⟩
 .obtain⟨v,r,rfl,⟨p,rfl,hl⟩,hr⟩:=h;cases(show _=_ from hr);exact⟨p,_,rfl,.inl hl.sq,λl hl=>q _ _ (zH.upd hl) (Uo yq.ints hl)⟩
 .exact q.elim
def toI:PV->Option Int
 |.i a=>some a
 |_=>none
def GP:List PV->Option (List Int)
 |[]=>some []
 |x::r=>match toI x,GP r with|some a,some b=>some (a::b)|_,_=>none
def rG{W:RC}{M:OU}{H:Hp}:∀{xs:Pe}{vs:Pa}{ns:Pn},yq W M H xs vs->GP xs=some ns->vs=ns.map V.int
 |[],_,_,h,e=>by cases(show _=_ from h);cases e;rfl
 |x::xs,_,ns,h,e=>by
  obtain⟨v,r,rfl,h1,h2⟩:=h;unfold GP at e;cases x with
  |i a=>
   cases hr:GP xs with
   |none=>rw[hr]at e;cases e
   |some b=>rw[hr]at e;cases e;rw[O6,<- rG h2 hr,(show v=_ from h1)]
  |_=>cases e
def xS:List Int->Int
 |[]=>0
 |[a]=>a
 |a::r=>max a (xS r)
def l6:∀{ns:Pn},ns≠[]->xS ns∈ns
 |[],h=>absurd rfl h
 |[a],_=>by simp[xS]
 |a::b::r,_=>by
  have ih:=l6 (ns:=b::r) (by simp);show max a (xS (b::r))∈_;rcases Int.le_total a (xS (b::r))with h|h
  .rw[Int.max_eq_right h];exact O4 _ ih
  .rw[Int.max_eq_left h];exact O0
def rH:∀{ns:Pn}{a:Int},a∈ns->a<=xS ns
 |[],_,h=>by cases h
 |[b],a,h=>by simp at h;subst h;exact Γ _
 |b::c::r,a,h=>by
  show a<=max b (xS (c::r));rcases P9.mp h with rfl|h
  .exact Int.le_max_left ..
  .exact Int.le_trans (rH h) (Int.le_max_right ..)
def Lf:List PV->Out PV
 |[.i a,.i b]=>.ok (.i (max a b))
 |[.l xs]=>ZS ((GP xs).bind λns=>if ns=[]then none else some (.i (xS ns)))
 |_=>.wall
def GQ:LfC W (λxs H Q=>(∃i j,xs=[.int i,.int j]/\Q (.int (if j>i then j else i)) H)\/Gs W.K xs H Q) Lf:=λM C B H xs vs Q n h q=>by
 unfold Lf at q;split at q
 .obtain⟨v,r,rfl,hx,v2,r2,rfl,hx2,hr⟩:=h;cases(show _=_ from hr);cases(show _=_ from hx);cases(show _=_ from hx2);exact .inl ⟨_,_,rfl,q _ H (zH.refl _) (by show V.int _=V.int _;congr 1;omega)⟩
 .obtain⟨z,e,q⟩:=qq q;obtain⟨ns,hn,e⟩:=R4.mp e;by_cases hz:ns=[]
  .rw[if_pos hz]at e;cases e
  .rw[if_neg hz]at e;cases e;obtain⟨v,r,rfl,⟨p,vs,rfl,_,hl,rr⟩,hr⟩:=h;cases(show _=_ from hr);rw[rG rr hn]at hl;refine .inr ⟨p,ns,rfl,Sq.of hl,hz,λM hM hM2=>?_⟩;have:M=xS ns:=Int.le_antisymm (rH hM) (hM2 _ (l6 hz));rw[this];exact q _ H (zH.refl _) rfl
 .exact q.elim
def GS(hc:X.calm=true)(hg:Gl X "max")(hm:X.mg "max"=none)(ha:AM X C S ws (e::es) ms)(he:starEach (e::es) X.env=(false,eval e X.env)::starEach es X.env:=by rfl)(hpl:(backTo pos (starEach es X.env)).any (·.1)=false:=by rfl):EM X C S false (.Call (.Name "max" p) (e::es) [] pos) (zg Lf ms):=
 l4 (λhK=>hK▸(pB hc).or (pZ hc)) GQ hg hm PyProof.Rows.boot_max ha (he:=he) (hpl:=hpl)
def jG(W:RC)(M:OU)(H:Hp):List Bool->List PV->List V->Prop
 |[],xs,vs=>xs=[]/\vs=[]
 |w::ws,xs,vs=>∃x v xr vr,xs=x::xr/\vs=v::vr/\yZ W (if w=true then λ_=>True else M) M H x v/\jG W M H ws xr vr
def TH.args{C:LC}{B:Bs}{S:OS}{P:O_}{H:Hp}:∀{ws:OW}{xs:Pe}{vs:Pa},TH C B S P H ws xs vs->jG C.W (Sl B S P) H ws xs vs
 |[],_,_,h=>h
 |w::ws,_,_,⟨x,v,xr,vr,e1,e2,h1,h2⟩=>⟨x,v,xr,vr,e1,e2,h1,TH.args h2⟩
def jG.len{W:RC}{M:OU}{H:Hp}:∀{ws:OW}{xs:Pe}{vs:Pa},jG W M H ws xs vs->vs.length=ws.length/\xs.length=ws.length
 |[],_,_,⟨e1,e2⟩=>by subst e1;subst e2;exact⟨rfl,rfl⟩
 |w::ws,_,_,⟨x,v,xr,vr,e1,e2,h1,h2⟩=>by subst e1;subst e2;exact⟨by rw[v0,v0,(jG.len h2).1],by rw[v0,v0,(jG.len h2).2]⟩
def jG.same{W:RC}{M:OU}{H H':Hp}(s:zH H H'):∀{ws:OW}{xs:Pe}{vs:Pa},jG W M H ws xs vs->jG W M H' ws xs vs
 |[],_,_,h=>h
 |w::ws,_,_,⟨x,v,xr,vr,e1,e2,h1,h2⟩=>⟨x,v,xr,vr,e1,e2,h1.same s,jG.same s h2⟩
def RtV(W:RC)(fr:Bool)(M:OU)(H H2:Hp)(r:PV)(v:V):Prop:=if fr=true then SW W (λa=>M a\/H a=none) H H2 r v else Rep W (λa=>M a\/H a=none) H2 r v
def Mu(W:RC)(fr:Bool)(M:OU)(H:Hp)(Q:VK)(E:XK):Out PV->Prop
 |.ok r=>∀v H2,zH H H2->RtV W fr M H H2 r v->Q v H2
 |.exc c fs=>∀e dx es H2,zH H H2->H2 e=some (XC e (W.cls c) dx)->H2 dx=some (XD dx es)->vg W (λa=>M a\/H a=none) H2 fs es->E (.ref e) (some dx) H2
 |.wall=>False
def Sw(W:RC)(fr:Bool)(ws:OW)(g:Pd):Sp:=λvs H Q E=>∃M xs,jG W M H ws xs vs/\Mu W fr M H Q E (g xs)
def DN{W:RC}{fr:Bool}{ws:OW}{g:Pd}{n:Nat}(h:ws.length=n):∀vs H Q E,Sw W fr ws g vs H Q E->vs.length=n:=λvs H Q E ⟨M,xs,a,_⟩=>a.len.1.trans h
def SW.sub(h:SW W M H H2 x v)(s:∀a,M a->M' a):SW W M' H H2 x v:=by obtain⟨p,e,hp,h⟩:=h;exact⟨p,e,hp,h.gen rfl Fr.refl λa m _=>⟨s a m.1,m.2⟩⟩
section
variable {X:Cx}{C:LC}{S:OS}{e a b o:Pc}{es:OX}{w w1 w2 fr:Bool}{ws:OW}{m m1 m2:ME}{ms:MA}{pos p jW:Pos}{x mn:Str}{k:Nat}{f:Addr}{fd:Pl}{ps:OP}{g:Pd}
def rJ(R:Rel C.W B S P H Y U)(q:Ξ C B c fs):∀e dx es H2,zH H H2->H2 e=some (XC e (C.W.cls c) dx)->H2 dx=some (XD dx es)->vg C.W (λa=>Sl B S P a\/H a=none) H2 fs es->C.E (.ref e) (some dx) H2:=
 λe dx es H2 s h1 h2 h3=>q e dx es H2 (R.same.trans s) h1 h2 (h3.sub λa m _=>m.elim (λm=>m.1.1) λn=>.inr (zH.none R.same n))
def B1{B:Bs}{P:O_}{H:Hp}{Y:St}{U:So}{Q:VK}{o:Out PV}(R:Rel C.W B S P H Y U)(q:zV C B H (RV C B S P false) Q o):Mu C.W fr (Sl B S P) H Q C.E o:=by
 have sM:∀a,(Sl B S P a\/H a=none)->Sl B S P a:=λa m=>m.elim id λn=>R.new a n;cases o with
 |ok r=>
  intro v H2 s hr;refine q v H2 s (RV.of ?_);unfold RtV at hr;cases fr with
  |true=>rw[if_pos rfl]at hr;exact(hr.sub sM).rep R.new
  |false=>rw[if_neg P5]at hr;exact hr.sub λa m _=>sM a m
 |exc c fs=>exact rJ R q
 |wall=>exact q
def iB{B:Bs}{P:O_}{H:Hp}{Y:St}{U:So}{Q:VK}{o:Out PV}(R:Rel C.W B S P H Y U)(q:zV C B H (SW C.W (Sl B S P) H) Q o):Mu C.W true (Sl B S P) H Q C.E o:=by
 have sM:∀a,(Sl B S P a\/H a=none)->Sl B S P a:=λa m=>m.elim id λn=>R.new a n;cases o with
 |ok r=>intro v H2 s hr;unfold RtV at hr;rw[if_pos rfl]at hr;exact q v H2 s (hr.sub sM)
 |exc c fs=>exact rJ R q
 |wall=>exact q
def rK(F:yW X.prog X.w X.K X.mg X.base (Sj X.prog X.w) k f fd ps (Sw C.W fr ws g))(hr:vf k X.A)(hg:Gl X x)(hm:X.mg x=some (.ref f))(hk:keepIn X.K (.ref f)=true)(hb:Binds X.K fd ps [])(hx:Passes (Sj X.prog X.w) X C.E)(ha:AM X C S ws (e::es) ms)(hdb:Rn x:=by decide)(he:starEach (e::es) X.env=(false,eval e X.env)::starEach es X.env:=by rfl)(hpl:(backTo pos (starEach es X.env)).any (·.1)=false:=by rfl):EM X C S false (.Call (.Name x p) (e::es) [] pos) (zg g ms):=λhK=>by
 obtain⟨ta,a1,a2⟩:=ha hK;refine⟨_,g9 F hr hg hm hk hb .nil hx a1 hdb he hpl,λB P H Y U R Q q=>a2 B P H Y U R _ (je q λxs vs H1 s1 r1 q1=>?_)⟩;rw[P7];exact⟨_,xs,r1.args,B1 (R.keep s1) q1⟩
def wU(F:yW X.prog X.w X.K X.mg X.base (Sj X.prog X.w) k f fd ps (Sw C.W true ws g))(hr:vf k X.A)(hg:Gl X x)(hm:X.mg x=some (.ref f))(hk:keepIn X.K (.ref f)=true)(hb:Binds X.K fd ps [])(hx:Passes (Sj X.prog X.w) X C.E)(ha:AM X C S ws (e::es) ms)(hdb:Rn x:=by decide)(he:starEach (e::es) X.env=(false,eval e X.env)::starEach es X.env:=by rfl)(hpl:(backTo pos (starEach es X.env)).any (·.1)=false:=by rfl):FM X C S (.Call (.Name x p) (e::es) [] pos) (zg g ms):=λhK=>by
 obtain⟨ta,a1,a2⟩:=ha hK;refine⟨_,g9 F hr hg hm hk hb .nil hx a1 hdb he hpl,λB P H Y U R Q q=>a2 B P H Y U R _ (ZZ q λxs vs H1 s1 r1 q1=>?_)⟩;rw[P7];exact⟨_,xs,r1.args,iB (R.keep s1) q1⟩
def Y9(cs:OS)(f:Str)(m:ME):ME:=λU=>(m U).bind λx=>match x with
 |.o c fs=>if c∈cs then ZS (fs.lookup f)else .wall
 |_=>.wall
def xT(cs:OS)(f:Str)(m:ME):ME:=λU=>(m U).bind λx=>match x with
 |.x c fs=>if c∈cs then ZS (fs.lookup f)else .wall
 |_=>.wall
def vx(h:EM X C S w e m)(hc:∀c∈cs,TL X.K (C.W.cls c)/\ve X.K (C.W.cls c) fn)(hb:attributeBase e fn X.env (eval e X.env)=eval e X.env:=by rfl):EM X C S false (.Attribute e fn pos) (Y9 cs fn m):=λhK=>by
 obtain⟨te,a1,a2⟩:=h hK;refine⟨_,BD a1 hb,λB P H Y U R Q q=>a2 B P H Y U R _ (yr q λx v H1 s1 r1 q1=>?_)⟩;cases x with
 |o c fs=>
  obtain⟨p,dx,es,rfl,_,hp,hf⟩:=r1;by_cases hcs:c∈cs
  .have q1:zV C B H1 (RV C B S P false) Q (if c∈cs then ZS (fs.lookup fn)else .wall):=q1;rw[if_pos hcs]at q1;obtain⟨y,e,q1⟩:=qq q1;obtain⟨v,hv,rv⟩:=hf.lookup e;exact⟨p,_,dx,es,v,rfl,hp,(hc c hcs).1,(hc c hcs).2,hv,q1 v H1 (zH.refl _) (RV.of rv)⟩
  .have q1:zV C B H1 (RV C B S P false) Q (if c∈cs then ZS (fs.lookup fn)else .wall):=q1;rw[if_neg hcs]at q1;exact q1.elim
 |_=>exact q1.elim
def rO(h:EM X C S w e m)(hc:∀c∈cs,YY X.K (C.W.cls c)/\findIn X.K (.ref (C.W.cls c)) fn=some none)(hb:attributeBase e fn X.env (eval e X.env)=eval e X.env:=by rfl):EM X C S false (.Attribute e fn pos) (xT cs fn m):=λhK=>by
 obtain⟨te,a1,a2⟩:=h hK;refine⟨_,Dv a1 hb,λB P H Y U R Q q=>a2 B P H Y U R _ (yr q λx v H1 s1 r1 q1=>?_)⟩;cases x with
 |x c fs=>
  obtain⟨p,dx,es,rfl,hp,hd,hf⟩:=r1;by_cases hcs:c∈cs
  .have q1:zV C B H1 (RV C B S P false) Q (if c∈cs then ZS (fs.lookup fn)else .wall):=q1;rw[if_pos hcs]at q1;obtain⟨y,e,q1⟩:=qq q1;obtain⟨v,hv,rv⟩:=hf.lookup e;exact⟨p,_,dx,es,v,rfl,(hc c hcs).1,(hc c hcs).2,.inl hp,hd,hv,q1 v H1 (zH.refl _) (RV.of rv)⟩
  .have q1:zV C B H1 (RV C B S P false) Q (if c∈cs then ZS (fs.lookup fn)else .wall):=q1;rw[if_neg hcs]at q1;exact q1.elim
 |_=>exact q1.elim
def jB(tab:List (Nat×(List PV->Out PV)))(mn:Str)(m:ME)(ms:MA):ME:=λU=>(m U).bind λx=>match x with
 |.o c fs=>match tab.lookup c with
  |some g=>if(fs.lookup mn).isSome=true then .wall else(ms U).bind λxs=>g (x::xs)
  |none=>.wall
 |_=>.wall
def Lg(W:RC)(fr:Bool)(ws:OW)(tab:List (Nat×(List PV->Out PV)))(K:Addr)(sp:Sp):Prop:=∃q∈tab,K=W.cls q.1/\sp=Sw W fr (true::ws) q.2
def lookup_mem{α:Type}:∀{tab:List (Nat×α)}{c:Nat}{g:α},tab.lookup c=some g->(c,g)∈tab
 |[],_,_,h=>by cases h
 |q::r,c,g,h=>by
  rw[T4]at h;by_cases e:(c==q.1)=true
  .simp only[e]at h;cases h;rw[S9.mp e];exact O0
  .simp only[e]at h;exact O4 _ (lookup_mem h)
def rP{B:Bs}{P:O_}{H:Hp}{Y:St}{U:So}{Q:VK}{c:Nat}{fs:Pj}{v:V}{tab:List (Nat×(List PV->Out PV))}{t:TA}(R:Rel C.W B S P H Y U)(r1:RV C B S P w H (.o c fs) v)(ht:∀g,tab.lookup c=some g->fs.lookup mn=none->t Y H λvs H2=>Sw C.W fr (true::ws) g (v::vs) H2 Q C.E)(q:(∃g,tab.lookup c=some g/\fs.lookup mn=none)):∃a dx es K sp,Lg C.W fr ws tab K sp/\v=.ref a/\H a=some (.ins K dx es)/\es.lookup mn=none/\t Y H λvs H2=>sp (v::vs) H2 Q C.E:=by
 obtain⟨g,hg,hn⟩:=q;have h:=ht g hg hn;obtain⟨p,dx,es,rfl,_,hp,hf⟩:=r1;exact⟨p,dx,es,_,_,⟨(c,g),lookup_mem hg,rfl,rfl⟩,rfl,hp,hf.p8 hn,h⟩
def TH.consW{B:Bs}{P:O_}{H:Hp}{x:PV}{v:V}{xs:Pe}{vs:Pa}(h:RV C B S P w H x v)(t:TH C B S P H ws xs vs):jG C.W (Sl B S P) H (true::ws) (x::xs) (v::vs):=⟨x,v,xs,vs,rfl,rfl,by rw[if_pos rfl];exact h.weak,t.args⟩
def jf(h:EM X C S w o m)(hal:∀K sp,Lg C.W fr ws tab K sp->Fu X.prog X.w X.K X.mg X.base X.A mn K sp)(hx:Passes (Sj X.prog X.w) X C.E)(ha:AM X C S ws (e::es) ms)(hst:starEach (e::es) X.env=(false,eval e X.env)::starEach es X.env:=by rfl)(hpl:(backTo pos (starEach es X.env)).any (·.1)=false:=by rfl)(ht:eval (.Call (.Attribute o mn jW) (e::es) [] pos) X.env=(do
   let ov<-eval o X.env
   standAt jW.atName
   let(f,first)<-holding [ov] (getMethod ov mn pl)
   callWith pos f first (backTo pos (starEach (e::es) X.env)) (backToKw pos (keywordEach [] X.env))):=by rfl):EM X C S false (.Call (.Attribute o mn jW) (e::es) [] pos) (jB tab mn m ms):=λhK=>by
 obtain⟨to,o1,o2⟩:=h hK;obtain⟨ta,a1,a2⟩:=ha hK;refine⟨_,xM (pl:=pl) o1 hal hx a1 hst hpl ht,λB P H Y U R Q q=>o2 B P H Y U R _ (yr q λx v H1 s1 r1 q1=>?_)⟩;cases x with
 |o c fs=>
  dsimp only at q1;cases hg:tab.lookup c with
  |none=>rw[hg]at q1;exact q1.elim
  |some g=>
   rw[hg]at q1;dsimp only at q1;cases hn:fs.lookup mn with
   |some z=>rw[hn]at q1;exact q1.elim
   |none=>rw[hn]at q1;have q1:zV C B H1 (RV C B S P false) Q ((ms U).bind λxs=>g (.o c fs::xs)):=q1;refine rP (R.keep s1) r1 (λg' hg' _=>?_) ⟨g,hg,hn⟩;rw[hg]at hg';cases hg';exact a2 B P H1 Y U (R.keep s1) _ (je q1 λxs vs H2 s2 r2 q2=>⟨_,_,TH.consW (RV.same r1 s2) r2,B1 ((R.keep s1).keep s2) q2⟩)
 |_=>exact q1.elim
def xU(h:EM X C S w o m)(hal:∀K sp,Lg C.W true [] tab K sp->Fu X.prog X.w X.K X.mg X.base X.A mn K sp)(hx:Passes (Sj X.prog X.w) X C.E)(ht:eval (.Call (.Attribute o mn jW) [] [] pos) X.env=(do
   let ov<-eval o X.env
   standAt jW.atName
   let(f,first)<-holding [ov] (getMethod ov mn pl)
   callWith pos f first (backTo pos (starEach [] X.env)) (backToKw pos (keywordEach [] X.env))):=by rfl):FM X C S (.Call (.Attribute o mn jW) [] [] pos) (jB tab mn m zm):=λhK=>by
 obtain⟨to,o1,o2⟩:=h hK;refine⟨_,p5 (pl:=pl) o1 hal hx ht,λB P H Y U R Q q=>o2 B P H Y U R _ (iA q λx v H1 s1 r1 q1=>?_)⟩;cases x with
 |o c fs=>
  dsimp only at q1;cases hg:tab.lookup c with
  |none=>rw[hg]at q1;exact q1.elim
  |some g=>
   rw[hg]at q1;dsimp only at q1;cases hn:fs.lookup mn with
   |some z=>rw[hn]at q1;exact q1.elim
   |none=>rw[hn]at q1;refine rP (R.keep s1) r1 (λg' hg' _=>?_) ⟨g,hg,hn⟩;rw[hg]at hg';cases hg';exact⟨_,_,TH.consW (ws:=[]) r1 ⟨rfl,rfl⟩,iB (R.keep s1) q1⟩
 |_=>exact q1.elim
def erase(H:Hp)(x:Addr):Hp:=λa=>if a=x then none else H a
def NG(W:RC)(M:OU)(H:Hp)(x:Addr)(Q:VK)(E:XK):Out PV->Prop
 |.ok r=>∀H2,zH (erase H x) H2->cJ W (λa=>(M a\/erase H x a=none)/\a≠x) H2 x r->Q .non H2
 |.exc c fs=>∀e dx es H2,zH (erase H x) H2->H2 e=some (XC e (W.cls c) dx)->H2 dx=some (XD dx es)->vg W (λa=>M a\/erase H x a=none) H2 fs es->E (.ref e) (some dx) H2
 |.wall=>False
def Lh(W:RC)(c:Nat)(ws:OW)(g:Pd):Sp:=λvs H Q E=>∃M x dx xs avs,vs=.ref x::avs/\H x=some (.ins (W.cls c) dx [])/\jG W M (erase H x) ws xs avs/\NG W M H x Q E (g xs)
def xV(h:ws.length+1=n):∀vs H Q E,Lh W c ws g vs H Q E->vs.length=n:=λvs H Q E ⟨M,x,dx,xs,avs,e,_,a,_⟩=>by rw[e,v0,a.len.1,h]
def rQ{H:Hp}{x dx K:Addr}(hx:H x=none)(hd:H dx=none)(hne:dx≠x):zH H (erase (upd (upd H dx (.own x)) x (.ins K dx [])) x):=λb o hb=>by unfold erase;have n1:b≠x:=zQ hb hx;rw[if_neg n1,zl n1,zl (zQ hb hd)];exact hb
def rR{H:Hp}{x dx K a:Addr}(hx:H x=none)(h:erase (upd (upd H dx (.own x)) x (.ins K dx [])) x a=none):H a=none:=by
 by_cases e:a=x
 .rw[e];exact hx
 .unfold erase at h;rw[if_neg e,zl e]at h;by_cases e2:a=dx
  .subst e2;rw[zh]at h;cases h
  .rwa [zl e2]at h
def DO(M:Mk X.K (C.W.cls c) f)(F:yW X.prog X.w X.K X.mg X.base (Sj X.prog X.w) k f fd ps (Lh C.W c ws g))(hr:vf (k+1) X.A)(hg:Gl X x)(hm:X.mg x=some (.ref (C.W.cls c)))(hb:Binds X.K fd ps [])(hx:Passes (Sj X.prog X.w) X C.E)(ha:AM X C S ws (e::es) ms)(hdb:Rn x:=by decide)(he:starEach (e::es) X.env=(false,eval e X.env)::starEach es X.env:=by rfl)(hpl:(backTo pos (starEach es X.env)).any (·.1)=false:=by rfl):FM X C S (.Call (.Name x p) (e::es) [] pos) (zg g ms):=λhK=>by
 obtain⟨ta,a1,a2⟩:=ha hK;refine⟨_,pE M F hr hg hm hb .nil hx a1 hdb he hpl,λB P H Y U R Q q=>a2 B P H Y U R _ (ZZ q λxs vs H1 s1 r1 q1=>?_)⟩;intro x dx hx hd hne;rw[P7];have R1:=R.keep s1;have sm:=rQ (K:=C.W.cls c) hx hd hne;refine⟨_,x,dx,xs,vs,rfl,zh,r1.args.same sm,?_⟩;have sM:∀a,(Sl B S P a\/erase (upd (upd H1 dx (.own x)) x (.ins (C.W.cls c) dx [])) x a=none)->Sl B S P a:=λa m=>m.elim id λn=>R1.new a (rR hx n);revert q1;cases g xs with
 |ok r=>exact λq1 H2 s2 hr=>⟨rfl,q1 _ H2 (sm.trans s2) ⟨x,rfl,hx,hr.gen rfl Fr.refl λa m _=>⟨sM a m.1,m.2⟩⟩⟩
 |exc c fs=>exact λq1 e dx' es H2 s2 h1 h2 h3=>q1 e dx' es H2 ((R1.same.trans sm).trans s2) h1 h2 (h3.sub λa m _=>(sM a m).1.1)
 |wall=>exact id
inductive Kd where
 |int|str|bool|none|list|tuple|dict|obj (c:Nat)|exc (c:Nat)
 deriving DecidableEq
def kd:PV->Option Kd
 |.i _=>some .int | .s _=>some .str | .b _=>some .bool | .n=>some .none | .l _=>some .list | .t _=>some .tuple | .d _=>some .dict | .o c _=>some (.obj c) | .x c _=>some (.exc c)
 |.sc _=>Option.none
 |.dt _=>Option.none
def tyK(W:RC):Kd->Value
 |.int=>.type "int" | .str=>.type "str" | .bool=>.type "bool" | .none=>.type "NoneType" | .list=>.type "list" | .tuple=>.type "tuple" | .dict=>.type "dict" | .obj c=>.ref (W.cls c) | .exc c=>.ref (W.cls c)
def Li(W:RC):Kd->Prop
 |.obj c=>TL W.K (W.cls c)/\findIn W.K (.ref (W.cls c)) "__class__"=some (some (.builtin "object.__class__"))/\specialIn W.K (.builtin "object.__class__") "__get__"=some (some (.builtin "getset_descriptor.__get__"))/\takesIn W.K (.builtin "object.__class__")=some true/\mroIn W.K (W.cls c) (.type "object")=some true
 |.exc c=>YY W.K (W.cls c)/\XIs W.K (W.cls c)
 |_=>True
def rS(W:RC)(f:Rc):List (Kd×Bool)->Prop
 |[]=>True
 |q::r=>(Li W q.1/\f (tyK W q.1)=some q.2)/\rS W f r
def rS.get{W:RC}{f:Rc}:∀{tab:List (Kd×Bool)}{k:Kd}{b:Bool},rS W f tab->tab.lookup k=some b->Li W k/\f (tyK W k)=some b
 |[],_,_,_,h=>by cases h
 |q::r,k,b,t,h=>by
  rw[T4]at h;by_cases e:(k==q.1)=true
  .simp only[e]at h;cases h;rw[S9.mp e];exact t.1
  .simp only[e]at h;exact rS.get t.2 h
def rV(tab:List (Kd×Bool))(x:PV):Out PV:=ZS (((kd x).bind λk=>tab.lookup k).map PV.b)
def Oy(W:RC)(f:Rc)(cv:V):List V->Hp->VK->Prop:=λvs H Q=>∃(M:OU)(x:PV)(v:V)(k:Kd)(b:Bool),vs=[v,cv]/\yZ W (λ_=>True) M H x v/\kd x=some k/\Li W k/\f (tyK W k)=some b/\Q (.bl b) H
def GU{Sa:OR}{Y:St}{H:Hp}{s:OV}{W:RC}{N M:OU}{x:PV}{v:V}{u:Value}{k:Kd}(hK:X.K=W.K)(I:Inv X Sa Y H s)(h:yZ W N M H x v)(ru:RelV v u)(hk:kd x=some k)(ok:Li W k):∃P,KitX X.K u (tyK W k) P/\P s.heap/\u≠.builtin "__main__.__loader__#opaque":=by
 cases x with
 |i a=>cases hk;exact ig I ru (.inl (by rw[(show v=_ from h)];exact .int a))
 |s a=>cases hk;exact ig I ru (.inl (by rw[(show v=_ from h)];exact .str a))
 |b a=>cases hk;exact ig I ru (.inl (by rw[(show v=_ from h)];exact .bl a))
 |n=>cases hk;exact ig I ru (.inl (by rw[(show v=_ from h)];exact .non))
 |l a=>cases hk;obtain⟨p,vs,rfl,_,hl,_⟩:=h;exact ig I ru (.inl (.lst hl))
 |t a=>cases hk;obtain⟨p,vs,rfl,hl,_⟩:=h;cases(show u=Value.ref p from ru);rw[<- hK]at hl;obtain⟨Sf,_,⟨o,h1,h2,_⟩,_⟩:=I.tuple hl;exact⟨_,kitx_tuple,⟨o,h1,h2⟩,λz=>nomatch z⟩
 |d a=>cases hk;obtain⟨p,vs,rfl,_,hl,_⟩:=h;cases(show u=Value.ref p from ru);obtain⟨_,_,ws,_,dd⟩:=J9 I.hok hl;obtain⟨o,es,ep,h1,h2,_⟩:=dd;exact⟨_,kitx_dict,⟨o,h1,h2.1⟩,λz=>nomatch z⟩
 |o c a=>cases hk;obtain⟨p,dx,es,rfl,_,hl,_⟩:=h;obtain⟨o1,o2,o3,o4,o5⟩:=ok;rw[<- hK]at o1 o2 o3 o4 o5;exact ig I ru (.inl (.ins hl o1 o2 o3 o4 o5))
 |x c a=>cases hk;obtain⟨p,dx,es,rfl,hl,hd,_⟩:=h;obtain⟨o1,o2⟩:=ok;rw[<- hK]at o1 o2;exact ig I ru (.inr ⟨p,_,dx,es,rfl,rfl,o1,o2,.inl hl,hd⟩)
 |sc a=>cases hk
 |dt a=>cases hk
def xW(hK:X.K=W.K)(hc:Mi cv=some cl):ZV X (.builtin "isinstance") (Oy W (λt=>kitOne W.K t cl) cv):=by intro Sa s Y H xs us Q I r h;obtain⟨M,x,v,k,b,rfl,hx,hk,ok,hb,q⟩:=h;obtain⟨u,c,rfl,rx,rc⟩:=vals2 r;obtain⟨P,kx,hP,hne⟩:=GU hK I hx rx hk ok;rw[xF rc hc];rw[<- hK]at hb;exact kia_one kx I.kIn hP hb hne λtk=>⟨.bl b,H,I.tok _,rfl,q⟩
def Je(hg:Gl X "isinstance")(hm:X.mg "isinstance"=none)(h:EM X C S w e m)(hc:PE X ce (tC cv))(hcl:Mi cv=some cl)(tb:rS C.W (λt=>kitOne C.W.K t cl) tab)(he:starEach [e,ce] X.env=[(false,eval e X.env),(false,eval ce X.env)]:=by rfl)(he2:starEach [ce] X.env=[(false,eval ce X.env)]:=by rfl):EM X C S false (.Call (.Name "isinstance" p) [e,ce] [] pos) (To (rV tab) m):=λhK=>by
 obtain⟨te,a1,a2⟩:=h hK;refine⟨_,lJ (xW hK hcl) hg hm PyProof.Rows.boot_isinstance (ZW a1 (ZW hc Ub he2) (by rw[he,he2])) (by decide) (by decide) (by rw[he,he2]) (by rw[he2];rfl),λB P H Y U R Q q=>a2 B P H Y U R _ (yr q λx v H1 s1 r1 q1=>?_)⟩;obtain⟨z,ez,q1⟩:=qq q1;obtain⟨b,hb,rfl⟩:=v4.mp ez;obtain⟨k,hk,hb⟩:=R4.mp hb;obtain⟨ok,hv⟩:=tb.get hb;exact⟨_,x,v,k,b,rfl,r1.weak,hk,ok,hv,q1 _ H1 (zH.refl _) (RV.of rfl)⟩
abbrev MO:=So->Out (Option Int)
def LO(C:LC)(S:OS)(to:TO)(m:MO):Prop:=∀B P H Y U,Rel C.W B S P H Y U->∀Q:Option Int->Hp->Prop,(match m U with | .ok r=>∀H2,zH H H2->Q r H2 | .exc c fs=>Ξ C B c fs | .wall=>False)->to Y H Q
def OM(X:Cx)(C:LC)(S:OS)(e:Rb)(m:MO):Prop:=X.K=C.W.K->∃to,PO X e to/\LO C S to m
def oU:MO:=λ_=>.ok none
def asI:PV->Out (Option Int)
 |.i a=>.ok (some a)
 |_=>.wall
def V7(m:ME):MO:=λU=>(m U).bind asI
def cO:OM X C S none oU:=λ_=>⟨_,Df,λB P H Y U R Q q=>q H (zH.refl _)⟩
def cP(h:EM X C S w e m):OM X C S (some e) (V7 m):=λhK=>by
 obtain⟨te,a1,a2⟩:=h hK;refine⟨_,Dg a1,λB P H Y U R Q q=>a2 B P H Y U R _ ?_⟩;unfold V7 at q;revert q;cases m U with
 |ok x=>
  intro q v H2 s r;cases x with
  |i a=>exact⟨a,r,q H2 s⟩
  |_=>exact q.elim
 |exc c fs=>exact id
 |wall=>exact id
def l7{α:Type}(xs:List α)(lo hi:Pz):List α:=(xs.drop (HT.sIx xs.length 0 lo)).take (HT.sIx xs.length xs.length hi-HT.sIx xs.length 0 lo)
def Φ:PV->Option Int->Option Int->Out PV
 |.l xs,lo,hi=>.ok (.l (l7 xs lo hi))
 |.sc ns,lo,hi=>.ok (.l ((l7 ns lo hi).map PV.i))
 |.s z,lo,hi=>if z.length<=sizeLine then .ok (.s (Txt.slice z lo hi))else .wall
 |_,_,_=>.wall
def Ϡ(pp:PV->Option Int->Option Int->Out PV)(m:ME)(lo hi:MO):ME:=λU=>(m U).bind λx=>(lo U).bind λl=>(hi U).bind λh=>pp x l h
def xX{ns:Pn}{lo hi:Pz}:uV (ns.map V.int) lo hi=(l7 ns lo hi).map V.int:=by unfold uV l7;rw[u8,ϲ,a11]
variable {lo hi:Rb}{ml mh:MO}{p2:Pos}
def cQ(h:EM X C S w e m)(hl:OM X C S lo ml)(hh:OM X C S hi mh):EM X C S false (.Subscript e (.Slice lo hi none p2) pos) (Ϡ Φ m ml mh):=λhK=>by
 obtain⟨te,a1,a2⟩:=h hK;obtain⟨tl,b1,b2⟩:=hl hK;obtain⟨th,c1,c2⟩:=hh hK;refine⟨_,lK (Dl.or Gn) a1 b1 c1,λB P H Y U R Q q=>a2 B P H Y U R _ (yr q λx v H1 s1 r1 q1=>b2 B P H1 Y U (R.keep s1) _ ?_)⟩;revert q1;cases ml U with
 |exc c fs=>exact id
 |wall=>exact id
 |ok l=>
  intro q1 H2 s2;refine c2 B P H2 Y U ((R.keep s1).keep s2) _ ?_;have q1:zV C B H1 (RV C B S P false) Q ((mh U).bind λh=>Φ x l h):=q1;have q1:=j0 q1 s2;revert q1;cases mh U with
  |exc c fs=>exact id
  |wall=>exact id
  |ok h=>
   intro q1 H3 s3;have q1:=j0 (o:=Φ x l h) q1 s3;have r3:=(r1.same s2).same s3;have N3:=(((R.keep s1).keep s2).keep s3).new;cases x with
   |l xs=>obtain⟨p,vs,rfl,_,hp,rr⟩:=r3;exact .inl ⟨p,vs,rfl,Sq.of hp,λz hz=>q1 _ _ (zH.upd hz) (RV.of ((Uo rr.cut hz).rep N3))⟩
   |sc ns=>obtain⟨p,rfl,hp⟩:=r3;exact .inl ⟨p,_,rfl,hK▸hp.sq,λz hz=>q1 _ _ (zH.upd hz) (by rw[xX];exact RV.of ((Uo yq.ints hz).rep N3))⟩
   |s z=>
    unfold Φ at q1;by_cases hz:z.length<=sizeLine
    .simp only[hz,if_true]at q1;exact .inr ⟨z,r3,hz,q1 _ H3 (zH.refl _) (RV.of rfl)⟩
    .simp only[hz,if_false]at q1;exact q1.elim
   |_=>exact q1.elim
end
def DP(C:LC)(B:Bs)(H:Hp)(x:PV)(v:V):Prop:=if C.fr=true then SW C.W B.Mt B.H0 H x v else Rep C.W B.Mt H x v
def ZF(C:LC)(B:Bs)(S' Sb Sc:OS)(D:Ends):Out Fw->Prop
 |.ok (.nx U')=>∀P' H' Y',Rel C.W B S' P' H' Y' U'->D.nx Y' H'
 |.ok (.rt x)=>∀v H',zH B.H0 H'->DP C B H' x v->D.rt v H'
 |.ok (.bk U')=>∀P' H' Y',Rel C.W B Sb P' H' Y' U'->D.bk Y' H'
 |.ok (.ct U')=>∀P' H' Y',Rel C.W B Sc P' H' Y' U'->D.ct Y' H'
 |.exc c fs=>Ξ C B c fs
 |.wall=>False
def LS(C:LC)(S S' Sb Sc:OS)(ts:TS)(m:MS):Prop:=∀B P H Y U,Rel C.W B S P H Y U->∀D,ZF C B S' Sb Sc D (m U)->ts D Y H
def SM(X:Cx)(C:LC)(S S' Sb Sc:OS)(st:PB)(m:MS):Prop:=X.K=C.W.K->∃ts,PS X st ts/\LS C S S' Sb Sc ts m
def ώ(X:Cx)(C:LC)(S S' Sb Sc:OS)(st:Pt)(m:MS):Prop:=X.K=C.W.K->∃ts,TR X st ts/\LS C S S' Sb Sc ts m
def yH:MS:=λU=>.ok (.nx U)
def zX(a b:MS):MS:=λU=>(a U).bind λf=>match f with
 |.nx U'=>b U'
 |.rt x=>.ok (.rt x)
 |.bk U'=>.ok (.bk U')
 |.ct U'=>.ok (.ct U')
def qb(i:Nat)(m:ME):MS:=λU=>(m U).bind λx=>.ok (.nx (U.set i (some x)))
def jg(m:ME):MS:=λU=>(m U).bind λ_=>.ok (.nx U)
def Z0(m:ME):MS:=λU=>(m U).bind λx=>.ok (.rt x)
def Sy(t:MT)(a b:MS):MS:=λU=>(t U).bind λc=>if c=true then a U else b U
section
variable {X:Cx}{C:LC}{S S' S1 Sb Sc:OS}{e a b o:Pc}{es:OX}{w w1 w2:Bool}{ws:OW}{m m1 m2:ME}{ms:MA}{t1:MT}{s1 s2:MS}{pos p pos':Pos}{x:Str}{st:PB}{sts stt:Pt}{i:Nat}
def yx:ώ X C S S Sb Sc [] yH:=λ_=>⟨_,o7,λB P H Y U R D q=>q P H Y R⟩
def GV(h1:LS C S S1 Sb Sc t s1)(h2:LS C S1 S' Sb Sc u s2):LS C S S' Sb Sc (LH t u) (zX s1 s2):=λB P H Y U R D q=>by
 refine h1 B P H Y U R _ ?_;unfold zX at q;revert q;cases s1 U with
 |ok f=>
  cases f with
  |nx U'=>exact λq P' H' Y' R'=>h2 B P' H' Y' U' R' D q
  |rt x=>exact id
  |bk U'=>exact id
  |ct U'=>exact id
 |exc c fs=>exact id
 |wall=>exact id
def zf(h1:SM X C S S1 Sb Sc st s1)(h2:ώ X C S1 S' Sb Sc sts s2):ώ X C S S' Sb Sc (st::sts) (zX s1 s2):=λhK=>by obtain⟨t,a1,a2⟩:=h1 hK;obtain⟨u,b1,b2⟩:=h2 hK;exact⟨_,XG a1 b1,GV a2 b2⟩
def zq(h1:SM X C S S' Sb Sc st s1):ώ X C S S' Sb Sc [st] s1:=λhK=>by obtain⟨t,a1,a2⟩:=h1 hK;exact⟨_,kQ a1,a2⟩
def GW(h:LE C S false te m):LS C S (S.set i 0) Sb Sc (Fq te (g7 i)) (qb i m):=λB P H Y U R D q=>by
 refine h B P H Y U R _ ?_;unfold qb at q;revert q;cases m U with
 |ok x=>exact λq v H2 s r=>q P H2 _ ((R.keep s).set r.rep)
 |exc c fs=>exact id
 |wall=>exact id
def rX(hN:X.N.Nodup)(hi:X.N[i]?=some x)(hx:Loc X.env.scope x)(h:EM X C S false e m)(hs:Ro X e x pos' pos:=by rfl)(hf:Rm X x:=by first|exact .inl rfl|exact .inr rfl|assumption):
  SM X C S (S.set i 0) Sb Sc (.Assign [.Name x pos'] e pos) (qb i m):=λhK=>by
 obtain⟨te,a1,a2⟩:=h hK;exact⟨_,o_ hN hi hx a1 hs hf,GW a2⟩
def DQ(h:ϝ C S te m)(hl:i<S.length)(h0:i≠0):LS C S (S.set i 2) Sb Sc (Fq te (g7 i)) (qb i m):=λB P H Y U R D q=>by
 refine h B P H Y U R _ ?_;unfold qb at q;revert q;cases m U with
 |ok x=>exact λq v H2 s ⟨p,e,hp,r⟩=>by subst e;exact q _ H2 _ (R.Ov s hp hl h0 r)
 |exc c fs=>exact id
 |wall=>exact id
def wV(hN:X.N.Nodup)(hi:X.N[i]?=some x)(hx:Loc X.env.scope x)(h:FM X C S e m)(hl:i<S.length:=by decide)(h0:i≠0:=by decide)(hs:Ro X e x pos' pos:=by rfl)(hf:Rm X x:=by first|exact .inl rfl|exact .inr rfl|assumption):
  SM X C S (S.set i 2) Sb Sc (.Assign [.Name x pos'] e pos) (qb i m):=λhK=>by
 obtain⟨te,a1,a2⟩:=h hK;exact⟨_,o_ hN hi hx a1 hs hf,DQ a2 hl h0⟩
def ym(h:EM X C S w e m)(hs:swapsWith e none pos.line X.env=pure false:=by rfl):SM X C S S Sb Sc (.Expr e pos) (jg m):=λhK=>by
 obtain⟨te,a1,a2⟩:=h hK;refine⟨_,J3 a1 hs,λB P H Y U R D q=>a2 B P H Y U R _ ?_⟩;unfold jg at q;revert q;cases m U with
 |ok x=>exact λq v H2 s r=>q P H2 Y (R.keep s)
 |exc c fs=>exact id
 |wall=>exact id
def jr(h:EM X C S false e m)(hf:C.fr=false:=by rfl):SM X C S S' Sb Sc (.Return (some e) pos) (Z0 m):=λhK=>by
 obtain⟨te,a1,a2⟩:=h hK;refine⟨_,lF a1,λB P H Y U R D q=>a2 B P H Y U R _ ?_⟩;unfold Z0 at q;revert q;cases m U with
 |ok x=>exact λq v H2 s r=>q v H2 (R.same.trans s) (by unfold DP;rw[hf,if_neg P5];exact r.rep.sub λa m _=>m.1.1)
 |exc c fs=>exact id
 |wall=>exact id
def DR(h:FM X C S e m)(hf:C.fr=true:=by rfl):SM X C S S' Sb Sc (.Return (some e) pos) (Z0 m):=λhK=>by
 obtain⟨te,a1,a2⟩:=h hK;refine⟨_,lF a1,λB P H Y U R D q=>a2 B P H Y U R _ ?_⟩;unfold Z0 at q;revert q;cases m U with
 |ok x=>exact λq v H2 s r=>q v H2 (R.same.trans s) (by
   unfold DP;rw[if_pos hf];obtain⟨p,e,hp,r⟩:=r;exact⟨p,e,zH.none R.same hp,r.gen rfl Fr.refl λa m _=>⟨m.1.1.1,m.2⟩⟩)
 |exc c fs=>exact id
 |wall=>exact id
def Kb(h:PE X e (nC i))(hi:S[i]?=some 2:=by rfl)(hf:C.fr=true:=by rfl):SM X C S S' Sb Sc (.Return (some e) pos) (Z0 (zc i)):=λhK=>by
 refine⟨_,lF h,λB P H Y U R D q=>?_⟩;unfold Z0 zc at q;cases hρ:U[i]? with
 |none=>rw[hρ]at q;exact q.elim
 |some o=>
  cases o with
  |none=>rw[hρ]at q;exact q.elim
  |some y=>rw[hρ]at q;obtain⟨v,hv,h2,_,_⟩:=R.var i y hρ;obtain⟨rfl,ra⟩:=h2 hi;refine⟨_,hv,q _ H R.same ?_⟩;unfold DP;rw[if_pos hf];exact⟨P i,rfl,(R.act i hi).1,ra.gen rfl Fr.refl λa m _=>⟨m.1.1,λz=>m.2 i hi z.symm⟩⟩
def jh(h:TM X C S c t1)(h1:ώ X C S S' Sb Sc sts s1)(h2:ώ X C S S' Sb Sc stt s2):SM X C S S' Sb Sc (.If c sts stt pos) (Sy t1 s1 s2):=λhK=>by
 obtain⟨tt,a1,a2⟩:=h hK;obtain⟨t,b1,b2⟩:=h1 hK;obtain⟨u,c1,c2⟩:=h2 hK;refine⟨_,FP a1 b1 c1,λB P H Y U R D q=>a2 B P H Y U R _ ?_⟩;unfold Sy at q;revert q;cases t1 U with
 |ok k=>
  intro q H2 s;cases k with
  |true=>exact BO (b2 B P H2 Y U (R.keep s) D q)
  |false=>exact BM (c2 B P H2 Y U (R.keep s) D q)
 |exc c fs=>exact id
 |wall=>exact id
def Rel.at2(R:Rel W B S P H Y U)(hi:S[i]?=some 2)(e:U[i]?=some (some y)):Y[i]?=some (some (.ref (P i)))/\cJ W (Sl B S P) H (P i) y/\i<U.length:=by obtain⟨v,hv,h2,_,_⟩:=R.var i y e;obtain⟨rfl,ra⟩:=h2 hi;exact⟨hv,ra,(P8.mp e).1⟩
def Sl.wr{W:RC}{B:Bs}{P:O_}{H:Hp}{Y:St}{U:So}{o:HO}(R:Rel W B S P H Y U)(hi:S[i]?=some 2):Fr (Sl B S P) H (upd H (P i) o):=λa q e m=>by
 obtain⟨_,o0,e0,n0⟩:=R.act i hi;have:a≠P i:=λz=>by
  rcases m with m|m
  .exact m.2 i hi z.symm
  .rw[z,e0]at e;cases e;exact n0 m
 rw[zl this];exact e
def rY(i:Nat)(m:ME):MS:=λU=>match U[i]? with
 |some (some (.l xs))=>(m U).bind λy=>if xs.length<sizeLine then .ok (.nx (U.set i (some (.l (xs++[y])))))else .wall
 |_=>.wall
def ZG(ho:PE X o (nC i))(h:EM X C S false e m)(hi:S[i]?=some 2:=by rfl)(Wv:attributeBase o "append" X.env (eval o X.env)=eval o X.env:=by rfl)(Bu:((backTo p (starEach [e] X.env)).all (λx=>!x.1)&&(backToKw p (keywordEach [] X.env)).all (λx=>x.1.isSome)&&decide ([e].length+([]:List Keyword).length+(if([]:List Keyword).isEmpty then 0 else 1)<30))=true:=by rfl)(Wu:(jW.endLine==p.line)=true:=by rfl)(hs:starEach [e] X.env=[(false,eval e X.env)]:=by rfl)(hsw:swapsWith (.Call (.Attribute o "append" jW) [e] [] p) none pos.line X.env=pure false:=by rfl):
  SM X C S S Sb Sc (.Expr (.Call (.Attribute o "append" jW) [e] [] p) pos) (rY i m):=λhK=>by
 obtain⟨te,a1,a2⟩:=h hK;refine⟨_,J3 (xn a0N a2j a2k Ug ho (ZW a1 Ub hs) Wv Bu Wu hs rfl) hsw,λB P H Y U R D q=>?_⟩;unfold rY at q;split at q
 .rename_i xs hx;obtain⟨hσ,⟨vs,hp,rr⟩,hl⟩:=R.at2 hi hx;refine⟨_,hσ,.inl ⟨rfl,_,Sq.of hp⟩,a2 B P H Y U R _ ?_⟩;revert q;cases m U with
  |ok y=>
   intro q v H2 s r;have q:ZF C B S Sb Sc D (if xs.length<sizeLine then .ok (.nx (U.set i (some (.l (xs++[y])))))else .wall):=q;split at q
   .rename_i hz;have R2:=R.keep s;refine⟨_,vs,v,rfl,rfl,s _ _ hp,by rw[rr.len];exact hz,q P _ Y (R2.wr hi hl hσ (by exact id) ?_)⟩;have f:=Sl.wr (o:=.lst (vs++[v])) R2 hi;exact⟨_,zh,((rr.same s).append (.cons r.rep .nil)).gen f λ_ m _=>m⟩
   .exact q.elim
  |exc c fs=>exact id
  |wall=>exact id
 .exact q.elim
def GX(i:Nat)(m:ME):MS:=λU=>match U[i]? with
 |some (some (.l xs))=>(m U).bind λy=>match y with
  |.l ys=>if xs.length+ys.length<=sizeLine then .ok (.nx (U.set i (some (.l (xs++ys)))))else .wall
  |_=>.wall
 |_=>.wall
def rZ(ho:PE X o (nC i))(h:EM X C S w e m)(hi:S[i]?=some 2:=by rfl)(Wv:attributeBase o "extend" X.env (eval o X.env)=eval o X.env:=by rfl)(Bu:((backTo p (starEach [e] X.env)).all (λx=>!x.1)&&(backToKw p (keywordEach [] X.env)).all (λx=>x.1.isSome)&&decide ([e].length+([]:List Keyword).length+(if([]:List Keyword).isEmpty then 0 else 1)<30))=true:=by rfl)(Wu:(jW.endLine==p.line)=true:=by rfl)(hs:starEach [e] X.env=[(false,eval e X.env)]:=by rfl)(hsw:swapsWith (.Call (.Attribute o "extend" jW) [e] [] p) none pos.line X.env=pure false:=by rfl):
  SM X C S S Sb Sc (.Expr (.Call (.Attribute o "extend" jW) [e] [] p) pos) (GX i m):=λhK=>by
 obtain⟨te,a1,a2⟩:=h hK;refine⟨_,J3 (xn a0N PySem.F.slot_list_extend PySem.F.type_list_extend pJ ho (ZW a1 Ub hs) Wv Bu Wu hs rfl) hsw,λB P H Y U R D q=>?_⟩;unfold GX at q;split at q
 .rename_i xs hx;obtain⟨hσ,⟨vs,hp,rr⟩,hl⟩:=R.at2 hi hx;refine⟨_,hσ,.inl ⟨rfl,_,Sq.of hp⟩,a2 B P H Y U R _ ?_⟩;revert q;cases m U with
  |ok y=>
   intro q v H2 s r;cases y with
   |l ys=>
    have q:ZF C B S Sb Sc D (if xs.length+ys.length<=sizeLine then .ok (.nx (U.set i (some (.l (xs++ys)))))else .wall):=q;split at q
    .rename_i hz;have R2:=R.keep s;obtain⟨p',us,rfl,_,hp',ru⟩:=r;refine⟨_,p',vs,us,rfl,rfl,s _ _ hp,hp',by rw[rr.len,ru.len];exact hz,q P _ Y (R2.wr hi hl hσ (by exact id) ?_)⟩;have f:=Sl.wr (o:=.lst (vs++us)) R2 hi;exact⟨_,zh,((rr.same s).append ru).gen f λ_ m _=>m⟩
    .exact q.elim
   |_=>exact q.elim
  |exc c fs=>exact id
  |wall=>exact id
 .exact q.elim
def dput{κ α:Type}[DecidableEq κ](kvs:List (κ×α))(k:κ)(v:α):List (κ×α):=
 if kvs.any (λkv=>decide (kv.1=k))=true then kvs.map (λkv=>if kv.1=k then(kv.1,v)else kv)else kvs++[(k,v)]
end
def jX.put(h:jX W M H a es)(hx:Rep W M H x v):jX W M H (dput a k x) (putK es k v):=by
 have key:∀{a:Ph}{es:Pb},jX W M H a es->a.any (λkv=>decide (kv.1=k))=es.any (λkv=>decide (kv.1=k))/\jX W M H (a.map λkv=>if kv.1=k then(kv.1,x)else kv) (es.map λkv=>if kv.1=k then(kv.1,v)else kv)/\jX W M H (a++[(k,x)]) (es++[(k,v)]):=by
  intro a
  induction a with
  |nil=>intro es h;cases(show _=_ from h);exact⟨rfl,rfl,v,[],rfl,hx,rfl⟩
  |cons kx a ih=>
   intro es h;obtain⟨u,q,rfl,h1,h2⟩:=h;obtain⟨i1,i2,i3⟩:=ih h2;refine⟨by rw[π,π,i1],?_,⟨u,_,rfl,h1,i3⟩⟩;rw[O6,O6];by_cases e:kx.1=k
   .rw[if_pos e,if_pos e];exact⟨v,_,rfl,hx,i2⟩
   .rw[if_neg e,if_neg e];exact⟨u,_,rfl,h1,i2⟩
 obtain⟨i1,i2,i3⟩:=key h;unfold dput putK;rw[i1];split
 .exact i2
 .exact i3
section
variable {X:Cx}{C:LC}{S S' S1 Sb Sc:OS}{e a b o:Pc}{es:OX}{w w1 w2:Bool}{ws:OW}{m m1 m2:ME}{ms:MA}{t1:MT}{s1 s2:MS}{pos p pos':Pos}{x:Str}{st:PB}{sts stt:Pt}{i:Nat}
def B2(i:Nat)(mk mv:ME):MS:=λU=>(mv U).bind λv=>match U[i]? with
 |some (some (.d kvs))=>(mk U).bind λy=>match pk y with
  |some k=>if kvs.length<sizeLine then .ok (.nx (U.set i (some (.d (dput kvs k v)))))else .wall
  |none=>.wall
 |_=>.wall
def r_(hu:X.A.units+1<cLine)(ho:PE X o (nC i))(hk:EM X C S w a m1)(hv:EM X C S false e m2)(hi:S[i]?=some 2:=by rfl)(hs:swapsWith e (some (.Subscript o a pos')) pos.line X.env=pure false:=by rfl):
  SM X C S S Sb Sc (.Assign [.Subscript o a pos'] e pos) (B2 i m1 m2):=λhK=>by
 obtain⟨ta,a1,a2⟩:=hk hK;obtain⟨tv,b1,b2⟩:=hv hK;refine⟨_,ib hu ho a1 b1 hs,λB P H Y U R D q=>b2 B P H Y U R _ ?_⟩;unfold B2 at q;revert q;cases m2 U with
 |ok y=>
  intro q v H1 sm1 rv;have R1:=R.keep sm1;have q:ZF C B S Sb Sc D (match U[i]? with
   |some (some (.d kvs))=>(m1 U).bind λz=>match pk z with
    |some k=>if kvs.length<sizeLine then .ok (.nx (U.set i (some (.d (dput kvs k y)))))else .wall
    |none=>.wall
   |_=>.wall):=q
  split at q
  .rename_i kvs hx;obtain⟨hσ,⟨es,hp,rr⟩,hl⟩:=R1.at2 hi hx;refine⟨_,hσ,a2 B P H1 Y U R1 _ ?_⟩;revert q;cases m1 U with
   |ok z=>
    intro q u H2 sm2 ru;have R2:=R1.keep sm2;have q:ZF C B S Sb Sc D (match pk z with
     |some k=>if kvs.length<sizeLine then .ok (.nx (U.set i (some (.d (dput kvs k y)))))else .wall
     |none=>.wall):=q
    split at q
    .rename_i k hk;split at q
     .rename_i hz;have hp2:=sm2 _ _ hp;refine⟨_,_,rfl,by rw[Ul ru.weak hk];exact xp.k hp2 (by rw[jX.len rr];exact hz),q P _ Y (R2.wr hi hl hσ (by exact id) ?_)⟩;have f:=Sl.wr (o:=.dK (putK es k v)) R2 hi;exact⟨_,zh,((rr.same sm2).put (rv.rep.same sm2)).gen f λ_ m _=>m⟩
     .exact q.elim
    .exact q.elim
   |exc c fs=>exact id
   |wall=>exact id
  .exact q.elim
 |exc c fs=>exact id
 |wall=>exact id
def uY(fs:Pj)(f:Str)(v:PV):List (Str×PV):=match fs with
 |[]=>[(f,v)]
 |kx::r=>if kx.1=f then(f,v)::r else kx::uY r f v
end
def vg.put{W:RC}{M:OU}{H:Hp}{f:Str}{x:PV}{v:V}(hx:Rep W M H x v):∀{a:Pj}{es:Pp},vg W M H a es->vg W M H (uY a f x) (KH f v es)
 |[],_,h=>by cases(show _=_ from h);exact⟨v,[],rfl,hx,rfl⟩
 |kx::a,_,h=>by
  obtain⟨u,q,rfl,h1,h2⟩:=h;unfold uY KH;by_cases e:kx.1=f
  .rw[if_pos e,if_pos e,e];exact⟨v,q,rfl,hx,h2⟩
  .rw[if_neg e,if_neg e];exact⟨u,_,rfl,h1,vg.put hx h2⟩
def vg.len(h:vg W M H a es):es.length=a.length:=by have:=SS List.length (vg.iff.mp h).1;simpa using this
section
variable {X:Cx}{C:LC}{S S' S1 Sb Sc:OS}{e a b o:Pc}{es:OX}{w w1 w2:Bool}{ws:OW}{m m1 m2:ME}{ms:MA}{t1:MT}{s1 s2:MS}{pos p pos':Pos}{x:Str}{st:PB}{sts stt:Pt}{i:Nat}
def iC(i:Nat)(cs:OS)(f:Str)(m:ME):MS:=λU=>(m U).bind λv=>match U[i]? with
 |some (some (.o c fs))=>if c∈cs/\fs.length<1000 then .ok (.nx (U.set i (some (.o c (uY fs f v)))))else .wall
 |_=>.wall
def sd(ho:PE X o (nC i))(hv:EM X C S false e m)(hc:∀c∈cs,TL X.K (C.W.cls c)/\ve X.K (C.W.cls c) fn)(hi:S[i]?=some 2:=by rfl)(hs:swapsWith e (some (.Attribute o fn pos')) pos.line X.env=pure false:=by rfl):
  SM X C S S Sb Sc (.Assign [.Attribute o fn pos'] e pos) (iC i cs fn m):=λhK=>by
 obtain⟨tv,b1,b2⟩:=hv hK;refine⟨_,BE ho b1 hs,λB P H Y U R D q=>b2 B P H Y U R _ ?_⟩;unfold iC at q;revert q;cases m U with
 |ok y=>
  intro q v H1 sm1 rv;have R1:=R.keep sm1;have q:ZF C B S Sb Sc D (match U[i]? with
   |some (some (.o c fs))=>if c∈cs/\fs.length<1000 then .ok (.nx (U.set i (some (.o c (uY fs fn y)))))else .wall
   |_=>.wall):=q
  split at q
  .rename_i c fs hx;split at q
   .rename_i hz;obtain⟨hσ,⟨dx,es,hp,rr⟩,hl⟩:=R1.at2 hi hx;refine⟨_,hσ,_,_,dx,es,rfl,hp,(hc c hz.1).1,(hc c hz.1).2,by rw[rr.len];exact hz.2,q P _ Y (R1.wr hi hl hσ (by exact id) ?_)⟩;have f:=Sl.wr (o:=.ins (C.W.cls c) dx (KH fn v es)) R1 hi;exact⟨dx,_,zh,(vg.put rv.rep rr).gen f λ_ m _=>m⟩
   .exact q.elim
  .exact q.elim
 |exc c fs=>exact id
 |wall=>exact id
def GY(i:Nat)(g:Ra)(m:ME):MS:=λU=>match U[i]? with
 |some (some x)=>(m U).bind λy=>(g x y).bind λz=>.ok (.nx (U.set i (some z)))
 |_=>.wall
def DS(hN:X.N.Nodup)(hi:X.N[i]?=some x)(hx:Loc X.env.scope x)(h:EM X C S w e m)(ho:PIp X op (ipI f))(hS:S[i]?≠some 2/\S[i]?≠some 1:=by decide)(hf:Rm X x:=by first|exact .inl rfl|exact .inr rfl|assumption):
  SM X C S (S.set i 0) Sb Sc (.AugAssign (.Name x pos') op e pos) (GY i (pI λa b=>.i (f a b)) m):=λhK=>by
 obtain⟨te,a1,a2⟩:=h hK;refine⟨_,FQ hN hi hx a1 ho hf,λB P H Y U R D q=>?_⟩;unfold GY at q;split at q
 .rename_i y hy;obtain⟨v,hv,_,_,h4⟩:=R.var i y hy;refine⟨v,hv,a2 B P H Y U R _ ?_⟩;have r0:=h4 hS.1 hS.2;revert q;cases m U with
  |ok z=>
   intro q u H2 s r;have R2:=R.keep s;have q:ZF C B (S.set i 0) Sb Sc D ((pI (λa b=>.i (f a b)) y z).bind λz=>.ok (.nx (U.set i (some z)))):=q;cases y with
   |i a=>
    cases z with
    |i b=>exact⟨a,b,r0,r,q P H2 _ (R2.set (x:=.i (f a b)) (v:=.int (f a b)) rfl)⟩
    |_=>exact q.elim
   |_=>exact q.elim
  |exc c fs=>exact id
  |wall=>exact id
 .exact q.elim
abbrev MG:=PV->So->Option So
def LG(C:LC)(S S':OS)(g:TG)(mg:MG):Prop:=∀B P H Y U x v,Rel C.W B S P H Y U->Rep C.W (Sl B S P) H x v->∀Q:St->Hp->Prop,(∃U',mg x U=some U'/\∀Y',Rel C.W B S' P H Y' U'->Q Y' H)->g v Y H Q
def GM(X:Cx)(C:LC)(S S':OS)(tg:Pc)(mg:MG):Prop:=X.K=C.W.K->∃g,PG X tg g/\LG C S S' g mg
def Sr(i:Nat):MG:=λx U=>some (U.set i (some x))
def vy(hN:X.N.Nodup)(hi:X.N[i]?=some x)(hx:Loc X.env.scope x)(hf:Rm X x:=by first|exact .inl rfl|exact .inr rfl|assumption):GM X C S (S.set i 0) (.Name x pos) (Sr i):=
 λ_=>⟨_,o8 hN hi hx hf,λB P H Y U x v R r Q ⟨U',e,k⟩=>by cases e;exact k _ (R.set r)⟩
abbrev MGs:=List PV->So->Option So
def LGs(C:LC)(S S':OS)(g:TGs)(mg:MGs):Prop:=∀B P H Y U xs vs,Rel C.W B S P H Y U->yq C.W (Sl B S P) H xs vs->∀Q:St->Hp->Prop,(∃U',mg xs U=some U'/\∀Y',Rel C.W B S' P H Y' U'->Q Y' H)->g vs Y H Q
def GsM(X:Cx)(C:LC)(S S':OS)(tgs:OX)(mg:MGs):Prop:=X.K=C.W.K->∃g,PGs X tgs g/\LGs C S S' g mg
def iD:MGs:=λxs U=>match xs with
 |[]=>some U
 |_=>none
def qr(g:MG)(gs:MGs):MGs:=λxs U=>match xs with
 |x::r=>(g x U).bind λU'=>gs r U'
 |[]=>none
def fg:GsM X C S S [] iD:=λ_=>⟨_,o9,λB P H Y U xs vs R r Q ⟨U',e,k⟩=>by
 cases xs with
 |nil=>cases e;cases(show _=_ from r);exact⟨rfl,k _ R⟩
 |cons x xs=>cases e⟩
def Sl.le{B:Bs}{S S':OS}{P:O_}(h:∀j:Nat,S'[j]?=some 2->S[j]?=some 2){a:Addr}(m:Sl B S P a):Sl B S' P a:=⟨m.1,λj hj=>m.2 j (h j hj)⟩
def qw(h1:GM X C S S1 e g)(h2:GsM X C S1 S' es gs)(hS:∀j:Nat,S1[j]?=some 2->S[j]?=some 2)(hs:(assignEach (e::es) X.env).map (·.2)=assign e X.env::(assignEach es X.env).map (·.2):=by rfl):GsM X C S S' (e::es) (qr g gs):=λhK=>by
 obtain⟨t,a1,a2⟩:=h1 hK;obtain⟨u,b1,b2⟩:=h2 hK;refine⟨_,lG a1 b1 hs,λB P H Y U xs vs R r Q ⟨U',e,k⟩=>?_⟩;cases xs with
 |nil=>cases e
 |cons x xs=>
  obtain⟨v,vr,rfl,rx,rr⟩:=r;have e:(g x U).bind (λU'=>gs xs U')=some U':=e;cases hg:g x U with
  |none=>rw[hg]at e;cases e
  |some ρ1=>rw[hg]at e;exact⟨v,vr,rfl,a2 B P H Y U x v R rx _ ⟨ρ1,hg,λY' R'=>b2 B P H Y' ρ1 xs vr R' (rr.sub λa m _=>Sl.le hS m) Q ⟨U',e,k⟩⟩⟩
def ϣ(n:Nat)(gs:MGs):MG:=λx U=>match x with
 |.t xs=>if xs.length=n then gs xs U else none
 |_=>none
def fh(hc:X.calm=true)(h:GsM X C S S' es gs)(hn:(assignEach es X.env).length=n:=by rfl)(hst:(assignEach es X.env).findIdx? (·.1)=none:=by rfl):GM X C S S' (.Tuple es k pos) (ϣ n gs):=λhK=>by
 obtain⟨t,a1,a2⟩:=h hK;refine⟨_,By hc a1 hn hst,λB P H Y U x v R r Q ⟨U',e,k⟩=>?_⟩;cases x with
 |t xs=>
  obtain⟨p,vs,rfl,hp,rr⟩:=r;have e:(if xs.length=n then gs xs U else none)=some U':=e;by_cases hl:xs.length=n
  .rw[if_pos hl]at e;exact⟨p,vs,rfl,hK▸hp,by rw[rr.len];exact hl,a2 B P H Y U xs vs R rr Q ⟨U',e,k⟩⟩
  .rw[if_neg hl]at e;cases e
 |_=>cases e
def GZ(g:MG)(m:ME):MS:=λU=>(m U).bind λx=>(ZS (g x U)).bind λU'=>.ok (.nx U')
def G0(h:EM X C S false e m)(hg:GM X C S S' tg g)(hs:swapsWithSole [tg] e pos.line X.env=pure false:=by rfl)(hw:swappedStores [tg] e X.env=pure none:=by rfl)(h1:(assignEach [tg] X.env).map (·.2)=[assign tg X.env]:=by rfl):SM X C S S' Sb Sc (.Assign [tg] e pos) (GZ g m):=λhK=>by
 obtain⟨te,a1,a2⟩:=h hK;obtain⟨t,b1,b2⟩:=hg hK;refine⟨_,Bz a1 b1 hs hw h1,λB P H Y U R D q=>a2 B P H Y U R _ ?_⟩;unfold GZ at q;revert q;cases m U with
 |ok x=>
  intro q v H2 s r;have q:ZF C B S' Sb Sc D ((ZS (g x U)).bind λU'=>.ok (.nx U')):=q;cases hgx:g x U with
  |some ρ1=>rw[hgx]at q;exact b2 B P H2 Y U x v (R.keep s) r.rep _ ⟨ρ1,hgx,λY' R'=>q P H2 Y' R'⟩
  |none=>rw[hgx]at q;exact q.elim
 |exc c fs=>exact id
 |wall=>exact id
def NA(B:Bs)(S:OS)(P:O_):Addr->Prop:=λa=>¬B.xc a/\∀i,S[i]?=some 2->P i≠a
def DT(W:RC)(M N:OU)(H2:Hp)(J:It)(xs:Pe):Prop:=∀H',Fr N H2 H'->
 (∀i x,xs[i]?=some x->J.go i H'/\∀v H'',J.yld i H' v H''->zH H' H''/\∀M':Addr->Prop,(∀a,M a->H2 a≠none->M' a)->Rep W M' H'' x v)/\J.stop xs.length H'
abbrev MI:=So->Out (List PV)
def NAc(c:Bool)(B:Bs)(S:OS)(P:O_):Addr->Prop:=if c=true then λ_=>True else NA B S P
def sf(C:LC)(B:Bs)(S:OS)(P:O_)(c:Bool)(H:Hp)(R:It->Hp->Prop):Out (List PV)->Prop
 |.ok xs=>∀J H2,zH H H2->DT C.W (Sl B S P) (NAc c B S P) H2 J xs->R J H2
 |.exc c fs=>Ξ C B c fs
 |.wall=>False
def LI(C:LC)(S:OS)(c:Bool)(wi:TI)(mi:MI):Prop:=∀B P H Y U,Rel C.W B S P H Y U->∀R:It->Hp->Prop,sf C B S P c H R (mi U)->wi Y H R
def IM(X:Cx)(C:LC)(S:OS)(c:Bool)(tg jD:Pc)(mi:MI):Prop:=X.K=C.W.K->∃wi,PI X tg jD wi/\LI C S c wi mi
def wj(g:MG)(b:MS):List PV->So->Out Fw
 |[],U=>.ok (.nx U)
 |x::xs,U=>(ZS (g x U)).bind λρ1=>(b ρ1).bind λf=>match f with
  |.nx ρ2=>wj g b xs ρ2
  |.ct ρ2=>wj g b xs ρ2
  |.bk ρ2=>.ok (.nx ρ2)
  |.rt v=>.ok (.rt v)
def KC(mi:MI)(g:MG)(b:MS):MS:=λU=>(mi U).bind λxs=>wj g b xs U
end
open Classical in
def Bs.loop(B:Bs)(S:OS)(P:O_)(H:Hp)(hz:∀a,B.N0 a->(¬((∃i,S[i]?=some 2/\P i=a)\/B.xc a))/\H a≠none):Bs where
 H0:=λa=>if(∃i,S[i]?=some 2/\P i=a)\/B.xc a then none else H a
 M0:=B.Mt
 N0:=B.N0
 nz:=λa h=>by rw[if_neg (hz a h).1];exact(hz a h).2
 pin:=B.pin
 xc:=B.xc
section
variable {W:RC}{B:Bs}{S S':OS}{P P':O_}{H H':Hp}{Y Y':St}{U U':So}
def Rel.hz(R:Rel W B S P H Y U):∀a,B.N0 a->(¬((∃i,S[i]?=some 2/\P i=a)\/B.xc a))/\H a≠none:=λa h=>by
 have h0:=B.nz a h;refine⟨λz=>z.elim (λ⟨i,hi,e⟩=>h0 (e▸(R.act i hi).1)) λz=>h0 (R.exc a z).choose_spec.2.2,λz=>?_⟩;cases q:B.H0 a with
 |none=>exact h0 q
 |some o=>rw[R.same a o q]at z;cases z
def KS(R:Rel W B S P H Y U)(h:(B.loop S P H R.hz).H0 a=none):B.H0 a=none:=by
 cases q:B.H0 a with
 |none=>rfl
 |some o=>have n:¬((∃i,S[i]?=some 2/\P i=a)\/B.xc a):=λz=>z.elim (λ⟨i,hi,e⟩=>by rw[<- e,(R.act i hi).1]at q;cases q) (λz=>by rw[(R.exc a z).choose_spec.2.2]at q;cases q);unfold Bs.loop at h;dsimp only at h;rw[if_neg n,R.same a o q]at h;cases h
def Uq(R:Rel W B S P H Y U):zH B.H0 (B.loop S P H R.hz).H0:=λa o h=>by have n:¬((∃i,S[i]?=some 2/\P i=a)\/B.xc a):=λz=>z.elim (λ⟨i,hi,e⟩=>by rw[<- e,(R.act i hi).1]at h;cases h) (λz=>by rw[(R.exc a z).choose_spec.2.2]at h;cases h);unfold Bs.loop;dsimp only;rw[if_neg n];exact R.same a o h
def cR(R:Rel W B S P H Y U)(h:(B.loop S P H R.hz).Mt a):B.Mt a:=h.elim id λz=>.inr (KS R z)
def Rel.loop(R:Rel W B S P H Y U):Rel W (B.loop S P H R.hz) S P H Y U:=by
 have sM:∀a,Sl B S P a->H a≠none->Sl (B.loop S P H R.hz) S P a:=λa m _=>⟨⟨.inl m.1.1,m.1.2⟩,m.2⟩;refine⟨λa o h=>?_,R.len,λi x e=>?_,λi hi=>⟨?_,(R.act i hi).2⟩,R.inj,R.pin,λa h=>?_,R.axc⟩
 .unfold Bs.loop at h;dsimp only at h;split at h
  .cases h
  .exact h
 .obtain⟨v,h1,h2,h3,h4⟩:=R.var i x e;exact⟨v,h1,λz=>⟨(h2 z).1,(h2 z).2.gen rfl Fr.refl sM⟩,λz=>(h3 z).sub (λ_ m _=>m) sM,λz z'=>(h4 z z').sub sM⟩
 .unfold Bs.loop;dsimp only;rw[if_pos (.inl ⟨i,hi,rfl⟩)]
 .obtain⟨o,e,n,_⟩:=R.exc a h;exact⟨o,e,n,by unfold Bs.loop;dsimp only;rw[if_pos (.inr h)]⟩
def Rel.B3(R:Rel W B S P H Y U)(R':Rel W (B.loop S P H R.hz) S' P' H' Y' U'):Rel W B S' P' H' Y' U':=by have sM:∀a,Sl (B.loop S P H R.hz) S' P' a->H' a≠none->Sl B S' P' a:=λa m _=>⟨⟨cR R m.1.1,m.1.2⟩,m.2⟩;refine⟨(Uq R).trans R'.same,R'.len,λi x e=>?_,λi hi=>⟨KS R (R'.act i hi).1,(R'.act i hi).2⟩,R'.inj,R'.pin,λa h=>let⟨o,e,n⟩:=R'.exc a h;⟨o,e,n.1,KS R n.2⟩,R'.axc⟩;obtain⟨v,h1,h2,h3,h4⟩:=R'.var i x e;exact⟨v,h1,λz=>⟨(h2 z).1,(h2 z).2.gen rfl Fr.refl sM⟩,λz=>(h3 z).sub (λ_ m _=>m) sM,λz z'=>(h4 z z').sub sM⟩
def DU(R:Rel W B S P H Y U)(s:zH (B.loop S P H R.hz).H0 H'):Fr (NA B S P) H H':=λa o h m=>by
 have n:¬((∃i,S[i]?=some 2/\P i=a)\/B.xc a):=λz=>by
  rcases z with⟨i,hi,e⟩|z
  .rcases m with m|m
   .exact m.2 i hi e
   .obtain⟨_,o0,e0,n0⟩:=R.act i hi;rw[e,h]at e0;cases e0;exact n0 m
  .rcases m with m|m
   .exact m.1 z
   .obtain⟨o0,e0,n0,_⟩:=R.exc a z;rw[h]at e0;cases e0;exact n0 m
 refine s a o ?_;unfold Bs.loop;dsimp only;rw[if_neg n];exact h
def xY(hW:C.W=W)(R:Rel W B S P H Y U)(q:Ξ C B c fs):Ξ C (B.loop S P H R.hz) c fs:=λe dx es H2 s h1 h2 h3=>q e dx es H2 ((Uq R).trans s) h1 h2 (h3.sub λa m _=>cR R m)
def DV(hW:C.W=W)(R:Rel W B S P H Y U)(h:DP C (B.loop S P H R.hz) H' x v):DP C B H' x v:=by
 unfold DP at h ⊢;by_cases f:C.fr=true
 .rw[if_pos f]at h ⊢;obtain⟨p,e,hp,r⟩:=h;exact⟨p,e,KS R hp,r.gen rfl Fr.refl λa m _=>⟨cR R m.1,m.2⟩⟩
 .rw[if_neg f]at h ⊢;exact h.sub λa m _=>cR R m
end
section
variable {X:Cx}{C:LC}{S S' S1 Sb Sc:OS}{pos:Pos}
def xZ(hi:∀R:It->Hp->Prop,sf C B S P false H R (mi U)->wi Y H R)(hg:LG C S S1 g mg)(hb:LS C S1 S S S tb mb)(R:Rel C.W B S P H Y U)(D:Ends)(q:ZF C B S Sb Sc D (KC mi mg mb U)):IY wi g tb D Y H:=by
 refine hi _ ?_;unfold KC at q;revert q;cases mi U with
 |exc c fs=>exact id
 |wall=>exact id
 |ok xs=>
  intro q J H2 s2 io;have R2:=R.keep s2;have q:ZF C B S Sb Sc D (wj mg mb xs U):=q;refine⟨λi n Y' H'=>n=xs.length-i/\i<=xs.length/\∃U' P',Rel C.W (B.loop S P H2 R2.hz) S P' H' Y' U'/\ZF C B S Sb Sc D (wj mg mb (xs.drop i) U'),⟨_,rfl,Tx _,U,P,R2.loop,q⟩,?_⟩
  rintro i n Y' H' ⟨rfl,hle,U',P',R',q'⟩
  have io':=io H' (DU R2 R'.same);by_cases hlt:i<xs.length
  .have hx:xs[i]?=some xs[i]:=P1 hlt;obtain⟨go,yl⟩:=io'.1 i _ hx;refine .inr ⟨go,λσ2 H2'=>i+1<=xs.length/\∃U' P',Rel C.W (B.loop S P H2 R2.hz) S P' H2' σ2 U'/\ZF C B S Sb Sc D (wj mg mb (xs.drop (i+1)) U'),λσ2 H2' h=>⟨xs.length-(i+1),by omega,rfl,h.1,h.2⟩,λv H'' hy=>?_⟩;obtain⟨sy,ry⟩:=yl v H'' hy;have Ry:=R'.keep sy;have rx:=ry (Sl (B.loop S P H2 R2.hz) S P') λa m hn=>⟨⟨.inl m.1.1,m.1.2⟩,λj hj e=>by
    have z:=(R'.act j hj).1;rw[e]at z;unfold Bs.loop at z;dsimp only at z;rw[if_neg λz=>z.elim (λ⟨k,hk,ek⟩=>m.2 k hk ek) m.1.2]at z;exact hn z⟩
   rw[a1p hlt]at q';have q':ZF C B S Sb Sc D ((ZS (mg xs[i] U')).bind λρ1=>(mb ρ1).bind λf=>match f with
    |.nx ρ2=>wj mg mb (xs.drop (i+1)) ρ2
    |.ct ρ2=>wj mg mb (xs.drop (i+1)) ρ2
    |.bk ρ2=>.ok (.nx ρ2)
    |.rt v=>.ok (.rt v)):=q'
   cases hgx:mg xs[i] U' with
   |none=>rw[hgx]at q';exact q'.elim
   |some ρ1=>
    rw[hgx]at q';refine hg _ P' H'' Y' U' _ v Ry rx _ ⟨ρ1,hgx,λσ1 R1=>hb _ P' H'' σ1 ρ1 R1 _ ?_⟩;have q':ZF C B S Sb Sc D ((mb ρ1).bind λf=>match f with
     |.nx ρ2=>wj mg mb (xs.drop (i+1)) ρ2
     |.ct ρ2=>wj mg mb (xs.drop (i+1)) ρ2
     |.bk ρ2=>.ok (.nx ρ2)
     |.rt v=>.ok (.rt v)):=q'
    revert q';cases mb ρ1 with
    |exc c fs=>exact λq'=>xY rfl R2 q'
    |wall=>exact id
    |ok f=>
     cases f with
     |nx ρ2=>exact λq' P3 H3 σ3 R3=>⟨hlt,ρ2,P3,R3,q'⟩
     |ct ρ2=>exact λq' P3 H3 σ3 R3=>⟨hlt,ρ2,P3,R3,q'⟩
     |bk ρ2=>exact λq' P3 H3 σ3 R3=>q' P3 H3 σ3 (R2.B3 R3)
     |rt x=>exact λq' v H3 s3 h3=>q' v H3 ((Uq R2).trans s3) (DV rfl R2 h3)
  .have e:i=xs.length:=by omega
   subst e;rw[a2l]at q';exact .inl ⟨io'.2,q' P' H' Y' (R2.B3 R')⟩
def G4(hi:LI C S false wi mi)(hg:LG C S S1 g mg)(hb:LS C S1 S S S tb mb):LS C S S Sb Sc (IY wi g tb) (KC mi mg mb):=λB P H Y U R D q=>xZ (hi B P H Y U R) hg hb R D q
def qt(hp:PassesOwn (Rk X) X.A X.env X.xe)(hc:X.calm=true)(hi:IM X C S false tg jD mi)(hg:GM X C S S1 tg mg)(hb:ώ X C S1 S S S body mb)(hs:∀x,foldedSetIterable jD X.env x=pure x:=by intro _;rfl):
  SM X C S S Sb Sc (.For tg jD body [] pos) (KC mi mg mb):=λhK=>by
 obtain⟨wi,a1,a2⟩:=hi hK;obtain⟨g,b1,b2⟩:=hg hK;obtain⟨tb,c1,c2⟩:=hb hK;exact⟨_,pf hp hc a1 b1 c1 hs,G4 a2 b2 c2⟩
def jY(c:MT)(b:MS):Nat->So->Out Fw
 |0,_=>.wall
 |n+1,U=>(c U).bind λt=>if t=true then(b U).bind λf=>match f with
   |.nx ρ2=>jY c b n ρ2
   |.ct ρ2=>jY c b n ρ2
   |.bk ρ2=>.ok (.nx ρ2)
   |.rt v=>.ok (.rt v)
  else .ok (.nx U)
open Classical in
def bS(c:MT)(b:MS):MS:=λU=>if h:∃n,jY c b n U≠.wall then jY c b (choose h) U else .wall
def x_(hc:LT C S tc c)(hb:LS C S S S S tb b):LS C S S Sb Sc (BA tc tb) (bS c b):=λB P H Y U R D q=>by
 unfold bS at q;split at q
 .rename_i h;generalize Classical.choose h=n0 at q;refine⟨λn Y' H'=>∃U' P',Rel C.W B S P' H' Y' U'/\ZF C B S Sb Sc D (jY c b n U'),⟨n0,U,P,R,q⟩,?_⟩
  rintro n Y' H' ⟨U',P',R',q'⟩
  cases n with
  |zero=>exact q'.elim
  |succ n=>
   refine hc B P' H' Y' U' R' _ ?_;unfold jY at q';revert q';cases c U' with
   |exc c fs=>exact id
   |wall=>exact id
   |ok k=>
    intro q' H1 s1;cases k with
    |false=>exact BM (q' P' H1 Y' (R'.keep s1))
    |true=>
     refine BO ⟨λσ2 H2=>∃U' P',Rel C.W B S P' H2 σ2 U'/\ZF C B S Sb Sc D (jY c b n U'),λσ2 H2 h=>⟨n,ϋ n,h⟩,hb B P' H1 Y' U' (R'.keep s1) _ ?_⟩;have q':ZF C B S Sb Sc D ((b U').bind λf=>match f with
      |.nx ρ2=>jY c b n ρ2
      |.ct ρ2=>jY c b n ρ2
      |.bk ρ2=>.ok (.nx ρ2)
      |.rt v=>.ok (.rt v)):=q'
     revert q';cases b U' with
     |exc c fs=>exact id
     |wall=>exact id
     |ok f=>
      cases f with
      |nx ρ2=>exact λq' P3 H3 σ3 R3=>⟨ρ2,P3,R3,q'⟩
      |ct ρ2=>exact λq' P3 H3 σ3 R3=>⟨ρ2,P3,R3,q'⟩
      |bk ρ2=>exact λq'=>q'
      |rt x=>exact λq'=>q'
 .exact q.elim
def Aa(hp:PassesOwn (Rk X) X.A X.env X.xe)(hc:TM X C S c mc)(hb:ώ X C S S S S body mb):SM X C S S Sb Sc (.While c body [] pos) (bS mc mb):=λhK=>by obtain⟨tc,a1,a2⟩:=hc hK;obtain⟨tb,c1,c2⟩:=hb hK;exact⟨_,xf hp a1 c1,x_ a2 c2⟩
end
def LEn(C:LC)(S:OS)(te:TE)(m:ME):Prop:=∀B P H Y U,Rel C.W B S P H Y U->∀Q,zV C B H (λH2=>yZ C.W (NA B S P) (Sl B S P) H2) Q (m U)->te Y H Q
def EN(X:Cx)(C:LC)(S:OS)(e:Pc)(m:ME):Prop:=X.K=C.W.K->∃te,PE X e te/\LEn C S te m
section
variable {X:Cx}{C:LC}{S S' S1 Sb Sc:OS}{e a b o jD tg:Pc}{es:OX}{w w1 w2:Bool}{ws:OW}{m m1 m2:ME}{ms:MA}{t1:MT}{s1 s2:MS}{pos p pos':Pos}{x:Str}{st:PB}{sts stt:Pt}{i:Nat}
def Sl.na{B:Bs}{P:O_}{a:Addr}(m:Sl B S P a):NA B S P a:=⟨m.1.2,m.2⟩
def EM.en(h:EM X C S false e m):EN X C S e m:=λhK=>by obtain⟨te,a1,a2⟩:=h hK;exact⟨te,a1,λB P H Y U R Q q=>a2 B P H Y U R Q (KQ q λx v H2 s hr=>yZ.sub hr (λa m _=>Sl.na m) λ_ m _=>m)⟩
def kI(h:PE X e (nC i))(hS:S[i]?=some 1:=by rfl):EN X C S e (zc i):=λ_=>⟨_,h,λB P H Y U R Q q=>lv R q λx v hv e=>by
 obtain⟨v',hv',_,h3,_⟩:=R.var i x e;rw[hv]at hv';cases hv';refine yZ.sub (h3 hS) (λa n _=>?_) λ_ m _=>m;have h0:=B.nz a n;exact⟨λz=>h0 (R.exc a z).choose_spec.2.2,λj hj e=>h0 (e▸(R.act j hj).1)⟩⟩
def NH(K:Pw)(tl:TE):TI:=λY H R=>tl Y H λx H1=>(∃a,x=.ref a/\(∃xs,Sq K H1 a xs)/\R (Itl K a) H1)\/∃a,x=.ref a/\(∃xs,SN K H1 a xs)/\R (Itt K a) H1
def sg(hl:PE X l tl):PI X tg l (NH X.K tl):=by
 intro Sa s Y H R I h;refine Sk (hl Sa s Y H _ I h) λv s1 ⟨x,H1,I1,r1,q1⟩=>?_;rcases q1 with⟨a,e,⟨xs,hq⟩,q⟩|⟨a,e,⟨xs,hq⟩,q⟩
 .subst e;cases r1;obtain⟨Sf,rv,p,hz⟩:=I1.list hq;refine wpAny_pyIter_list p.isList ?_;refine⟨s1.heap.objs.size,[s1.heap.objs.size],_,_,H1,rfl,I1.kept (t':=s1.toks) λb o e=>O3 _ e,pb a _,⟨_,S5 _ rfl,rfl,rfl⟩,λb hb=>?_,q⟩;have e:b=s1.heap.objs.size:=by simpa using hb
  subst e;exact I1.Fs (O2 _) (I1.hok.fresh (O2 _))
 .subst e;cases r1;obtain⟨Sf,rv,p,hz⟩:=I1.tuple hq;refine wpAny_pyIter_tuple (show s1.heap.IsTuple a Sf.toArray from p) ?_;refine⟨s1.heap.objs.size,[s1.heap.objs.size],_,_,H1,rfl,I1.kept (t':=s1.toks) λb o e=>O3 _ e,nF a _,⟨_,S5 _ rfl,rfl,rfl⟩,λb hb=>?_,q⟩;have e:b=s1.heap.objs.size:=by simpa using hb
  subst e;exact I1.Fs (O2 _) (I1.hok.fresh (O2 _))
def si{W:RC}{K:Pw}{M N:OU}{H2:Hp}{a:Addr}{xs:Pe}{vs:Pa}(hMN:∀a,M a->N a)(h:∀H',Fr N H2 H'->Sq K H' a vs)(r:yq W M H2 xs vs):DT W M N H2 (Itl K a) xs:=λH' f=>by refine⟨λi x hx=>?_,vs,h H' f,by rw[r.len];exact O2 _⟩;obtain⟨v,hv,rv⟩:=r.get hx;refine⟨⟨vs,v,h H' f,hv⟩,λv' H'' hy=>?_⟩;obtain⟨rfl,y⟩:=hy;have:=y vs (h _ f);rw[hv]at this;cases this;exact⟨zH.refl _,λM' sM=>Rep.gen (λa o h m=>f a o h (m.imp (hMN a) id)) (λa m n=>sM a m n) rv⟩
def G5{W:RC}{K:Pw}{M N:OU}{H2:Hp}{a:Addr}{xs:Pe}{vs:Pa}(hMN:∀a,M a->N a)(h:∀H',Fr N H2 H'->SN K H' a vs)(r:yq W M H2 xs vs):DT W M N H2 (Itt K a) xs:=λH' f=>by refine⟨λi x hx=>?_,vs,h H' f,by rw[r.len];exact O2 _⟩;obtain⟨v,hv,rv⟩:=r.get hx;refine⟨⟨vs,v,h H' f,hv⟩,λv' H'' hy=>?_⟩;obtain⟨rfl,y⟩:=hy;have:=y vs (h _ f);rw[hv]at this;cases this;exact⟨zH.refl _,λM' sM=>Rep.gen (λa o h m=>f a o h (m.imp (hMN a) id)) (λa m n=>sM a m n) rv⟩
def items:PV->Out (List PV)
 |.l xs=>.ok xs
 |.t xs=>.ok xs
 |.sc ns=>.ok (ns.map PV.i)
 |_=>.wall
def zN(m:ME):MI:=λU=>(m U).bind items
variable {cc:Bool}
def Sl.nac{B:Bs}{P:O_}{a:Addr}(m:Sl B S P a):NAc cc B S P a:=by
 unfold NAc;cases cc with
 |true=>rw[if_pos rfl];trivial
 |false=>rw[if_neg P5];exact Sl.na m
def sj(hK:X.K=C.W.K)(a2:∀B P H Y U,Rel C.W B S P H Y U->∀Q,zV C B H (λH2=>yZ C.W (NAc cc B S P) (Sl B S P) H2) Q (m U)->te Y H Q):LI C S cc (NH X.K te) (zN m):=λB P H Y U R Q q=>by
 refine a2 B P H Y U R _ ?_;unfold zN at q;revert q;cases m U with
 |exc c fs=>exact id
 |wall=>exact id
 |ok y=>
  intro q v H2 s r;cases y with
  |l xs=>obtain⟨p,vs,rfl,n,hp,rr⟩:=r;exact .inl ⟨p,rfl,⟨vs,Sq.of hp⟩,q _ H2 s (si (λa m=>Sl.nac m) (λH' f=>Sq.of (f _ _ hp (.inl n))) rr)⟩
  |t xs=>obtain⟨p,vs,rfl,hp,rr⟩:=r;rw[<- hK]at hp;exact .inr ⟨p,rfl,⟨vs,hp⟩,q _ H2 s (G5 (λa m=>Sl.nac m) (λH' f=>f.sqT hp) rr)⟩
  |sc ns=>obtain⟨p,rfl,hp⟩:=r;rw[<- hK]at hp;exact .inl ⟨p,rfl,⟨_,hp.sq⟩,q _ H2 s (si (vs:=ns.map V.int) (λa m=>Sl.nac m) (λH' f=>(hp.frame f).sq) yq.ints)⟩
  |_=>exact q.elim
def jZ(h:EN X C S e m):IM X C S false tg e (zN m):=λhK=>by obtain⟨te,a1,a2⟩:=h hK;exact⟨_,sg a1,sj hK a2⟩
def Z1(h:EM X C S w e m):IM X C S true tg e (zN m):=λhK=>by obtain⟨te,a1,a2⟩:=h hK;exact⟨_,sg a1,sj hK λB P H Y U R Q q=>a2 B P H Y U R Q (KQ q λx v H2 s r=>r.weak)⟩
def d8(lo:Int)(n:Nat):List PV:=(List.range n).map λk=>.i (lo+(k:Nat))
def DW{lo:Int}{n i:Nat}{x:PV}(h:(d8 lo n)[i]?=some x):i<n/\x=.i (lo+i):=by unfold d8 at h;rw[S7]at h;obtain⟨k,hk,rfl⟩:=v4.mp h;rw[P8]at hk;obtain⟨h1,h2⟩:=hk;rw[ό]at h1;rw[a1Y]at h2;subst h2;exact⟨h1,rfl⟩
def DX{lo:Int}{n:Nat}:(d8 lo n).length=n:=by unfold d8;rw[u8,ό]
def G6{W:RC}{M N:OU}{H2:Hp}{lo:Int}{n:Nat}:DT W M N H2 (Itr lo n) (d8 lo n):=λH' f=>by refine⟨λi x hx=>?_,by rw[DX];exact O2 _⟩;obtain⟨hi,rfl⟩:=DW hx;refine⟨hi,λv H'' hy=>?_⟩;obtain⟨rfl,rfl⟩:=hy;exact⟨zH.refl _,λ_ _=>rfl⟩
def so:List PV->Out (List PV)
 |[.i n]=>if -(2 ^ 62)<=n/\n<2 ^ 62 then .ok (d8 0 n.toNat)else .wall
 |_=>.wall
def YZ(ms:MA):MI:=λU=>(ms U).bind so
def Z2(hg:Gl X "range")(hm:X.mg "range"=none)(ha:AM X C S ws [a] ms)(hs:starEach [a] X.env=[(false,eval a X.env)]:=by rfl):IM X C S cc tg (.Call (.Name "range" p) [a] [] pos) (YZ ms):=λhK=>by
 obtain⟨ta,a1,a2⟩:=ha hK;refine⟨_,pd hg hm a1 hs,λB P H Y U R Q q=>a2 B P H Y U R _ ?_⟩;unfold YZ at q;revert q;cases ms U with
 |exc c fs=>exact id
 |wall=>exact id
 |ok xs=>
  intro q vs H2 s r;have r:=r.weak;have q:sf C B S P cc H Q (so xs):=q;unfold so at q;split at q
  .split at q
   .rename_i hn;obtain⟨v,r',rfl,hx,hr⟩:=r;cases(show _=_ from hr);cases(show _=_ from hx);exact⟨_,rfl,hn.1,hn.2,q _ H2 s G6⟩
   .exact q.elim
  .exact q.elim
end
def Ϻ{α:Type}:Out α->Out α
 |.exc _ _=>.wall
 |o=>o
def Tq(g:MG)(c:MT)(e:ME):List PV->So->List PV->Out PV
 |[],_,acc=>.ok (.l acc)
 |x::xs,U,acc=>(ZS (g x U)).bind λρ1=>(Ϻ (c ρ1)).bind λt=>if t=true then(Ϻ (e ρ1)).bind λy=>if acc.length<sizeLine then Tq g c e xs ρ1 (acc++[y])else .wall else Tq g c e xs ρ1 acc
def aP(U:So)(fr:Pf):So:=fr.map λo=>match o with|none=>none|some j=>(U[j]?).join
def SO(mi:MI)(fr:Pf)(g:MG)(c:MT)(e:ME):ME:=λU=>(mi U).bind λxs=>Tq g c e xs (aP U fr) []
def oV:MT:=λ_=>.ok true
def Tr(S:OS)(fr:Pf):List Nat:=fr.map λo=>match o with|none=>0|some j=>if S[j]?=some 2\/S[j]?=some 1 then 1 else 0
def Χ(B:Bs)(S:OS)(P:O_)(H:Hp)(acc:Addr):Bs:=⟨H,Sl B S P,λa=>H a≠none,λ_ h=>h,none,λa=>a=acc⟩
def sr{S:OS}{fr:Pf}{k c:Nat}(h:(Tr S fr)[k]?=some c):c≠2:=by
 unfold Tr at h;rw[S7]at h;obtain⟨o,ho,e⟩:=v4.mp h;intro z;rw[z]at e;cases o with
 |none=>cases e
 |some j=>dsimp only at e;split at e<;>cases e
section
variable {X:Cx}{C:LC}{S S' S1 Sb Sc:OS}{e a b o jD tg elt:Pc}{es ifs:OX}{w w1 w2:Bool}{ws:OW}{m m1 m2 me:ME}{ms:MA}{t1 mc:MT}{mg:MG}{mi:MI}{s1 s2:MS}{pos p pos':Pos}{x:Str}{st:PB}{sts stt:Pt}{i:Nat}{scope:Scope}
def Rel.comp{W:RC}{B:Bs}{P:O_}{H H':Hp}{Y:St}{U:So}{acc:Addr}{fr:Pf}{ys:Pa}(R:Rel W B S P H Y U)(ha:H acc=none)(s:zH H H')(hy:H' acc=some (.lst ys)):Rel W (Χ B S P H acc) (Tr S fr) (λ_=>0) H' (uW Y fr) (aP U fr):=by
 have n2:∀{k:Nat},(Tr S fr)[k]?=some 2->False:=λ{k} h=>sr h rfl;have sM:∀a,Sl B S P a->H a≠none->Sl (Χ B S P H acc) (Tr S fr) (λ_=>0) a:=λa m n=>⟨⟨.inl m,λz=>n ((show a=acc from z)▸ha)⟩,λi hi=>(n2 hi).elim⟩;refine⟨s,by unfold uW aP;rw[u8,u8],λk x e=>?_,λi hi=>(n2 hi).elim,λi j hi=>(n2 hi).elim,λhi=>(n2 hi).elim,λa h=>?_,λi hi=>(n2 hi).elim⟩
 .unfold aP at e;rw[S7]at e;obtain⟨o,ho,e⟩:=v4.mp e;cases o with
  |none=>cases e
  |some j=>
   have e:(U[j]?).join=some x:=e;have hj:U[j]?=some (some x):=by
    cases q:U[j]? with
    |none=>rw[q]at e;cases e
    |some z=>rw[q]at e;cases z with
     |none=>cases e
     |some z=>cases e;rfl
   obtain⟨v,hv,h2,h3,h4⟩:=R.var j x hj;have hS:(Tr S fr)[k]?=some (if S[j]?=some 2\/S[j]?=some 1 then 1 else 0):=by unfold Tr;rw[S7,ho];rfl
   refine⟨v,by unfold uW;rw[S7,ho];show some ((Y[j]?).join)=_;rw[hv];rfl,λz=>(n2 z).elim,λz=>?_,λz z'=>?_⟩
   .rw[hS]at z;by_cases c2:S[j]?=some 2
    .obtain⟨rfl,ra⟩:=h2 c2;obtain⟨_,o,eo,_⟩:=R.act j c2;exact((ra.Mm (N:=λa=>H a≠none) (by rw[eo];intro z;cases z)).sub (λ_ m _=>m) sM).same s
    .by_cases c1:S[j]?=some 1
     .exact((h3 c1).sub (λa n q=>(R.hz a n).2) sM).same s
     .rw[if_neg (by rintro(q|q);exact c2 q;exact c1 q)]at z;cases z
   .rw[hS]at z';by_cases c:S[j]?=some 2\/S[j]?=some 1
    .rw[if_pos c]at z';exact absurd rfl z'
    .exact((h4 (λq=>c (.inl q)) λq=>c (.inr q)).sub sM).same s
 .cases(show a=acc from h);exact⟨_,hy,id,ha⟩
def ϴ(X:Cx)(C:LC)(S:OS)(ifs:OX)(m:MT):Prop:=X.K=C.W.K->∃tt,ϵ X ifs tt/\LT C S tt m
def KU:ϴ X C S [] oV:=λ_=>⟨_,DA,λB P H Y U R Q q=>q H (zH.refl _)⟩
def G7(h:TM X C S c t1):ϴ X C S [c] t1:=λhK=>let⟨tt,a1,a2⟩:=h hK;⟨tt,DB a1,a2⟩
def cS{ι:Type}{Yaa:ι->Cx}(h:∀z,EM (Yaa z) C S w e m)(hK:∀z,(Yaa z).K=C.W.K):∃te,(∀z,PE (Yaa z) e te)/\LE C S w te m:=
 ⟨λY H Q=>∀z,(Classical.choose (h z (hK z))) Y H Q,λz Sa s Y H Q I q=>(T2 (h z (hK z))).1 Sa s Y H Q I (q z),λB P H Y U R Q q z=>(T2 (h z (hK z))).2 B P H Y U R Q q⟩
def cT{ι:Type}{Yaa:ι->Cx}(h:∀z,ϴ (Yaa z) C S ifs mc)(hK:∀z,(Yaa z).K=C.W.K):∃te,(∀z,ϵ (Yaa z) ifs te)/\LT C S te mc:=
 ⟨λY H Q=>∀z,(Classical.choose (h z (hK z))) Y H Q,λz Sa s Y H Q I q=>(T2 (h z (hK z))).1 Sa s Y H Q I (q z),λB P H Y U R Q q z=>(T2 (h z (hK z))).2 B P H Y U R Q q⟩
def cU{ι:Type}{Yaa:ι->Cx}(h:∀z,GM (Yaa z) C S S1 tg mg)(hK:∀z,(Yaa z).K=C.W.K):∃g,(∀z,PG (Yaa z) tg g)/\LG C S S1 g mg:=
 ⟨λv Y H Q=>∀z,(Classical.choose (h z (hK z))) v Y H Q,λz Sa s Y H v u Q I r q=>(T2 (h z (hK z))).1 Sa s Y H v u Q I r (q z),λB P H Y U x v R r Q q z=>(T2 (h z (hK z))).2 B P H Y U x v R r Q q⟩
def DY{wi:TI}{g:TG}{tc:TT}{te:TE}{fr:Pf}{Si:OS}{W:RC}{B:Bs}{P:O_}{H:Hp}{Y:St}{U:So}(hi:∀R:It->Hp->Prop,sf C B S P true H R (mi U)->wi Y H R)(hW:W=C.W)(hS:Si=Tr S fr)(hg:LG ⟨W,E0,false⟩ Si Si g mg)(ht:LT ⟨W,E0,false⟩ Si tc mc)(he:LE ⟨W,E0,false⟩ Si false te me)(R:Rel C.W B S P H Y U)(Q:VK)(q:zV C B H (SW C.W (Sl B S P) H) Q (SO mi fr mg mc me U)):tLC wi g tc te fr Y H Q:=by
 subst hW hS;refine hi _ ?_;unfold SO at q;revert q;cases mi U with
 |exc c fs=>exact id
 |wall=>exact id
 |ok xs=>
  intro q J H1 s1 io acc ha;have R1:=R.keep s1;have q:zV C B H (SW C.W (Sl B S P) H) Q (Tq mg mc me xs (aP U fr) []):=q;have sM:∀a,Sl (Χ B S P H1 acc) (Tr S fr) (λ_=>0) a->Sl B S P a/\a≠acc:=λa m=>⟨m.1.1.elim id λn=>R1.new a n,m.1.2⟩;refine⟨λi n Y' H'=>n=xs.length-i/\i<=xs.length/\∃U' ys vs,Rel C.W (Χ B S P H1 acc) (Tr S fr) (λ_=>0) H' Y' U'/\H' acc=some (.lst vs)/\yq C.W (Sl (Χ B S P H1 acc) (Tr S fr) λ_=>0) H' ys vs/\zV C B H (SW C.W (Sl B S P) H) Q (Tq mg mc me (xs.drop i) U' ys),
   ⟨_,rfl,Tx _,aP U fr,[],[],R1.comp ha (zH.upd ha) zh,zh,rfl,q⟩,?_⟩
  rintro i n Y' H' ⟨rfl,hle,U',ys,vs,R',hacc,rys,q'⟩
  have io':=io H' (zH.fr R'.same);by_cases hlt:i<xs.length
  .have hx:xs[i]?=some xs[i]:=P1 hlt;obtain⟨go,yl⟩:=io'.1 i _ hx;refine .inr ⟨go,λσ2 H2'=>i+1<=xs.length/\∃U' ys vs,Rel C.W (Χ B S P H1 acc) (Tr S fr) (λ_=>0) H2' σ2 U'/\H2' acc=some (.lst vs)/\yq C.W (Sl (Χ B S P H1 acc) (Tr S fr) λ_=>0) H2' ys vs/\zV C B H (SW C.W (Sl B S P) H) Q (Tq mg mc me (xs.drop (i+1)) U' ys),λσ2 H2' h=>⟨xs.length-(i+1),by omega,rfl,h.1,h.2⟩,λv H'' hy=>?_⟩;obtain⟨sy,ry⟩:=yl v H'' hy;have Ry:=R'.keep sy;have rx:=ry (Sl (Χ B S P H1 acc) (Tr S fr) λ_=>0) λa m hn=>⟨⟨.inl m,λz=>hn ((show a=acc from z)▸ha)⟩,λj hj=>(sr hj rfl).elim⟩;rw[a1p hlt]at q';unfold Tq at q';cases hgx:mg xs[i] U' with
   |none=>rw[hgx]at q';exact q'.elim
   |some ρ1=>
    rw[hgx]at q';refine hg _ _ H'' Y' U' _ v Ry rx _ ⟨ρ1,hgx,λσ1 R1'=>ht _ _ H'' σ1 ρ1 R1' _ ?_⟩;have q':zV C B H (SW C.W (Sl B S P) H) Q ((Ϻ (mc ρ1)).bind λt=>if t=true then(Ϻ (me ρ1)).bind λy=>if ys.length<sizeLine then Tq mg mc me (xs.drop (i+1)) ρ1 (ys++[y])else .wall else Tq mg mc me (xs.drop (i+1)) ρ1 ys):=q';revert q';cases mc ρ1 with
    |exc c fs=>exact λq'=>q'.elim
    |wall=>exact id
    |ok t=>
     intro q' H5 s5;have R5:=R1'.keep s5;have hacc5:=s5 _ _ (sy _ _ hacc);have rys5:=(rys.same sy).same s5;cases t with
     |false=>exact BM ⟨hlt,ρ1,ys,vs,R5,hacc5,rys5,q'⟩
     |true=>
      refine BO (he _ _ H5 σ1 ρ1 R5 _ ?_);have q':zV C B H (SW C.W (Sl B S P) H) Q ((Ϻ (me ρ1)).bind λy=>if ys.length<sizeLine then Tq mg mc me (xs.drop (i+1)) ρ1 (ys++[y])else .wall):=q';revert q';cases me ρ1 with
      |exc c fs=>exact λq'=>q'.elim
      |wall=>exact id
      |ok y=>
       intro q' v6 H6 s6 r6;have q':zV C B H (SW C.W (Sl B S P) H) Q (if ys.length<sizeLine then Tq mg mc me (xs.drop (i+1)) ρ1 (ys++[y])else .wall):=q';split at q'
       .rename_i hz;have R6:=R5.keep s6;have fr6:Fr (Sl (Χ B S P H1 acc) (Tr S fr) λ_=>0) H6 (upd H6 acc (.lst (vs++[v6]))):=λa o h m=>by
         have:a≠acc:=λz=>by
          rcases m with m|m
          .exact m.1.2 z
          .rw[z,s6 _ _ hacc5]at h;cases h;exact m
         rw[zl this];exact h
        exact⟨vs,s6 _ _ hacc5,by rw[rys5.len];exact hz,hlt,ρ1,ys++[y],vs++[v6],R6.wrx (show(Χ B S P H1 acc).xc acc from rfl) (by exact id),zh,((rys5.same s6).append (.cons r6.rep .nil)).gen fr6 λ_ m _=>m,q'⟩
       .exact q'.elim
  .have e:i=xs.length:=by omega
   subst e;rw[a2l]at q';exact .inl ⟨io'.2,q' _ H' (s1.trans R'.same) ⟨acc,rfl,zH.none s1 ha,vs,hacc,rys.sub λa m _=>sM a m⟩⟩
def Ab{wi:TI}{g:TG}{tc:TT}{te:TE}{fr:Pf}{Si:OS}{W:RC}(hi:LI C S true wi mi)(hW:W=C.W)(hS:Si=Tr S fr)(hg:LG ⟨W,E0,false⟩ Si Si g mg)(ht:LT ⟨W,E0,false⟩ Si tc mc)(he:LE ⟨W,E0,false⟩ Si false te me):ϝ C S (tLC wi g tc te fr) (SO mi fr mg mc me):=λB P H Y U R Q q=>DY (hi B P H Y U R) hW hS hg ht he R Q q
abbrev CI:=List Addr×List (Addr×Obj)×Shared×Hp×Addr
abbrev ψ(X:Cx)(scope:Scope)(N:OP)(z:CI):Cx:=qO X scope N z.1 z.2.1 z.2.2.1 z.2.2.2.1 z.2.2.2.2
def n6(N:OP)(fr:Pf)(Si:OS)(hc:X.calm=true)(hok:pX X scope N fr=true)(hi:IM X C S true tg jD mi)(hg:∀z:CI,GM (ψ X scope N z) ⟨C.W,E0,false⟩ Si Si tg mg)(ht:∀z:CI,ϴ (ψ X scope N z) ⟨C.W,E0,false⟩ Si ifs mc)(he:∀z:CI,EM (ψ X scope N z) ⟨C.W,E0,false⟩ Si false elt me)(hS:Si=Tr S fr:=by rfl)(hs:∀x,foldedSetIterable jD X.env x=pure x:=by intro _;rfl):FM X C S (.ListComp elt [⟨tg,jD,ifs,0⟩] scope pos) (SO mi fr mg mc me):=λhK=>by
 obtain⟨wi,a1,a2⟩:=hi hK;obtain⟨g,b1,b2⟩:=cU hg λ_=>hK;obtain⟨tc,c1,c2⟩:=cT ht λ_=>hK;obtain⟨te,d1,d2⟩:=cS he λ_=>hK;exact⟨_,Ml N fr hc hok a1 (λfp pn s H L=>b1 ⟨fp,pn,s,H,L⟩) (λfp pn s H L=>c1 ⟨fp,pn,s,H,L⟩) (λfp pn s H L=>d1 ⟨fp,pn,s,H,L⟩) hs,Ab a2 rfl hS b2 c2 d2⟩
variable {y:Str}{ny py:Pos}
end
def ZH(fr:Bool)(n:Nat)(ms:MS)(xs:Pe):Out PV:=match ms (xs.map some++List.replicate (n-xs.length) none)with
 |.ok (.nx _)=>if fr=true then .wall else .ok .n
 |.ok (.rt x)=>.ok x
 |.ok (.bk _)=>.wall
 |.ok (.ct _)=>.wall
 |.exc c fs=>.exc c fs
 |.wall=>.wall
def KW(ws:OW)(n:Nat):List Nat:=ws.map (λw=>if w=true then 1 else 0)++List.replicate (n-ws.length) 0
def fj{ws:OW}{n k:Nat}:(KW ws n)[k]?≠some 2:=by
 unfold KW;rw[a1O];split
 .rw[S7];intro h;obtain⟨w,_,e⟩:=v4.mp h;split at e<;>cases e
 .rw[a0M];intro h;split at h<;>cases h
def jG.get{W:RC}{M:OU}{H:Hp}:∀{ws:OW}{xs:Pe}{vs:Pa}{k:Nat}{x:PV},jG W M H ws xs vs->xs[k]?=some x->∃v w,vs[k]?=some v/\ws[k]?=some w/\yZ W (if w=true then λ_=>True else M) M H x v
 |[],_,_,_,_,⟨e1,e2⟩,h=>by subst e1;simp at h
 |w::ws,_,_,0,x,⟨y,v,xr,vr,e1,e2,h1,h2⟩,h=>by subst e1;subst e2;simp at h;subst h;exact⟨v,w,rfl,rfl,h1⟩
 |w::ws,_,_,k+1,x,⟨y,v,xr,vr,e1,e2,h1,h2⟩,h=>by subst e1;subst e2;simp only[List.getElem?_cons_succ]at h ⊢;exact jG.get h2 h
def fk{xs:Pe}{n k:Nat}{x:PV}(h:(xs.map some++List.replicate (n-xs.length) none)[k]?=some (some x)):xs[k]?=some x:=by
 rw[a1O]at h;split at h
 .rw[S7]at h;obtain⟨y,hy,e⟩:=v4.mp h;cases e;exact hy
 .rw[a0M]at h;split at h<;>cases h
def uZ(H:Hp)(M:OU):Bs:=⟨H,M,λa=>H a≠none,λ_ h=>h,none,λ_=>False⟩
def sv(h:jG W M H ws xs vs)(hn:ws.length<=N.length):Rel W (uZ H M) (KW ws N.length) (λ_=>0) H (start N vs) (xs.map some++List.replicate (N.length-xs.length) none):=by
 have n2:∀{k:Nat},(KW ws N.length)[k]?=some 2->False:=λ{k} h=>fj h;have sM:∀a,M a->H a≠none->Sl (uZ H M) (KW ws N.length) (λ_=>0) a:=λa m _=>⟨⟨.inl m,id⟩,λi hi=>(n2 hi).elim⟩;obtain⟨l1,l2⟩:=h.len;refine⟨zH.refl _,?_,λk x e=>?_,λi hi=>(n2 hi).elim,λi j hi=>(n2 hi).elim,λhi=>(n2 hi).elim,λa h=>h.elim,λi hi=>(n2 hi).elim⟩
 .unfold start;rw[O1,O1,u8,u8,a0S,a0S,l1,l2]
 .obtain⟨v,w,hv,hw,r⟩:=h.get (fk e);have hk:k<vs.length:=(P8.mp hv).1;have hS:(KW ws N.length)[k]?=some (if w=true then 1 else 0):=by unfold KW;rw[T9 (by rw[u8,<- l1];exact hk),S7,hw];rfl
  refine⟨v,?_,λz=>(n2 z).elim,λz=>?_,λ_ z=>?_⟩
  .unfold L2.start;rw[T9 (by rw[u8];exact hk),S7,hv];rfl
  .rw[hS]at z;refine yZ.sub r (λa _ n=>n) sM
  .rw[hS]at z;cases w with
   |true=>exact absurd rfl z
   |false=>exact(yZ.iff.mp r).sub sM
section
variable {P:Pg}{w:Pk}{K:Pw}{mg:OQ}{base:Heap}
def zJ{x qual:Str}{st:PB}{f:Addr}{fd:Pl}{N ps:OP}{k n:Nat}{W:RC}{fr:Bool}{ws:OW}{ms:MS}{S' Sb Sc:OS}(F:SA K x qual st f fd)(S:zy N ps (zk st))(hW:K=W.K)(hl:ws.length=ps.length)(hN:N.length=n)(hn:ws.length<=n)(h:∀(cdv:Value)(A:Po)(outer:List Env)(s:OV)(H:Hp)(E:XK),vf k (A.deeper (envOfC qual (zk st) s.heap.objs.size f cdv))->ώ (δ (nN (Sj P w) P w K mg base N qual (zk st) f cdv A outer s H E) E) ⟨W,E,fr⟩ (KW ws n) S' Sb Sc (ZX st) ms):
  yW P w K mg base (Sj P w) (k+1) f fd ps (Sw W fr ws (ZH fr n ms)):=by
 subst hN;refine F.okX S (DN hl) λcdv A outer s H vs Q E hr ⟨M,xs,ha,q⟩=>?_;obtain⟨ts,t1,t2⟩:=h cdv A outer s H E hr hW;refine⟨ts,t1,t2 (uZ H M) _ H _ _ (sv ha hn) _ ?_⟩;unfold ZH at q;revert q;cases ms (xs.map some++List.replicate (N.length-xs.length) none)with
 |exc c fs=>exact λq e dx es H2 s h1 h2 h3=>q e dx es H2 s h1 h2 h3
 |wall=>exact id
 |ok fl=>
  cases fl with
  |nx U'=>
   intro q P' H' Y' R';cases fr with
   |true=>exact q.elim
   |false=>exact q .non H' R'.same rfl
  |rt y=>exact λq v H' s r=>q v H' s r
  |bk U'=>exact λq=>q.elim
  |ct U'=>exact λq=>q.elim
def Mv(c:Nat)(n:Nat)(ms:MS)(xs:Pe):Out PV:=match ms (some (.o c [])::(xs.map some++List.replicate (n-xs.length) none))with
 |.ok (.nx U)=>match U[0]? with
  |some (some x)=>.ok x
  |_=>.wall
 |.ok (.rt _)=>.wall
 |.ok (.bk _)=>.wall
 |.ok (.ct _)=>.wall
 |.exc c fs=>.exc c fs
 |.wall=>.wall
def bsI(H:Hp)(M:OU)(x:Addr):Bs:=⟨erase H x,M,λa=>erase H x a≠none,λ_ h=>h,some x,λ_=>False⟩
def Q5:zH (erase H x) H:=λa o h=>by
 unfold erase at h;split at h
 .cases h
 .exact h
def n8(h:jG W M (erase H x) ws xs vs)(hx:H x=some (.ins (W.cls c) dx []))(hN:N.length=n+1)(hn:ws.length<=n):
  Rel W (bsI H M x) (2::KW ws n) (λ_=>x) H (start N (.ref x::vs)) (some (.o c [])::(xs.map some++List.replicate (n-xs.length) none)):=by
 have e0:erase H x x=none:=by unfold erase;rw[if_pos rfl]
 have n2:∀{k:Nat},(2::KW ws n)[k]?=some 2->k=0:=λ{k} h=>by
  cases k with
  |zero=>rfl
  |succ k=>rw[S4]at h;exact(fj h).elim
 have sM:∀a,M a->erase H x a≠none->Sl (bsI H M x) (2::KW ws n) (λ_=>x) a:=λa m z=>⟨⟨.inl m,id⟩,λi hi q=>z (q▸e0)⟩;obtain⟨l1,l2⟩:=h.len;refine⟨Q5,?_,λk y e=>?_,λi hi=>⟨e0,_,hx,id⟩,λi j hi hj _=>(n2 hi).trans (n2 hj).symm,λhi p hp=>(ν hp),λa h=>h.elim,λi hi=>id⟩
 .unfold L2.start;simp only[List.length_cons,List.length_append,List.length_map,List.length_replicate,l1,l2,hN];omega
 .cases k with
  |zero=>cases e;exact⟨.ref x,rfl,λ_=>⟨rfl,dx,[],hx,rfl⟩,(λz=>by cases z),λz=>absurd rfl z⟩
  |succ k=>
   rw[S4]at e;obtain⟨v,w,hv,hw,r⟩:=h.get (fk e);have hk:k<vs.length:=(P8.mp hv).1;have hS:(2::KW ws n)[k+1]?=some (if w=true then 1 else 0):=by rw[S4];unfold KW;rw[T9 (by rw[u8,<- l1];exact hk),S7,hw];rfl
   have r2:yZ W (if w=true then λ_=>True else M) M H y v:=yZ.same r Q5;refine⟨v,?_,(λz=>by cases(n2 z)),λz=>?_,λ_ z=>?_⟩
   .unfold L2.start;rw[O6,List.cons_append,S4,T9 (by rw[u8];exact hk),S7,hv];rfl
   .exact yZ.same (yZ.sub r (λa _ n=>n) sM) Q5
   .rw[hS]at z;cases w with
    |true=>exact absurd rfl z
    |false=>exact Rep.same ((yZ.iff.mp r).sub sM) Q5
def sx{x qual:Str}{st:PB}{f:Addr}{fd:Pl}{N ps:OP}{k n c:Nat}{W:RC}{ws:OW}{ms:MS}{S' Sb Sc:OS}(F:SA K x qual st f fd)(S:zy N ps (zk st))(hW:K=W.K)(hl:ws.length+1=ps.length)(hN:N.length=n+1)(hn:ws.length<=n)(h2:S'[0]?=some 2)(h:∀(cdv:Value)(A:Po)(outer:List Env)(s:OV)(H:Hp)(E:XK),vf k (A.deeper (envOfC qual (zk st) s.heap.objs.size f cdv))->ώ (δ (nN (Sj P w) P w K mg base N qual (zk st) f cdv A outer s H E) E) ⟨W,E,false⟩ (2::KW ws n) S' Sb Sc (ZX st) ms):
  yW P w K mg base (Sj P w) (k+1) f fd ps (Lh W c ws (Mv c n ms)):=by
 refine F.okX S (xV hl) λcdv A outer s H vs Q E hr ⟨M,x,dx,xs,avs,e,hx,ha,q⟩=>?_;subst e;obtain⟨ts,t1,t2⟩:=h cdv A outer s H E hr hW;refine⟨ts,t1,t2 (bsI H M x) _ H _ _ (n8 ha hx hN hn) _ ?_⟩;unfold Mv at q;revert q;cases ms (some (.o c [])::(xs.map some++List.replicate (n-xs.length) none))with
 |exc c fs=>exact λq e dx es H2 s h1 h2 h3=>q e dx es H2 s h1 h2 h3
 |wall=>exact id
 |ok fl=>
  cases fl with
  |nx U'=>
   intro q P' H' Y' R';have q:NG W M H x Q E (match U'[0]? with|some (some x)=>.ok x|_=>.wall):=q;split at q
   .rename_i y hy;obtain⟨_,ra,_⟩:=R'.at2 h2 hy;have e:=R'.pin h2 x rfl;rw[e]at ra;exact q H' R'.same (ra.gen rfl Fr.refl λa m _=>⟨m.1.1,λz=>m.2 0 h2 (e.trans z.symm)⟩)
   .exact q.elim
  |rt y=>exact λq=>q.elim
  |bk U'=>exact λq=>q.elim
  |ct U'=>exact λq=>q.elim
end
def sA(C:Addr)(fs:OP):Sp:=λvs H Q _=>∃e us,vs=.ref e::us/\us.length=fs.length/\H e=some (XO e C none .none)/\∀dx,H dx=none->Q .non (upd (upd H dx (XD dx (fs.zip us))) e (XO e C (some dx) .none))
def vz(c:Nat)(fns:OP)(ms:MA):MS:=λU=>(ms U).bind λxs=>if xs.length=fns.length/\xs.length<=1000 then .exc c (fns.zip xs)else .wall
def vg.zip{W:RC}{M:OU}{H:Hp}:∀{fns:OP}{xs:Pe}{vs:Pa},yq W M H xs vs->xs.length=fns.length->vg W M H (fns.zip xs) (fns.zip vs)
 |[],[],_,h,_=>by cases(show _=_ from h);rfl
 |f::fns,x::xs,_,h,e=>by obtain⟨v,r,rfl,h1,h2⟩:=h;exact⟨v,_,rfl,h1,vg.zip h2 (by simpa using e)⟩
 |[],_::_,_,_,e=>by cases e
 |_::_,[],_,_,e=>by cases e
def qG(hh:X.calm=true)(M:SY X.K (C.W.cls c) f)(xc:YY X.K (C.W.cls c))(F:yW X.prog X.w X.K X.mg X.base (Sj X.prog X.w) k f fd ps (sA (C.W.cls c) fns))(hr:vf (k+1) X.A)(hg:Gl X x)(hm:X.mg x=some (.ref (C.W.cls c)))(hb:Binds X.K fd ps [])(ha:AM (δ X C.E) C S ws (e::es) ms)(hw:ws.all (!·)=true:=by rfl)(hdb:Rn x:=by decide)(he:starEach (e::es) X.env=(false,eval e X.env)::starEach es X.env:=by rfl)(hpl:(backTo Y1 (starEach es X.env)).any (·.1)=false:=by rfl):
  SM (δ X C.E) C S S' Sb Sc (.Raise (some (.Call (.Name x p) (e::es) [] Y1)) none pos) (vz c fns ms):=λhK=>by
 obtain⟨ta,a1,a2⟩:=ha hK;refine⟨_,xE hh (xD (X:=δ X C.E) M F hr hg hm hb zD a1 hdb he hpl),λB P H Y U R D q=>?_⟩;show ta Y H _;refine a2 B P H Y U R _ ?_;unfold vz at q;revert q;cases ms U with
 |exc c fs=>exact id
 |wall=>exact id
 |ok xs=>
  intro q vs H1 s1 r1;have rs:=r1.La hw;have q:ZF C B S' Sb Sc D (if xs.length=fns.length/\xs.length<=1000 then .exc c (fns.zip xs)else .wall):=q;split at q
  .rename_i hz;refine⟨by rw[rs.len];exact hz.2,λy hy=>⟨y,vs,rfl,by rw[rs.len];exact hz.1,zh,λdx hdx=>⟨rfl,y,_,dx,rfl,hK▸xc,zh,?_⟩⟩⟩;have ne:dx≠y:=λz=>by rw[z,zh]at hdx;cases hdx
   rw[zl ne]at hdx;rw[vw];have sm:zH H1 (upd (upd (upd H1 y (XO y (C.W.cls c) none .none)) dx (XD dx (fns.zip vs))) y (XC y (C.W.cls c) dx)):=λb q hb=>by rw[zl (zQ hb hy),zl (zQ hb hdx),zl (zQ hb hy)];exact hb
   exact q y dx (fns.zip vs) _ (R.same.trans (s1.trans sm)) zh (by rw[zl ne,zh]) ((vg.zip rs hz.1).gen sm.fr λa m _=>m.1.1)
  .exact q.elim
def kJ{S:OS}{i:Nat}:∀j:Nat,(S.set i 0)[j]?=some 2->S[j]?=some 2:=λ_ h=>(wo (c:=0) h).1
section
variable {X:Cx}{C:LC}{S:OS}{e a b:Pc}{w w1 w2:Bool}{m m1 m2:ME}{pos:Pos}
def sC:ME:=λ_=>.ok (.d [])
def iE:FM X C S (.Dict [] [] pos) sC:=λhK=>⟨_,xt,λB P H Y U R Q q=>λp hp=>q _ _ (zH.upd hp) (DL (xs:=[]) (vs:=[]) rfl hp)⟩
end
section
variable {α β:Type}
def j3{a:α}{f:α->Out β}:(Out.ok a).bind f=f a:=rfl
def ZI(h1:-(2 ^ 64)<a)(h2:a<2 ^ 64):qS (.i a) (.i b)=.ok (.i (a*b)):=by show(if BB a b\/_ then _ else _)=_;rw[if_pos (.inl (.inl ⟨h1,h2⟩))]
def B4(h1:0<b)(h2:b<1073741824):nY (.i a) (.i b)=.ok (.i (a / b)):=by show(if Ft a b then _ else _)=_;rw[if_pos ⟨h1,h2⟩]
def fm(h1:0<b):KP (.i a) (.i b)=.ok (.i (a % b)):=by show(if 0<b then _ else _)=_;rw[if_pos h1]
def DZ:Sg (.l xs) (.i a)=ZS (SV xs a):=rfl
def Ur{a:α}:ZS (some a)=.ok a:=rfl
def G8(h:z.length<=sizeLine):jC [.s z]=.ok (.i z.length):=by show(if _ then _ else _)=_;rw[if_pos h]
def Mw{xs:List α}{x:α}:SV (x::xs) 0=some x:=by unfold SV ixN;rw[if_pos (Γ _),if_pos (by simp)];rfl
def sD{xs:List α}(h:0<=k):SV xs k=xs[k.toNat]?:=by
 unfold SV ixN;rw[if_pos h];by_cases c:k<xs.length
 .rw[if_pos c];rfl
 .rw[if_neg c];symm;exact a18.mpr (by omega)
def Ac{xs:List α}:SV xs (-1)=xs.getLast?:=by
 unfold SV ixN;rw[if_neg (by decide)];cases xs with
 |nil=>rfl
 |cons x xs=>rw[if_pos (by simp only[List.length_cons];omega)];rw[List.getLast?_eq_getElem?];show(x::xs)[((-1:Int)+((xs.length+1:Nat):Int)).toNat]?=(x::xs)[xs.length+1-1]?;congr 1;omega
def sE(h:jY c b n U=o)(hw:o≠.wall):bS c b U=o:=by
 have mono:∀(n k:Nat)(U:So),jY c b n U≠.wall->jY c b (n+k) U=jY c b n U:=by
  intro n
  induction n with
  |zero=>intro k U h;exact absurd rfl h
  |succ n ih=>
   intro k U h;rw[show n+1+k=(n+k)+1 by omega];unfold jY at h ⊢;cases hc:c U with
   |exc c fs=>rfl
   |wall=>rfl
   |ok t=>
    rw[hc]at h;cases t with
    |false=>rfl
    |true=>
     simp only[j3,if_true]at h ⊢;cases hb:b U with
     |exc c fs=>rfl
     |wall=>rfl
     |ok f=>
      rw[hb]at h;cases f with
      |nx ρ2=>exact ih k ρ2 h
      |ct ρ2=>exact ih k ρ2 h
      |bk ρ2=>rfl
      |rt v=>rfl
 have ex:∃n,jY c b n U≠.wall:=⟨n,h▸hw⟩;unfold bS;rw[dif_pos ex];have hs:=T2 ex;generalize Classical.choose ex=n0 at hs;rcases Nat.le_total n n0 with g|g
 .obtain⟨k,rfl⟩:=Nat.le.dest g;rw[mono n k U (h▸hw)];exact h
 .obtain⟨k,rfl⟩:=Nat.le.dest g;rw[<- mono n0 k U hs];exact h
def fo:wj g b (x::xs) U=(ZS (g x U)).bind λρ1=>(b ρ1).bind λf=>match f with
  |.nx ρ2=>wj g b xs ρ2
  |.ct ρ2=>wj g b xs ρ2
  |.bk ρ2=>.ok (.nx ρ2)
  |.rt v=>.ok (.rt v):=rfl
def iF{α:Type}[BEq α][LawfulBEq α][DecidableEq α]{a b:α}:(a==b)=decide (a=b):=by
 by_cases h:a=b
 .subst h;simp
 .simp[h]
def sF:qE n (.i a) (.i b)=.ok (.b (xor n (decide (a=b)))):=by show Out.ok (PV.b (xor n (a==b)))=_;rw[iF]
def Mx:qE n (.s x) (.s y)=.ok (.b (xor n (decide (x=y)))):=by show Out.ok (PV.b (xor n (x==y)))=_;rw[iF]
def My:qE n (.t xs) (.t ys)=match uX (aN 7) xs ys with|some b=>.ok (.b (xor n b))|none=>.wall:=rfl
def B5:aN n (.s x) (.s y)=some (decide (x=y)):=by cases n<;>(show some (x==y)=_;rw[iF])
def zZ{fr:Bool}{n:Nat}{ms:MS}{xs:Pe}{x:PV}(h:ms (xs.map some++List.replicate (n-xs.length) none)=.ok (.rt x)):ZH fr n ms xs=.ok x:=by unfold ZH;rw[h]
def D0(h:s U=.ok (.nx U')):zX s t U=t U':=by unfold zX;rw[h];rfl
def Us(h:s U=.ok (.rt x)):zX s t U=.ok (.rt x):=by unfold zX;rw[h];rfl
def bT{k:Str}{v:PV}{r:Pj}:List.lookup k ((k,v)::r)=some v:=by simp[List.lookup]
def wW{k j:Str}{v:PV}{r:Pj}(h:(k==j)=false):List.lookup k ((j,v)::r)=List.lookup k r:=by simp[List.lookup,h]
def B6:List.lookup k ([]:List (Str×PV))=none:=rfl
def cV:uY [] k v=[(k,v)]:=rfl
def Ut(h:(j==k)=false):uY ((j,x)::r) k v=(j,x)::uY r k v:=by show(if j=k then _ else _)=_;rw[if_neg (by simpa using h)]
end
def B7{α:Type}{a:α}:Ϻ (.ok a)=.ok a:=rfl
def cW{α:Type}{g:MG}{c:MT}{e:ME}(it:α->PV)(keep:α->Bool)(out:α->PV)(J:So->Prop):∀(xs:List α)(U:So)(acc:Pe),J U->(∀x∈xs,∀U,J U->∃ρ1,g (it x) U=some ρ1/\J ρ1/\c ρ1=.ok (keep x)/\(keep x=true->e ρ1=.ok (out x)))->acc.length+xs.length<=100000->Tq g c e (xs.map it) U acc=.ok (.l (acc++(xs.filter keep).map out))
 |[],U,acc,_,_,_=>by simp[Tq]
 |x::xs,U,acc,hJ,h,hl=>by
  obtain⟨ρ1,h1,h2,h3,h4⟩:=h x O0 U hJ;rw[v0]at hl;rw[O6];unfold Tq;rw[h1,Ur,j3,h3,B7,j3];cases hk:keep x with
  |true=>rw[if_pos rfl,h4 hk,B7,j3,if_pos (P4 (show acc.length<100000 by omega) (by decide)),List.filter_cons_of_pos hk,O6];rw[cW it keep out J xs ρ1 (acc++[out x]) h2 (λz hz=>h z (O4 _ hz)) (by rw[O1];show acc.length+1+_<=_;omega),S0];rfl
  |false=>rw[if_neg P5,List.filter_cons_of_neg (by rw[hk];exact P5)];exact cW it keep out J xs ρ1 acc h2 (λz hz=>h z (O4 _ hz)) (by omega)
def Z3{α:Type}(it:α->PV)(out:α->PV)(J:So->Prop)(xs:List α)(U:So)(hJ:J U)(h:∀x∈xs,∀U,J U->∃ρ1,g (it x) U=some ρ1/\J ρ1/\e ρ1=.ok (out x))(hl:xs.length<=100000):Tq g oV e (xs.map it) U []=.ok (.l (xs.map out)):=by rw[cW (c:=oV) it (λ_=>true) out J xs U [] hJ (λx hx U hρ=>let⟨ρ1,a,b,c⟩:=h x hx U hρ;⟨ρ1,a,b,rfl,λ_=>c⟩) (by simpa using hl)];rw[List.filter_eq_self.mpr λ_ _=>rfl];rfl
end L2
namespace L2
open PySem
end L2
namespace L2
open PySem PySem.Spec PyProof.Rows PySem.W
section
variable {X:Cx}
def Uu:∀{xs:Pa}{us:OZ},xs.length=us.length->(∀(j:Nat) x u,xs[j]?=some x->us[j]?=some u->RelV x u)->Vals xs us
 |[],[],_,_=>.nil
 |x::xs,u::us,hl,h=>.cons (h 0 x u rfl rfl) (Uu (by simpa using hl) λj y v e1 e2=>h (j+1) y v (by simpa using e1) (by simpa using e2))
def Ad(I:Inv X Sa Y H s)(hs:s.heap.objs.size<=l)(hk:∀b o,s.heap.get? b=some o->h'.get? b=some o)(hl:h'.get? l=some { cls:=.type "list",dict:=none,data:=.seq acc c,slots:=#[] })(hz:ys.length<=sizeLine)(hy:ys.length=acc.size)(hv:∀(j:Nat) x u,ys[j]?=some x->acc[j]?=some u->RelV x u)(q:∀l,H l=none->Q (.ref l) (upd H l (.lst ys))):
  EP X Sa Y Q (.ref l) { s with heap:=h',toks:=tk }:=
 ⟨.ref l,_,I.laid (t':=tk) hk hs (show ql X.prog X.w _ h' _ (.lst ys)from⟨hz,acc.toList,c,Uu (by rw[a0O];exact hy) (λj x u e1 e2=>hv j x u e1 (by simpa using e2)),by rw[Array.toArray_toList];exact hl⟩),rfl,q _ (I.hok.fresh hs)⟩
end
section
variable {prog:Pg}{w:Pk}{A:Po}{E:OT}{s:OV}
end
section
variable {X:Cx}
end
section
variable {X:Cx}{C:LC}{S:OS}{e:Pc}{ws:OW}{ms:MA}{pos p pos' p':Pos}
end
def Oz{α β:Type}(o:Out α)(f:α->Out β):Out β:=match o with
 |.ok a=>f a
 |.exc _ _=>.wall
 |.wall=>.wall
def fq(g:Pd)(ms:MA):ME:=λU=>Oz (ms U) g
section
variable {X:Cx}{C:LC}{S S' S1 S2 Sb Sc:OS}{e:Pc}{es:OX}{ws:OW}{ms:MA}{pos p pos':Pos}{x y:Str}{k i j:Nat}{f:Addr}{fd:Pl}{ps:OP}{fr:Bool}{g:Pd}{m1 m2:MS}
end
section
variable {P:Pg}{w:Pk}{K:Pw}{mg:OQ}{base:Heap}
end
section
variable {X:Cx}{Sa:OR}{Y:St}{H:Hp}{s:OV}{a:Addr}{u u':HO}
end
def G9(h:KV es vs):∀{i:Nat}{k:Key}{v:V},es[i]?=some (k,v)->∃w,vs[i]?=some (k,w):=by
 induction h with
 |nil=>intro i k v e;simp at e
 |@cons p q _ _ hp _ ih=>
  intro i k v e;cases i with
  |zero=>simp at e;subst e;exact⟨q.2,by simp;exact a3h hp.1.symm rfl⟩
  |succ i=>simp at e ⊢;exact ih e
def sG(h:(yP P w).is k u=true):RelV (kV k) u:=by
 rw[nA]at h;rcases yO h with⟨i,t,rfl,rfl⟩|⟨x,t,rfl,rfl⟩
 .exact⟨t,rfl⟩
 .exact⟨t,rfl⟩
section
variable {W:RC}{M:OU}{H H':Hp}{a:Addr}{es:Pb}
end
section
variable {W:RC}{B:Bs}{S S':OS}{P P':O_}{H H':Hp}{Y Y':St}{U U':So}{a:Addr}{es:Pb}{u u':HO}
end
def kP:Key->PV
 |.inl i=>.i i
 |.inr x=>.s x
def G_{W:RC}{M:OU}{H:Hp}:∀k:Key,Rep W M H (kP k) (kV k)
 |.inl _=>rfl
 |.inr _=>rfl
section
variable {X:Cx}{W:RC}{E:XK}{fr:Bool}{S S1 Sb Sc:OS}{tg jD:Pc}{body:Pt}{mg:MG}{mb:MS}{pos:Pos}{i:Nat}
end
section
variable {X:Cx}{C:LC}{S:OS}{jD tg elt:Pc}{ifs:OX}{me:ME}{mc:MT}{mg:MG}{pos:Pos}{i:Nat}{scope:Scope}
end
def Ha:List V->Hp->VK->Prop:=λvs H Q=>∃(p:Addr)(es:Pb),vs=[.ref p]/\Rd H p (.dK es)/\∀l,H l=none->Q (.ref l) (upd H l (.dK es))
def n_:ZV X (.type "dict") Ha:=by intro Sa s Y H xs us Q I r h;obtain⟨p,es,rfl,hS,q⟩:=h;obtain⟨u,rfl,ru⟩:=vals1 r;cases ru;exact xy I hS λl s' hl I'=>⟨.ref l,_,I',rfl,q l hl⟩
section
variable {X:Cx}{C:LC}{S Sb Sc:OS}{o e a:Pc}{es:OX}{w w1 w2:Bool}{ws:OW}{m m1 m2:ME}{ms:MA}{pos p Y1 jW:Pos}{i:Nat}
end
section
variable {X:Cx}{Sa:OR}{Y:St}{H:Hp}{s:OV}{W:RC}
end
section
variable {X:Cx}{C:LC}{S:OS}{e a b:Pc}{es:OX}{w:Bool}{m m1 m2:ME}{ms:MA}{pos:Pos}
end
section
variable {X:Cx}{elt jD tg:Pc}{ifs:OX}{scope:Scope}{pos ny py:Pos}{N:OP}{fr:Pf}{g:TG}{tc:TT}{te:TEx}{wi:TI}{y:Str}{i:Nat}
end
section
variable {X:Cx}{C:LC}{S Si:OS}{e jD tg elt:Pc}{es ifs:OX}{w:Bool}{ws:OW}{m me:ME}{ms:MA}{mc:MT}{mg:MG}{mi:MI}{pos p:Pos}{x:Str}{scope:Scope}{k:Nat}{f:Addr}{fd:Pl}{ps:OP}{fr':Bool}{g:Pd}
end
end L2
namespace L2
open PySem
def Mz{α:Type}{P:List α->Prop}{us:List α}(hl:us.length=1)(h:∀a,P [a]):P us:=by rcases us with _|⟨a,_|⟨b,us⟩⟩<;>first|exact h _|cases hl
def MB{α:Type}{P:List α->Prop}{us:List α}(hl:us.length=2)(h:∀a b,P [a,b]):P us:=by rcases us with _|⟨a,_|⟨b,_|⟨c,us⟩⟩⟩<;>first|exact h _ _|cases hl
def MC{α:Type}{P:List α->Prop}{us:List α}(hl:us.length=3)(h:∀a b c,P [a,b,c]):P us:=by rcases us with _|⟨a,_|⟨b,_|⟨c,_|⟨d,us⟩⟩⟩⟩<;>first|exact h _ _ _|cases hl
def MD{α:Type}{P:List α->Prop}{us:List α}(hl:us.length=4)(h:∀a b c d,P [a,b,c,d]):P us:=by rcases us with _|⟨a,_|⟨b,_|⟨c,_|⟨d,_|⟨e,us⟩⟩⟩⟩⟩<;>first|exact h _ _ _ _|cases hl
def MF{α:Type}{P:List α->Prop}{us:List α}(hl:us.length=5)(h:∀a b c d e,P [a,b,c,d,e]):P us:=by rcases us with _|⟨a,_|⟨b,_|⟨c,_|⟨d,_|⟨e,_|⟨f,us⟩⟩⟩⟩⟩⟩<;>first|exact h _ _ _ _ _|cases hl
def ft(z:Sj P w outer H s (λ_ _ _=>False) v s'):False:=by obtain⟨_,_,_,_,_,_,_,_,_,_,_,_,_,_,_,_,_,_,q⟩:=z;exact q
def SE{α β:Type}{a:α}{f:α->Out β}:(Out.ok a).bind f=f a:=Eq.trans (Eq.refl _) (Eq.refl _)
section
variable {α β Y:Type}{g:MG}{b:MS}{c:MT}{e:ME}{U U':So}{s t:MS}{m:ME}{x:PV}{mi:MI}{o:Out Fw}{i:Nat}
def zd(h:∃U',s U=.ok (.nx U')/\t U'=o):zX s t U=o:=let⟨_,a,b⟩:=h;(D0 a).trans b
def aQ{fr:Pf}{xs:Pe}(h:mi U=.ok xs)(h2:Tq g c e xs (aP U fr) []=.ok x):SO mi fr g c e U=.ok x:=by unfold SO;rw[h,j3,h2]
def yy(h:m U=.ok x):qb i m U=.ok (.nx (U.set i (some x))):=by unfold qb;rw[h,j3]
def yE(h:mi U=.ok xs)(h2:wj g b xs U=o):KC mi g b U=o:=by unfold KC;rw[h,j3,h2]
def Ae{n:Nat}(h:n<=1000000):so [.i (n:Int)]=.ok (d8 0 n):=by unfold so;exact(if_pos ⟨by omega,by omega⟩).trans (by rw[a0U])
def fu(h:ms U=.ok [.i (n:Int)])(hn:n<=1000000):YZ ms U=.ok (d8 0 n):=by unfold YZ;rw[h,j3,Ae hn]
def Uv(h:ms U=.ok [.i n])(h0:0<=n)(hn:n<=1000000):YZ ms U=.ok (d8 0 n.toNat):=fu (n:=n.toNat) (by rw[h];congr 3;omega) (by omega)
def zK(h:m U=.ok (.l xs)):zN m U=.ok xs:=by unfold zN;rw[h,j3];rfl
def KY:d8 0 n=(List.range n).map λk=>PV.i ((k:Nat):Int):=by unfold d8;exact a03 λk _=>by congr 1;omega
def l_(it:α->PV)(J:Nat->So->Prop):∀(xs:List α)(j:Nat)(U:So),J j U->(∀(k:Nat)(h:k<xs.length)(U:So),J (j+k) U->∃ρ1,g (it xs[k]) U=some ρ1/\∃ρ2,J (j+k+1) ρ2/\(b ρ1=.ok (.nx ρ2)\/b ρ1=.ok (.ct ρ2)))->∃U',J (j+xs.length) U'/\wj g b (xs.map it) U=.ok (.nx U')
 |[],j,U,h,_=>⟨U,h,rfl⟩
 |x::xs,j,U,h,hs=>by
  obtain⟨ρ1,h1,ρ2,h2,h3⟩:=hs 0 (Nat.zero_lt_succ _) U h;obtain⟨ρ3,h4,h5⟩:=l_ it J xs (j+1) ρ2 h2 λk hk U hρ=>by have:=hs (k+1) (a2m hk) U (by rw[show j+(k+1)=j+1+k by omega];exact hρ);rw[show j+(k+1)+1=j+1+k+1 by omega]at this;exact this
  refine⟨ρ3,by rw[v0,show j+(xs.length+1)=j+1+xs.length by omega];exact h4,?_⟩;rw[O6,fo,show g (it x) U=some ρ1 from h1,Ur,j3];rcases h3 with h3|h3<;>(rw[h3,j3];exact h5)
def Z4(it:α->PV)(J:Nat->So->Prop)(xs:List α)(U:So)(h:J 0 U)(hs:∀(k:Nat)(h:k<xs.length)(U:So),J k U->∃ρ1,g (it xs[k]) U=some ρ1/\∃ρ2,J (k+1) ρ2/\(b ρ1=.ok (.nx ρ2)\/b ρ1=.ok (.ct ρ2))):∃U',J xs.length U'/\wj g b (xs.map it) U=.ok (.nx U'):=by
 have:=l_ (g:=g) (b:=b) it J xs 0 U h λk hk U hρ=>by have:=hs k hk U (by rwa [a3c]at hρ);rwa [a3c]
 rwa [a3c]at this
def XN(J:Nat->So->Prop)(n:Nat)(U:So)(h:J 0 U)(hs:∀(k:Nat),k<n->∀(U:So),J k U->∃ρ1,g (.i (k:Int)) U=some ρ1/\∃ρ2,J (k+1) ρ2/\(b ρ1=.ok (.nx ρ2)\/b ρ1=.ok (.ct ρ2))):∃U',J n U'/\wj g b (d8 0 n) U=.ok (.nx U'):=by
 have:=Z4 (g:=g) (b:=b) (λk:Nat=>PV.i (k:Int)) J (List.range n) U h λk hk U hρ=>by rw[a1Y];exact hs k (by rwa [ό]at hk) U hρ
 rwa [ό,<- KY]at this
end
end L2
namespace L2
open PySem PySem.Spec PyProof.Rows PySem.W
section
variable {prog:Pg}{w:Pk}{A:Po}{E:OT}{h:Heap}{g:Array GenState}{d:Drawn}{t:Nat}{os:OsState}{a:Addr}{Sf:PQ}{n:Nat}{sl:Py}
def fv:typeLookup (.type "list") "keys"=pure none:=by rw[a2B,a1E];kernel_rfl
def Uw:typeLookup (.type "list") "__getattr__"=pure none:=by rw[a2B,a1E];kernel_rfl
def sH:isSubtype (.type "AttributeError") (.type "AttributeError")=pure true:=by rw[isSubtype_type];kernel_rfl
def D2(he:h.get? e=some ⟨.type "AttributeError",none,.fields #[T,.none,.none,.none,.bool false,X,rawInt 0,rawInt 0],#[]⟩)(hQ:∀h',(∀b o,b≠e->h.get? b=some o->h'.get? b=some o)->(∃oe,h'.get? e=some oe/\oe.cls=.type "AttributeError")->Q () ⟨h',g,d,t,os⟩):
  wpAny (model prog w) A (noteAttr (.ref e) o name) Q E ⟨h,g,d,t,os⟩:=by
 have hT:(⟨h,g,d,t,os⟩:Shared).TypeIs (.ref e) "AttributeError":=⟨_,he,rfl⟩;unfold noteAttr lacksNameAndObj;refine f8 ?_;refine f8 (a1C (b:=true) hT sH ?_);rw[if_neg (by decide)];refine f8 (a2O he ?_);dsimp only;rw[if_neg (λz=>by cases(show false=true from z))];rw[if_neg (λz=>by cases(show false=true from z))];refine O5 ?_;rw[if_pos rfl];refine f8 (a2S ?_);refine f8 (ϥ (T:="AttributeError") hT ?_);dsimp only;unfold layMembers;refine f8 (a2O he ?_);dsimp only;refine wpAny_update he ?_;refine hQ _ (λb o hb e'=>(T1 _ _ (Ne.symm hb)).trans e') ⟨_,a0J _ he rfl,rfl⟩
def oa(hh:A.handled=none)(hx:h.get? a=some ⟨.type "list",none,.seq Sf n,sl⟩)(hE:∀h' tk e,(∀b o,h.get? b=some o->h'.get? b=some o)->(∃oe,h'.get? e=some oe/\oe.cls=.type "AttributeError")->E (.ref e) ⟨h',g,d,tk,os⟩):
  wpAny (model prog w) A (Builtin.«object.__getattribute__» ⟨[.ref a,.str "keys" tk],[]⟩) Q E ⟨h,g,d,t,os⟩:=by
 have hT:(⟨h,g,d,t,os⟩:Shared).TypeIs (.ref a) "list":=⟨_,hx,rfl⟩;have f4:=fv
 repeat(any_goals(first|assumption|wp_step))
 unfold raiseAttrError;refine f8 (wpAny_mkStr (f8 ?_) (by decide +kernel));unfold newExc newTuple;refine f8 (Ϙ ?_);refine f8 (m:=firstArgMember _ _) (a2I (a:=Value.none) (by simp only[firstArgMember];kernel_rfl) ?_);refine Ϙ ?_;refine f8 (a2h (f8 ?_));refine D2 (S5 _ rfl) λh' hk he=>?_;unfold raiseNew;refine f8 (wpAny_handled ?_);rw[hh]
 first
  |refine a3g ?_
  |refine f8 (O5 (a3g ?_))
 exact hE _ _ _ (λb o e=>hk b o (P6 (P4 (O7 e) (by simp))) (O3 _ (O3 _ e))) he
def sI(hh:A.handled=none)(hx:h.get? a=some ⟨.type "list",none,.seq Sf n,sl⟩)(hE:∀h' tk e,(∀b o,h.get? b=some o->h'.get? b=some o)->(∃oe,h'.get? e=some oe/\oe.cls=.type "AttributeError")->R (.error (.ref e)) ⟨h',g,d,tk,os⟩):
  codeAny (model prog w) A (.call (.builtin "list.__getattribute__") ⟨[.ref a,.str "keys" tk],[]⟩) R ⟨h,g,d,t,os⟩:=
 a1k F.slot_list_getattribute.plain F.entry_list_ga (F.slot_list_getattribute.check _ _ _ _ _ _ _ _ (show(⟨h,g,d,t,os⟩:Shared).TypeIs (.ref a) "list" from⟨_,hx,rfl⟩) (F.args_list_getattribute_2 _ _) (oa hh hx hE))
def D3(hh:A.handled=none)(hx:h.get? a=some ⟨.type "list",none,.seq Sf n,sl⟩)(hQ:∀h' tk,(∀b o,h.get? b=some o->h'.get? b=some o)->Q none ⟨h',g,d,tk,os⟩):
  wpAny (model prog w) A (getAttr? (.ref a) "keys") Q E ⟨h,g,d,t,os⟩:=by
 have hT:∀t,(⟨h,g,d,t,os⟩:Shared).TypeIs (.ref a) "list":=λt=>⟨_,hx,rfl⟩;have f2:=F.slot_list_getattribute.lookup;have f3:=F.slot_list_getattribute.bind (.ref a);unfold getAttr? getAttrBy?;refine f8 (a2h ?_);refine f8 (a1n ?_);unfold getAttrBy;refine ρ ?_;refine f8 (ϥ (T:="list") (hT _) ?_);refine f8 (a2I f2 ?_);dsimp only;rw[if_neg (λz=>by cases(show false=true from z))];unfold getAttrByItsOwn hookBefore;rw[if_neg (λz=>by cases(show false=true from z))];refine f8 (O5 ?_);refine f8 (a1n ?_);refine ρ ?_;unfold callGetattribute;rw[if_neg (λz=>by cases(show false=true from z))];unfold boundAndCalled;refine f8 (a2I f3 ?_);dsimp only;refine ύ (sI hh hx λh' tk e hk he=>?_);obtain⟨oe,he,hc⟩:=he;have hTe:(⟨h',g,d,tk,os⟩:Shared).TypeIs (.ref e) "AttributeError":=⟨_,he,hc⟩;dsimp only;unfold getattributeRaised;refine f8 (a1C (b:=true) hTe sH ?_);rw[if_pos rfl];unfold hookBehind;rw[if_neg (λz=>by cases(show false=true from z))];refine f8 (a2I Uw ?_);unfold hookOrError attributeErrorLeaves;dsimp only;rw[if_pos (show(!false)=true from rfl)];refine f8 (a3g ?_);refine f8 (a1C (b:=true) hTe sH ?_);rw[if_pos rfl];exact O5 (hQ h' tk hk)
end
def Jf:entryFor table "dict.update.loop"=some Builtin.«dict.update.loop»:=entryFor_of_tree (by kernel_rfl)
def kj:plainId "dict.update.loop"=true:=by decide +kernel
section
variable {prog:Pg}{w:Pk}{A:Po}{R:Result->Shared->Prop}{I:Addr}{fp wr:PD}{G:Array GenState->Array GenState->Prop}{n:Nat}{P:Nat->Value->Prop}{St:Nat->Shared->Prop}{K:Type}[DecidableEq K] {knd:KeyKind prog w K}
def TupAt(h:Heap)(a:Addr)(k v:Value):Prop:=∃o m,h.get? a=some o/\o.cls=.type "tuple"/\o.data=.seq #[k,v] m
def u5(key:Nat->K)(val:Rf):Nat->List (K×Value)
 |0=>[]
 |i+1=>stored (u5 key val i) (key i) (val i)
def cX(key:Nat->K)(val:Rf):∀i,(u5 key val i).length<=i
 |0=>O2 _
 |i+1=>by
  have:=cX key val i;unfold u5 stored;split
  .rw[u8];omega
  .rw[O1];show _+1<=_;omega
def Af(W:WalksS prog w A.in1 I fp wr G n P St)(D:Addr)(hDf:D∉fp)(key:Nat->K)(kv val:Rf)(ad:O_)(hP:∀i v,P i v->v=.ref (ad i))(hk:∀i,i<n->knd.is (key i) (kv i)=true)(hw:∀i,i<n->ad i∉D::wr)(hn:n<=sizeLine):
  ∀(k i:Nat)(tk:Tok)(s:OV),n-i=k->i<=n->St i s->(∀j,j<n->TupAt s.heap (ad j) (kv j) (val j))->s.heap.DictOf knd D (u5 key val i)->
   (∀s',Moved (D::wr) G s s'->s'.heap.DictOf knd D (u5 key val n)->R (.ok (.ret .none)) s')->
   codeAny (model prog w) A (.builtin "dict.update.loop" ⟨[.ref D,.ref I,.int (i:Int) tk,.none],[]⟩) R s:=by
 have hDw:D∉wr:=λh=>hDf (W.sub _ h);have hsub:∀b∈wr,b∈D::wr:=λb hb=>O4 _ hb;have tmv:∀{s s':OV},Moved (D::wr) G s s'->(∀j,j<n->TupAt s.heap (ad j) (kv j) (val j))->∀j,j<n->TupAt s'.heap (ad j) (kv j) (val j):=λhm h j hj=>by obtain⟨o,m,h1,h2,h3⟩:=h j hj;exact⟨o,m,hm.heap _ _ (hw j hj) h1,h2,h3⟩
 intro k
 induction k with
 |zero=>
  intro i tk s hk' hi hst ht hD hR;have hin:i=n:=by omega
  subst hin;refine codeAny_builtin Jf ?_;rw[a2T kj _];show wpAny _ A.in1 (pyNext (.ref I) >>= _) _ _ s;refine f8 (W.done s _ _ hst λs' hm=>?_);dsimp only;refine f8 (m:=Builtin.Dict.addKeywords D []) ?_;refine O5 ?_;exact O5 (hR s' (hm.mono hsub) (by
   obtain⟨o,es,ep,ho,rest⟩:=hD;exact⟨o,es,ep,hm.heap D _ hDw ho,rest⟩))
 |succ k ih=>
  intro i tk s hk' hi hst ht hD hR;have hlt:i<n:=by omega
  refine codeAny_builtin Jf ?_;rw[a2T kj _];show wpAny _ A.in1 (pyNext (.ref I) >>= _) _ _ s;refine f8 (W.item i s _ _ hlt hst λv s' hPv hst' hm=>?_);cases hP i v hPv;have hm2:=hm.mono hsub;have ht':=tmv hm2 ht;obtain⟨o,m,h1,h2,h3⟩:=ht' i hlt;have hD':s'.heap.DictOf knd D (u5 key val i):=by obtain⟨o,es,ep,ho,rest⟩:=hD;exact⟨o,es,ep,hm.heap D _ hDw ho,rest⟩
  have hT:s'.TypeIs (.ref (ad i)) "tuple":=⟨o,h1,h2⟩;dsimp only;refine f8 (ρ (f8 (wpAny_tryCatch ?_)));unfold Builtin.Dict.pairItems;refine f8 (ϥ (T:="tuple") hT ?_);rw[if_pos (by decide)];unfold seqItems?;refine f8 (f8 (a2O h1 ?_));rw[h3];dsimp only;refine O5 (O5 ?_);show wpAny _ _ (holding [kv i,val i] (dictSet D (kv i) (val i))) _ _ _;refine ρ (wpAny_dictSet_pairs (hsz:=S6 (cX key val i) (S6 hi hn)) (hk i hlt) hD' λh' hD2 hsb=>?_);have e1:((i:Int)+1)=((i+1:Nat):Int):=by omega
  have hm3:Moved (D::wr) G s { s' with heap:=h',toks:=s'.toks+1 }:=hm2.then_heap (Δ _) λb o hb e=>by rw[hsb.2 b (λh:b=D=>hb (by rw[h];exact O0))];exact e
  refine O5 ⟨a2Y kj _,?_⟩;rw[show rawInt ((i:Int)+1)=Value.int ((i+1:Nat):Int) 0 by rw[e1];rfl];refine ih (i+1) 0 _ (by omega) hlt (W.frame _ s' _ _ hst' (Δ _) λb hb o e=>?_) (tmv hm3 ht) hD2 λs'' hm'' hD''=>hR s'' (Moved.trans W.gtrans hm3 hm'') hD'';rw[hsb.2 b (λh:b=D=>hDf (by rw[<- h];exact hb))];exact e
end
section
variable {prog:Pg}{w:Pk}{A:Po}{E:OT}{s:OV}{K:Type}[DecidableEq K] {knd:KeyKind prog w K}
def cY{l:Addr}{items:PQ}{m:Nat}{sl:Py}{Q:OT}{key:Nat->K}{kv val:Rf}{ad:O_}(hh:A.handled=none)(hl:s.heap.get? l=some ⟨.type "list",none,.seq items m,sl⟩)(hP:∀i,i<items.size->items[i]?=some (.ref (ad i)))(ht:∀i,i<items.size->TupAt s.heap (ad i) (kv i) (val i))(hk:∀i,i<items.size->knd.is (key i) (kv i)=true)(hn:items.size<=sizeLine)(h:∀h' tk,(∀b o,s.heap.get? b=some o->h'.get? b=some o)->h'.DictOf knd s.heap.objs.size (u5 key val items.size)->Q (.ref s.heap.objs.size) { s with heap:=h',toks:=tk }):
  wpAny (model prog w) A (call (.type "dict") [.ref l]) Q E s:=by
 refine callType_codes (Q₁:=λobj s₁=>obj=.ref s.heap.objs.size/\s₁={ s with heap:=s.heap.push { cls:=.type "dict",data:=.dict #[] } }) F.kt_called_dict (F.kt_typeCall_dict_1 _) F.entry_dict_init (kt_code_dict_new _ ⟨rfl,rfl⟩) ?_
 rintro obj s₁ ⟨rfl,rfl⟩
 have hnew:(s.heap.push { cls:=.type "dict",data:=.dict #[] }).DictOf knd s.heap.objs.size []:=Heap.DictOf.new s.heap;have hl':(s.heap.push { cls:=.type "dict",data:=.dict #[] }).get? l=some ⟨.type "list",none,.seq items m,sl⟩:=O3 _ hl;refine⟨hnew.typeIs,F.args_dict_init_2 _ _,?_⟩;unfold Builtin.«dict.__init__»;refine f8 ?_;unfold Builtin.Dict.selfAndRest;refine f8 (wpAny_notOrdered_dict hnew.typeIs ?_);show wpAny _ _ (pure (s.heap.objs.size,[Value.ref l])) _ _ _;refine O5 ?_;show wpAny _ _ (Builtin.Dict.updateFrom "dict.__init__" s.heap.objs.size (.ref l) [] .none) _ _ _;unfold Builtin.Dict.updateFrom;refine f8 (ϥ (T:="list") ⟨_,hl',rfl⟩ ?_);rw[if_pos (by decide)];refine f8 ?_;refine D3 hh hl' λh1 t1 k1=>?_;rw[if_pos (show(none:Option Value).isNone=true from rfl)];refine f8 (a2S ?_);have hl1:h1.get? l=some ⟨.type "list",none,.seq items m,sl⟩:=k1 _ _ hl';have hil:h1.IsList l items:=⟨_,hl1,rfl,m,rfl⟩;refine f8 (wpAny_pyIter_list hil ?_);have D1:h1.DictOf knd s.heap.objs.size []:=by obtain⟨o,es,ep,ho,rest⟩:=hnew;exact⟨o,es,ep,k1 _ _ ho,rest⟩
 have ls:l<s.heap.objs.size:=O7 hl;have l1:l<h1.objs.size:=O7 hl1;have ds:s.heap.objs.size<h1.objs.size:=by obtain⟨o,_,_,ho,_⟩:=D1;exact O7 ho
 have hne:l≠h1.objs.size:=P6 l1;have kp:∀b o,h1.get? b=some o->(h1.push { cls:=.type "list_iterator",data:=.fields #[.ref l,.int 0 0] }).get? b=some o:=λb o e=>O3 _ e;have tl:∀j,j<items.size->ad j<s.heap.objs.size:=λj hj=>by obtain⟨o,_,h1,_⟩:=ht j hj;exact O7 h1
 refine O5 ⟨a2Y kj _,Af (knd:=knd) (Walks.list (A:=A.in1.in1) hh h1.objs.size l hne items).toS s.heap.objs.size (by simp;exact⟨P6 ds,Ϧ ls⟩) key kv val ad (λi v hv=>?_) hk (λi hi=>?_) hn items.size 0 0 _ (by omega) (Tx _) ⟨⟨_,S5 _ rfl,rfl,rfl⟩,?_⟩ (λj hj=>?_) ?_ λs' hm hD=>?_⟩
 .have hi:i<items.size:=by
   by_cases c:i<items.size
   .exact c
   .rw[a2H (by omega)]at hv;cases hv
  rw[hP i hi]at hv;cases hv;rfl
 .have:=tl i hi;intro hm;rcases P9.mp hm with e|hm
  .exact P6 this e
  .exact P6 (a1N this ds) (R9.mp hm)
 .exact⟨_,kp _ _ hl1,rfl,m,rfl⟩
 .obtain⟨o,q,e1,e2,e3⟩:=ht j hj;exact⟨o,q,kp _ _ (k1 _ _ (O3 _ e1)),e2,e3⟩
 .obtain⟨o,es,ep,ho,rest⟩:=D1;exact⟨o,es,ep,kp _ _ ho,rest⟩
 .rw[Moved.eq_with hm];refine⟨rfl,h s'.heap s'.toks (λb o e=>hm.heap b o (λhmem=>?_) (kp _ _ (k1 _ _ (O3 _ e)))) hD⟩;have:=O7 e;rcases P9.mp hmem with e'|hm
  .exact P6 this e'
  .exact P6 (a1N this ds) (R9.mp hm)
end
section
variable {X:Cx}
def cZ(K:Pw)(H:Hp):List V->List (Key×V)->Prop
 |[],es=>es=[]
 |x::xs,es=>∃a k v r,x=.ref a/\es=(k,v)::r/\SN K H a [kV k,v]/\cZ K H xs r
def sJ(es:Pb):List (Key×V):=es.foldl (λacc kv=>putK acc kv.1 kv.2) []
def B8(K:Pw):List V->Hp->VK->Prop:=λvs H Q=>∃(p:Addr)(xs:Pa)(es:Pb),vs=[.ref p]/\Sq K H p xs/\cZ K H xs es/\∀l,H l=none->Q (.ref l) (upd H l (.dK (sJ es)))
def md{Sa:OR}{Y:St}{H:Hp}{s:OV}(I:Inv X Sa Y H s):∀{xs:Pa}{es:Pb}{Sf:OZ},cZ X.K H xs es->Vals xs Sf->∃ps:List (Addr×Value×Value),Sf=ps.map (λp=>Value.ref p.1)/\ps.length=es.length/\(∀p∈ps,TupAt s.heap p.1 p.2.1 p.2.2)/\∀(i:Nat) p e,ps[i]?=some p->es[i]?=some e->RelV (kV e.1) p.2.1/\RelV e.2 p.2.2
 |[],_,Sf,h,r=>by cases(show _=_ from h);cases r;exact⟨[],rfl,rfl,(λ_ h=>by cases h),λ_ _ _ h=>by cases h⟩
 |x::xs,_,Sf,h,r=>by
  obtain⟨a,k,v,es,rfl,rfl,ht,hr⟩:=h;cases r with
  |cons rx r=>
   cases rx;obtain⟨ps,e1,e2,e3,e4⟩:=md I hr r;obtain⟨us,ru,⟨o,h1,h2,m,h3⟩,_⟩:=I.tuple ht;obtain⟨u1,u2,rfl,r1,r2⟩:=vals2 ru;refine⟨(a,u1,u2)::ps,by rw[e1];rfl,by rw[v0,v0,e2],λp hp=>?_,λi p e hp he=>?_⟩
   .rcases P9.mp hp with rfl|hp
    .exact⟨o,m,h1,h2,h3⟩
    .exact e3 p hp
   .cases i with
    |zero=>rw[a1t]at hp he;cases hp;cases he;exact⟨r1,r2⟩
    |succ i=>rw[S4]at hp he;exact e4 i p e hp he
def sL{es:Pb}{key:Nat->Key}{val:Rf}:∀n,n<=es.length->(∀i e,i<n->es[i]?=some e->key i=e.1/\RelV e.2 (val i))->KV ((es.take n).foldl (λacc kv=>putK acc kv.1 kv.2) []) (u5 key val n)
 |0,_,_=>.nil
 |n+1,hn,h=>by have hlt:n<es.length:=hn;have hx:=P1 hlt;rw[List.take_succ,hx,List.foldl_append];obtain⟨e1,e2⟩:=h n _ (ϋ n) hx;show KV (putK _ _ _) (stored (u5 key val n) (key n) (val n));rw[e1];exact(sL n (a1I hlt) λi e hi he=>h i e (a1w hi) he).put _ e2
def og(hc:X.calm=true):ZV X (.type "dict") (B8 X.K):=by
 intro Sa s Y H xs us Q I r h;obtain⟨p,xs,es,rfl,hS,hp,q⟩:=h;obtain⟨u,rfl,ru⟩:=vals1 r;cases ru;obtain⟨Sf,rv,⟨o,m,h1,h2,h3,h4⟩,hz⟩:=I.list hS;obtain⟨ps,e1,e2,e3,e4⟩:=md I hp rv;have hlen:Sf.length=es.length:=by rw[e1,u8,e2]
 have hx:∀i,i<es.length->∃a,ps[i]?=some a/\es[i]?=some (es.getD i (.inl 0,.non))/\ps.getD i (0,.none,.none)=a:=λi hi=>by
  have hi2:i<ps.length:=by rw[e2];exact hi
  refine⟨ps[i],P1 hi2,by rw[a0F,P1 hi];rfl,by rw[a0F,P1 hi2];rfl⟩
 have hsz:Sf.toArray.size=es.length:=by simpa using hlen
 obtain⟨cls,dict,data,slots⟩:=o;dsimp only at h2 h3 h4;subst h2 h3 h4;refine cY (knd:=yP X.prog X.w) (key:=λi=>(es.getD i (.inl 0,.non)).1) (kv:=λi=>(ps.getD i (0,.none,.none)).2.1) (val:=λi=>(ps.getD i (0,.none,.none)).2.2) (ad:=λi=>(ps.getD i (0,.none,.none)).1) (I.ok.hd hc) h1 (λi hi=>?_) (λi hi=>?_) (λi hi=>?_) ?_ λh' tk hk hD=>?_
 .rw[hsz]at hi;obtain⟨a,ha,_,hg⟩:=hx i hi;rw[hg];simp[e1,ha]
 .rw[hsz]at hi;obtain⟨a,ha,_,hg⟩:=hx i hi;rw[hg];exact e3 a (ϧ ha)
 .rw[hsz]at hi;obtain⟨a,ha,he,hg⟩:=hx i hi;rw[hg];exact eN (e4 i a _ ha he).1
 .rw[hsz,<- hlen,<- rv.length];exact hz
 .rw[hsz]at hD;have kvr:KV (sJ es) (u5 (λi=>(es.getD i (.inl 0,.non)).1) (λi=>(ps.getD i (0,.none,.none)).2.2) es.length):=by
   have:=sL (es:=es) (key:=λi=>(es.getD i (.inl 0,.non)).1) (val:=λi=>(ps.getD i (0,.none,.none)).2.2) es.length (O2 _) λi e hi he=>?_
   .rwa [a00]at this
   .obtain⟨a,ha,he',hg⟩:=hx i hi;rw[he]at he';cases he';rw[hg];exact⟨by rw[a0F,he],(e4 i a _ ha he).2⟩
  have hfr:=I.hok.fresh (O2 s.heap.objs.size);refine⟨.ref s.heap.objs.size,_,I.laid (a:=s.heap.objs.size) (o:=.dK (sJ es)) (t':=tk) hk (O2 _) (lO ?_ (Ν.mpr (Ne.symm (P6 I.big))) kvr hD),rfl,q _ hfr⟩;rw[kvr.length];refine S6 (cX _ _ _) ?_;rw[<- hlen,<- rv.length];exact hz
end
def D4:List PV->Option (List (Key×PV))
 |[]=>some []
 |.t [k,v]::xs=>(pk k).bind λq=>(D4 xs).map ((q,v)::·)
 |_=>none
def mf(es:Ph):List (Key×PV):=es.foldl (λacc kv=>dput acc kv.1 kv.2) []
def fC:List PV->Out PV
 |[.d xs]=>.ok (.d xs)
 |[.l xs]=>ZS ((D4 xs).map λes=>.d (mf es))
 |_=>.wall
section
variable {W:RC}{M:OU}{H:Hp}
def sO:∀{xs:Pe}{vs:Pa}{es:Ph},yq W M H xs vs->D4 xs=some es->∃ev,cZ W.K H vs ev/\jX W M H es ev
 |[],_,_,h,e=>by cases e;cases(show _=_ from h);exact⟨[],rfl,rfl⟩
 |x::xs,_,es,h,e=>by
  obtain⟨v,r,rfl,h1,h2⟩:=h;unfold D4 at e;split at e
  .cases ‹_::_=[]›
  .rename_i k y ys heq;cases heq;obtain⟨q,hq,e⟩:=R4.mp e;obtain⟨zs,hz,rfl⟩:=v4.mp e;obtain⟨ev,i1,i2⟩:=sO h2 hz;obtain⟨p,us,rfl,hp,u1,r1,rfl,hk,u2,r2,rfl,hv,hr⟩:=h1;cases(show _=_ from hr);cases Ul (yZ.iff.mpr hk) hq;exact⟨(q,u2)::ev,⟨p,q,u2,ev,rfl,rfl,hp,i1⟩,⟨u2,ev,rfl,hv,i2⟩⟩
  .cases e
def bU:∀{es:Ph}{ev:Pb}{a:Ph}{av:Pb},jX W M H a av->jX W M H es ev->jX W M H (es.foldl (λacc kv=>dput acc kv.1 kv.2) a) (ev.foldl (λacc kv=>putK acc kv.1 kv.2) av)
 |[],_,_,_,h,e=>by cases(show _=_ from e);exact h
 |kx::es,_,a,av,h,⟨v,q,e,h1,h2⟩=>by subst e;rw[a08,a08];exact bU (a:=dput a kx.1 kx.2) (av:=putK av kx.1 v) (h.put h1) h2
def Ag:LfF W (λvs H Q=>Ha vs H Q\/B8 W.K vs H Q) fC:=λM C B H xs vs Q n h q=>by
 unfold fC at q;split at q
 .obtain⟨v,r,rfl,⟨p,es,rfl,_,hl,rr⟩,hr⟩:=h;cases(show _=_ from hr);exact .inl ⟨p,es,rfl,hl,λl hl=>q _ _ (zH.upd hl) (DL rr hl)⟩
 .obtain⟨z,e,q⟩:=qq q;obtain⟨es,he,rfl⟩:=v4.mp e;obtain⟨v,r,rfl,⟨p,ws,rfl,_,hl,rr⟩,hr⟩:=h;cases(show _=_ from hr);obtain⟨ev,i1,i2⟩:=sO rr he;exact .inr ⟨p,ws,ev,rfl,Sq.of hl,i1,λl hl=>q _ _ (zH.upd hl) (DL (bU (show jX W M H [] []from rfl) i2) hl)⟩
 .exact q.elim
end
def Ah(hc:X.calm=true)(hg:Gl X "dict")(hm:X.mg "dict"=none)(ha:AM X C S ws [e] ms)(he:starEach [e] X.env=[(false,eval e X.env)]:=by rfl):FM X C S (.Call (.Name "dict" p) [e] [] pos) (zg fC ms):=
 l5 (λhK=>hK▸n_.or (og hc)) Ag hg hm PyProof.Rows.boot_dict ha (he:=he)
section
variable {prog:Pg}{w:Pk}{A:Po}{E:OT}{s:OV}
def len_dict:typeLookup (.type "dict") "__len__"=pure (some (.builtin "dict.__len__")):=by rw[a2B,a1E];kernel_rfl
def D5(hT:s.TypeIs (.ref d) "dict")(h:Q false s):wpAny (model prog w) A (Builtin.List.listLengthHint (.ref d)) Q E s:=by
 unfold Builtin.List.listLengthHint;refine f8 (wpAny_specialOf hT len_dict ?_);generalize hid:("dict.__len__":String)=id0
 (fail_if_success (clear hid id0));wp_delta
 rw[show splitId id0=some ("dict","__len__")from by subst hid;decide +kernel];dsimp only;refine f8 (a1C (b:=true) hT (by rw[isSubtype_type];kernel_rfl) ?_);subst hid;rw[if_neg (by decide)];rw[if_pos (by decide +kernel)];refine f8 (ϥ (T:="dict") hT ?_);exact O5 h
variable {K:Type}[DecidableEq K] {knd:KeyKind prog w K}
def D6{Q:OT}{d:Addr}{kvs:List (K×Value)}{ep:Nat}(hh:A.handled=none)(hd:(d==sysModules)=false)(hm:s.heap.DictAt knd d kvs ep)(hn:kvs.length<=sizeLine)(hQ:∀h' tk acc' c',(∀b o,s.heap.get? b=some o->h'.get? b=some o)->h'.get? s.heap.objs.size=some { cls:=.type "list",dict:=none,data:=.seq acc' c',slots:=#[] }->ItemsOf (λi v=>∃k x,kvs[i]?=some (k,x)/\knd.is k v=true) acc' kvs.length->Q (.ref s.heap.objs.size) { s with heap:=h',toks:=tk }):
  wpAny (model prog w) A (call (.type "list") [.ref d]) Q E s:=by
 have l1:d<s.heap.objs.size:=by obtain⟨o,_,ho,_⟩:=hm;exact O7 ho
 refine callType_codes (Q₁:=λobj s₁=>obj=.ref s.heap.objs.size/\s₁={ s with heap:=s.heap.push { cls:=.type "list",data:=.seq #[] } }) PySem.F.called_list (PySem.F.typeCall_list_1 _) PySem.F.entry_list_init
  (code_list_new _ ⟨rfl,rfl⟩) λobj s₁ h₁=>?_
 obtain⟨rfl,rfl⟩:=h₁;have hS:(s.heap.push { cls:=.type "list",data:=.seq #[] }).get? s.heap.objs.size=some { cls:=.type "list",data:=.seq #[] }:=S5 _ rfl;refine⟨⟨_,hS,rfl⟩,PySem.F.args_list_init_2 _ _,?_⟩;show wpAny _ _ (do let old<-Builtin.List.listItems (.ref s.heap.objs.size);Builtin.List.listUpdate (.ref s.heap.objs.size) (λ_=>#[]);letGo old.toList.reverse;Builtin.List.listExtendWith (.ref s.heap.objs.size) (.ref d) .none) _ _ _;refine f8 ?_;unfold Builtin.List.listItems;refine f8 (wpAny_seqItems hS rfl (O5 ?_));show wpAny _ _ (updateSeq s.heap.objs.size (λ_=>#[]) >>= λ_=>letGo (#[]:Array Value).toList.reverse >>= λ_=>Builtin.List.listExtendWith (.ref s.heap.objs.size) (.ref d) .none) _ _ _;refine f8 (a2C hS rfl ?_);have hS₂:=a0J (Obj.mapSeq λ_=>(#[]:Array Value)) hS rfl;refine f8 (wpAny_letGo ?_);have kp:∀b o,s.heap.get? b=some o->((s.heap.push { cls:=.type "list",data:=.seq #[] }).update s.heap.objs.size (Obj.mapSeq λ_=>(#[]:Array Value))).get? b=some o:=λb o e=>
  (T1 _ _ (Ϧ (O7 e))).trans (O3 _ e)
 generalize((s.heap.push { cls:=.type "list",data:=.seq #[] }).update s.heap.objs.size (Obj.mapSeq λ_=>(#[]:Array Value)))=h2 at hS₂ kp;have hm2:h2.DictAt knd d kvs ep:=hm.at' λo e=>kp _ _ e;have hT2:∀{s':OV},s'.heap.DictAt knd d kvs ep->s'.TypeIs (.ref d) "dict":=λz=>z.dictOf.typeIs;unfold Builtin.List.listExtendWith;refine f8 (ϥ (T:="dict") (hT2 hm2) ?_);have hne1:s.heap.objs.size≠d:=Ϧ l1;have h1:Builtin.List.listSameRef (.ref s.heap.objs.size) (.ref d)=false:=by simp[Builtin.List.listSameRef,hne1]
 rw[if_neg (by rw[h1];decide)];refine f8 (wpAny_pyIter_dict hd hm2 ?_);have kp2:∀b o,h2.get? b=some o->(h2.push { cls:=.type "dict_keyiterator",data:=.fields #[.ref d,.int 0 0,.int kvs.length 0,.int ep 0] }).get? b=some o:=λb o e=>O3 _ e;have hm3:(h2.push { cls:=.type "dict_keyiterator",data:=.fields #[.ref d,.int 0 0,.int kvs.length 0,.int ep 0] }).DictAt knd d kvs ep:=hm2.at' λo e=>kp2 _ _ e;refine f8 (ρ (D5 (hT2 hm3) ?_));rw[if_pos (by decide)];refine f8 (a2S ?_);unfold Builtin.List.listTouch Builtin.List.listUpdate;have s2:s.heap.objs.size<h2.objs.size:=O7 hS₂;have dn:d≠h2.objs.size:=P6 (a1N l1 s2);have hS3:=kp2 _ _ hS₂;have it3:(h2.push { cls:=.type "dict_keyiterator",data:=.fields #[.ref d,.int 0 0,.int kvs.length 0,.int ep 0] }).get? h2.objs.size=some { cls:=.type "dict_keyiterator",data:=.fields #[.ref d,.int 0 0,.int kvs.length 0,.int ep 0] }:=S5 _ rfl;have kq:∀b o,s.heap.get? b=some o->(h2.push { cls:=.type "dict_keyiterator",data:=.fields #[.ref d,.int 0 0,.int kvs.length 0,.int ep 0] }).get? b=some o:=λb o e=>kp2 _ _ (kp b o e);generalize(h2.push { cls:=.type "dict_keyiterator",data:=.fields #[.ref d,.int 0 0,.int kvs.length 0,.int ep 0] })=h3 at hS3 it3 kq hm3;refine f8 (f8 (a2C hS3 rfl ?_));have hS4:=a0J (Obj.mapSeq (λx:Array Value=>x.push Value.none)) hS3 rfl;refine a2C hS4 rfl ?_;have hS5:=a0J (Obj.mapSeq (λx:Array Value=>x.pop)) hS4 rfl;have ku:∀b o,b≠s.heap.objs.size->h3.get? b=some o->((h3.update s.heap.objs.size (Obj.mapSeq λx=>x.push Value.none)).update s.heap.objs.size (Obj.mapSeq λx=>x.pop)).get? b=some o:=λb o hb e=>
  (T1 _ _ (Ne.symm hb)).trans ((T1 _ _ (Ne.symm hb)).trans e)
 have hm5:=hm3.at' (h':=((h3.update s.heap.objs.size (Obj.mapSeq λx=>x.push Value.none)).update s.heap.objs.size (Obj.mapSeq λx=>x.pop))) λo e=>ku _ _ (Ne.symm hne1) e;have it5:=ku _ _ (Ϧ s2) it3;have k5:∀b o,s.heap.get? b=some o->((h3.update s.heap.objs.size (Obj.mapSeq λx=>x.push Value.none)).update s.heap.objs.size (Obj.mapSeq λx=>x.pop)).get? b=some o:=λb o e=>ku b o (P6 (O7 e)) (kq b o e);generalize((h3.update s.heap.objs.size (Obj.mapSeq λx=>x.push Value.none)).update s.heap.objs.size (Obj.mapSeq λx=>x.pop))=h5 at hS5 hm5 it5 k5;refine O5 ⟨a2Y PySem.F.plain_extend_loop _,codeAny_extend_loopS (Walks.dictKeys (knd:=knd) (A:=A.in1.in1) hh h2.objs.size d dn kvs ep).toS hn s.heap.objs.size (by simp;exact⟨P6 s2,hne1⟩) _ kvs.length 0 _ _ _ rfl (Tx _) (show _/\_ from⟨⟨_,it5,rfl,rfl⟩,hm5⟩) hS5 (ItemsOf.nil _) λs' acc' c' hmv hS' hacc=>?_⟩;rw[Moved.eq_with hmv];refine⟨rfl,hQ s'.heap s'.toks acc' c' (λb o e=>hmv.heap b o (λhmem=>?_) (k5 b o e)) hS' hacc⟩;have:=O7 e;rcases P9.mp hmem with e'|hm
 .exact P6 this e'
 .exact P6 (a1N this s2) (R9.mp hm)
end
section
variable {X:Cx}
def B9:List V->Hp->VK->Prop:=λvs H Q=>∃p es,vs=[.ref p]/\Rd H p (.dK es)/\∀l,H l=none->Q (.ref l) (upd H l (.lst (es.map λkv=>kV kv.1)))
def oh(hc:X.calm=true):ZV X (.type "list") B9:=by
 intro Sa s Y H xs us Q I r h;obtain⟨p,es,rfl,hS,q⟩:=h;obtain⟨u,rfl,ru⟩:=vals1 r;cases ru;obtain⟨z,hd,vs,rel,o,ds,ep,e1,e2,e3,e4,e5,e6⟩:=J9 I.hok hS;have hl:vs.length=es.length:=rel.length.symm;refine D6 (knd:=yP X.prog X.w) (kvs:=vs) (ep:=ep) (I.ok.hd hc) hd ⟨o,ds,e1,e2,e3,e4,e5,e6⟩ (by rw[hl];exact z) λh' tk acc' c' hk hg hi=>?_;refine Ad (s:=s) (tk:=tk) I (O2 _) hk hg ?_ ?_ ?_ q
 .rw[u8];exact z
 .rw[u8,hi.1,hl]
 .intro j x v f1 f2;obtain⟨k,y,f3,f4⟩:=hi.2 j v f2;rw[S7]at f1;obtain⟨kx,f5,rfl⟩:=v4.mp f1;obtain⟨w',hw⟩:=G9 rel (k:=kx.1) (v:=kx.2) f5;rw[hw]at f3;cases f3;exact sG f4
end
def wu:List PV->Out PV
 |[.l xs]=>.ok (.l xs)
 |[.t xs]=>.ok (.l xs)
 |[.sc xs]=>.ok (.l (xs.map PV.i))
 |[.d kvs]=>.ok (.l (kvs.map λkx=>kP kx.1))
 |_=>.wall
def mj{W:RC}{M:OU}{H:Hp}:∀{kvs:Ph}{es:Pb},jX W M H kvs es->yq W M H (kvs.map λkx=>kP kx.1) (es.map λkv=>kV kv.1)
 |[],_,h=>by cases(show _=_ from h);rfl
 |kx::r,_,⟨v,q,e,h1,h2⟩=>by subst e;exact⟨_,_,rfl,G_ _,mj h2⟩
def Ai(L:LfF W r DK):LfF W (λvs H Q=>r vs H Q\/B9 vs H Q) wu:=λM C B H xs vs Q n h q=>by
 unfold wu at q;split at q
 .exact .inl (L M C B H _ vs Q n h q)
 .exact .inl (L M C B H _ vs Q n h q)
 .exact .inl (L M C B H _ vs Q n h q)
 .obtain⟨v,r,rfl,⟨p,es,rfl,_,hl,rr⟩,hr⟩:=h;cases(show _=_ from hr);exact .inr ⟨p,es,rfl,hl,λl hl=>q _ _ (zH.upd hl) (Uo (mj rr) hl)⟩
 .exact q.elim
def wx(hc:X.calm=true)(hg:Gl X "list")(hm:X.mg "list"=none)(ha:AM X C S ws [e] ms)(he:starEach [e] X.env=[(false,eval e X.env)]:=by rfl):FM X C S (.Call (.Name "list" p) [e] [] pos) (zg wu ms):=
 l5 (λhK=>hK▸eM.or (oh hc)) (Ai DM) hg hm PyProof.Rows.boot_list ha (he:=he)
def Hb:List V->Hp->VK->Prop:=λvs H Q=>∃b:Bool,vs=[.bl b]/\Q (.int (if b then 1 else 0)) H
def sP:ZV X (.type "int") Hb:=by intro Sa s Y H xs us Q I r h;obtain⟨b,rfl,q⟩:=h;obtain⟨u,rfl,ru⟩:=vals1 r;cases ru;exact call_int_bool ⟨.int _,H,I.tok _,⟨_,rfl⟩,q⟩
def oi:List PV->Out PV
 |[.b c]=>.ok (.i (if c then 1 else 0))
 |_=>.wall
def D7:LfC W Hb oi:=λM C B H xs vs Q n h q=>by
 unfold oi at q;split at q
 .obtain⟨v,r,rfl,hx,hr⟩:=h;cases(show _=_ from hr);cases(show _=_ from hx);exact⟨_,rfl,q _ H (zH.refl _) rfl⟩
 .exact q.elim
def D8(hg:Gl X "int")(hm:X.mg "int"=none)(ha:AM X C S ws [e] ms)(he:starEach [e] X.env=[(false,eval e X.env)]:=by rfl):EM X C S false (.Call (.Name "int" p) [e] [] pos) (zg oi ms):=
 xR (λ_=>sP) D7 hg hm PyProof.Rows.Boot.int ha (he:=he)
inductive HV where
 |v (x:PV)|g (k:Nat)|t (xs:List HV)
inductive Cell where
 |l (xs:List HV)|d (kvs:List (Key×HV))|z (kvs:List (Key×HV))|o (c:Nat) (fs:List (Str×HV))
abbrev AH:=List Cell
abbrev ZJ:=List (Option HV)
structure HC where
 W:RC
 H0:Hp
 M0:Addr->Prop
def HM(Z:HC)(A:O_)(n:Nat):Addr->Prop:=λa=>(Z.M0 a\/Z.H0 a=none)/\∀k,k<n->A k≠a
mutual
def ZK(W:RC)(M:OU)(A:O_)(n:Nat)(H:Hp):HV->V->Prop
 |.v x,v=>Rep W M H x v
 |.g k,v=>k<n/\v=.ref (A k)
 |.t xs,v=>∃p vs,v=.ref p/\SN W.K H p vs/\yd W M A n H xs vs
def yd(W:RC)(M:OU)(A:O_)(n:Nat)(H:Hp):List HV->List V->Prop
 |[],vs=>vs=[]
 |x::xs,vs=>∃v r,vs=v::r/\ZK W M A n H x v/\yd W M A n H xs r
end
def qx{κ:Type}(R:HV->V->Prop):List (κ×HV)->List (κ×V)->Prop
 |[],es=>es=[]
 |kx::r,es=>∃v q,es=(kx.1,v)::q/\R kx.2 v/\qx R r q
section
variable {W:RC}{M M':OU}{A A':O_}{n n':Nat}{H H':Hp}
mutual
def ZK.gen(f:Fr M H H')(s:∀a,M a->H a≠none->M' a)(hn:n<=n')(ha:∀k,k<n->A' k=A k):∀{x:HV}{v:V},ZK W M A n H x v->ZK W M' A' n' H' x v
 |.v x,v,h=>Rep.gen f s h
 |.g k,v,h=>⟨P4 h.1 hn,by rw[ha k h.1];exact h.2⟩
 |.t xs,v,h=>by unfold ZK at h ⊢;obtain⟨p,vs,e,r,q⟩:=h;exact⟨p,vs,e,f.sqT r,yd.gen f s hn ha q⟩
def yd.gen(f:Fr M H H')(s:∀a,M a->H a≠none->M' a)(hn:n<=n')(ha:∀k,k<n->A' k=A k):∀{x:List HV}{v:Pa},yd W M A n H x v->yd W M' A' n' H' x v
 |[],v,h=>h
 |x::xs,vs,h=>by unfold yd at h ⊢;obtain⟨v,r,e,h1,h2⟩:=h;exact⟨v,r,e,ZK.gen f s hn ha h1,yd.gen f s hn ha h2⟩
end
def qx.imp{κ:Type}{R R':HV->V->Prop}(h:∀x v,R x v->R' x v):∀{kvs:List (κ×HV)}{es:List (κ×V)},qx R kvs es->qx R' kvs es
 |[],_,q=>q
 |_::_,_,⟨v,q,e,a,b⟩=>⟨v,q,e,h _ _ a,qx.imp h b⟩
def iG(W:RC)(M:OU)(A:O_)(n:Nat)(H:Hp)(p:Addr):Cell->Prop
 |.l xs=>∃vs,H p=some (.lst vs)/\yd W M A n H xs vs
 |.d kvs=>∃es,H p=some (.dK es)/\qx (ZK W M A n H) kvs es
 |.z kvs=>∃o es,H p=some (.frz o (.dK es))/\qx (ZK W M A n H) kvs es
 |.o c fs=>∃dx es,H p=some (.ins (W.cls c) dx es)/\qx (ZK W M A n H) fs es
def iG.gen{p:Addr}(hp:H' p=H p)(f:Fr M H H')(s:∀a,M a->H a≠none->M' a)(hn:n<=n')(ha:∀k,k<n->A' k=A k):∀{c:Cell},iG W M A n H p c->iG W M' A' n' H' p c
 |.l _,⟨vs,e,q⟩=>⟨vs,hp.trans e,q.gen f s hn ha⟩
 |.d _,⟨es,e,q⟩=>⟨es,hp.trans e,q.imp λ_ _=>ZK.gen f s hn ha⟩
 |.z _,⟨o,es,e,q⟩=>⟨o,es,hp.trans e,q.imp λ_ _=>ZK.gen f s hn ha⟩
 |.o _ _,⟨dx,es,e,q⟩=>⟨dx,es,hp.trans e,q.imp λ_ _=>ZK.gen f s hn ha⟩
def iG.ob{p:Addr}:∀{c:Cell},iG W M A n H p c->∃o,H p=some o
 |.l _,⟨_,e,_⟩=>⟨_,e⟩
 |.d _,⟨_,e,_⟩=>⟨_,e⟩
 |.z _,⟨_,_,e,_⟩=>⟨_,e⟩
 |.o _ _,⟨_,_,e,_⟩=>⟨_,e⟩
end
structure Sn(Z:HC)(A:O_)(n:Nat)(H:Hp)(A':O_)(n':Nat)(H':Hp):Prop where
 le:n<=n'
 agr:∀k,k<n->A' k=A k
 fresh:∀k,n<=k->k<n'->H (A' k)=none
 fr:Fr (HM Z A n) H H'
 dom:∀a,H' a=none->H a=none
structure HH(Z:HC)(A:O_)(H:Hp)(G:AH):Prop where
 same:zH Z.H0 H
 cell:∀(k:Nat) c,G[k]?=some c->iG Z.W (HM Z A G.length) A G.length H (A k) c
 inj:∀j k,j<G.length->k<G.length->A j=A k->j=k
 own:∀k,k<G.length->Z.H0 (A k)=none
structure HR(Z:HC)(A:O_)(H:Hp)(Y:St)(U:ZJ)(G:AH):Prop extends HH Z A H G where
 len:Y.length=U.length
 var:∀(i:Nat) x,U[i]?=some (some x)->∃v,Y[i]?=some (some v)/\ZK Z.W (HM Z A G.length) A G.length H x v
section
variable {Z:HC}{A A' A'':O_}{n n' n'':Nat}{H H' H'':Hp}{G G' G'':AH}{Y Y':St}{U U':ZJ}
def Sn.sM(g:Sn Z A n H A' n' H'):∀a,HM Z A n a->H a≠none->HM Z A' n' a:=λa m h=>⟨m.1,λk hk e=>by
 by_cases c:k<n
 .exact m.2 k c (by rw[<- g.agr k c];exact e)
 .exact h (e▸g.fresh k (by omega) hk)⟩
def Sn.same(s:zH H H'):Sn Z A n H A n H':=⟨O2 _,λ_ _=>rfl,λk a b=>absurd b (by omega),s.fr,λa h=>zH.none s h⟩
def Sn.refl:Sn Z A n H A n H:=Sn.same (zH.refl _)
def Sn.trans(g:Sn Z A n H A' n' H')(k:Sn Z A' n' H' A'' n'' H''):Sn Z A n H A'' n'' H'':=by
 refine⟨S6 g.le k.le,λj hj=>(k.agr j (P4 hj g.le)).trans (g.agr j hj),λj h1 h2=>?_,λa o h m=>?_,λa h=>g.dom a (k.dom a h)⟩
 .by_cases c:j<n'
  .rw[k.agr j c];exact g.fresh j h1 c
  .exact g.dom _ (k.fresh j (by omega) h2)
 .refine k.fr a o (g.fr a o h m) (m.imp (λm=>g.sM a m (by rw[h];exact λz=>by cases z)) id)
def ZK.gro(g:Sn Z A n H A' n' H')(h:ZK W (HM Z A n) A n H x v):ZK W (HM Z A' n') A' n' H' x v:=h.gen g.fr g.sM g.le g.agr
def yd.gro(g:Sn Z A n H A' n' H')(h:yd W (HM Z A n) A n H x v):yd W (HM Z A' n') A' n' H' x v:=h.gen g.fr g.sM g.le g.agr
def HR.gro(R:HR Z A H Y U G)(h:HH Z A' H' G')(g:Sn Z A G.length H A' G'.length H'):HR Z A' H' Y U G':=
 ⟨h,R.len,λi x e=>let⟨v,h1,h2⟩:=R.var i x e;⟨v,h1,h2.gro g⟩⟩
def HH.ob(h:HH Z A H G)(hk:k<G.length):∃o,H (A k)=some o:=(h.cell k _ (P1 hk)).ob
def HH.keep(h:HH Z A H G)(s:zH H H'):HH Z A H' G:=⟨h.same.trans s,λk c e=>by
 have q:=h.cell k c e;obtain⟨o,ho⟩:=q.ob;exact q.gen ((s _ _ ho).trans ho.symm) s.fr (λ_ m _=>m) (O2 _) λ_ _=>rfl,h.inj,h.own⟩
def HH.new(h:HH Z A H G):Ϝ (HM Z A G.length) H:=λp hp=>⟨.inr (zH.none h.same hp),λk hk e=>by
 obtain⟨o,ho⟩:=h.ob hk;rw[e,hp]at ho;cases ho⟩
def HR.keep(R:HR Z A H Y U G)(s:zH H H'):HR Z A H' Y U G:=R.gro (R.toHH.keep s) (Sn.same s)
def η(A:O_)(n:Nat)(p:Addr):Nat->Addr:=λk=>if k=n then p else A k
def Ux:η A n p n=p:=if_pos rfl
def WA(h:k<n):η A n p k=A k:=if_neg (by omega)
def Sn.ext(s:zH H H')(hp:H p=none):Sn Z A n H (η A n p) (n+1) H':=
 ⟨Δ _,λk hk=>WA hk,λk h1 h2=>by rw[show k=n by omega,Ux];exact hp,s.fr,λa h=>zH.none s h⟩
def HH.alloc(h:HH Z A H G)(s:zH H H')(hp:H p=none)(hc:iG Z.W (HM Z (η A G.length p) (G.length+1)) (η A G.length p) (G.length+1) H' p c):HH Z (η A G.length p) H' (G++[c]):=by
 have g:Sn Z A G.length H (η A G.length p) (G.length+1) H':=Sn.ext s hp;have hl:(G++[c]).length=G.length+1:=by simp
 have np:∀k,k<G.length->A k≠p:=λk hk e=>by obtain⟨o,ho⟩:=h.ob hk;rw[e,hp]at ho;cases ho
 refine⟨h.same.trans s,λk d e=>?_,λj k hj hk e=>?_,λk hk=>?_⟩
 .rw[hl];by_cases hk:k<G.length
  .rw[T9 hk]at e;have q:=h.cell k d e;obtain⟨o,ho⟩:=q.ob;rw[WA hk];exact q.gen ((s _ _ ho).trans ho.symm) g.fr g.sM g.le g.agr
  .have e2:=(P8.mp e).1;have ek:k=G.length:=by omega
   subst ek;rw[ϩ (O2 _),a2n]at e;cases e;rw[Ux];exact hc
 .rw[hl]at hj hk;by_cases c1:j=G.length
  .by_cases c2:k=G.length
   .rw[c1,c2]
   .rw[c1,Ux,WA (by omega)]at e;exact absurd e.symm (np k (by omega))
  .by_cases c2:k=G.length
   .rw[c2,Ux,WA (by omega)]at e;exact absurd e (np j (by omega))
   .rw[WA (by omega),WA (by omega)]at e;exact h.inj j k (by omega) (by omega) e
 .rw[hl]at hk;by_cases c1:k=G.length
  .rw[c1,Ux];exact zH.none h.same hp
  .rw[WA (by omega)];exact h.own k (by omega)
def HH.frw(h:HH Z A H G)(hk:k<G.length)(h0:H (A k)=Option.some o0)(n0:¬Ρ o0):Sn Z A G.length H A G.length (upd H (A k) o):=by
 refine⟨O2 _,λ_ _=>rfl,λk a b=>absurd b (by omega),λa q e m=>?_,λa e=>?_⟩
 .have:a≠A k:=λz=>by
   rcases m with m|m
   .exact m.2 k hk z.symm
   .rw[z,h0]at e;cases e;exact n0 m
  rw[zl this];exact e
 .by_cases z:a=A k
  .rw[z,zh]at e;cases e
  .rw[zl z]at e;exact e
def HH.write(h:HH Z A H G)(hk:k<G.length)(h0:H (A k)=Option.some o0)(n0:¬Ρ o0)(hc:iG Z.W (HM Z A G.length) A G.length (upd H (A k) o) (A k) c):HH Z A (upd H (A k) o) (G.set k c):=by
 have g:=h.frw (o:=o) hk h0 n0;have hl:(G.set k c).length=G.length:=τ ..;refine⟨λa q e=>?_,λj d e=>?_,λi j hi hj=>h.inj i j (hl▸hi) (hl▸hj),λj hj=>h.own j (hl▸hj)⟩
 .have:a≠A k:=λz=>by rw[z,h.own k hk]at e;cases e
  rw[zl this];exact h.same a q e
 .rw[hl];by_cases hj:k=j
  .subst hj;rw[T5 hk]at e;cases e;exact hc
  .rw[S8 hj]at e;have jl:=(P8.mp e).1;exact(h.cell j d e).gen (zl λz=>hj (h.inj j k jl hk z).symm) g.fr g.sM g.le g.agr
def HR.set(R:HR Z A H Y U G)(hx:ZK Z.W (HM Z A G.length) A G.length H x v):HR Z A H (Y.set i (Option.some v)) (U.set i (Option.some x)) G:=by
 refine⟨R.toHH,by rw[τ,τ];exact R.len,λj y e=>?_⟩;by_cases hij:i=j
 .subst hij;have hl:i<U.length:=by
   have:=(P8.mp e).1
   rwa [τ]at this
  rw[T5 hl]at e;cases e;exact⟨v,by rw[T5 (by rw[R.len];exact hl)],hx⟩
 .rw[S8 hij]at e ⊢;exact R.var j y e
end
inductive HX(α:Type)where
 |ok (a:α) (G:AH)|exc (c:Nat) (fs:Pj) (G:AH)|wall
def HX.bind{α β:Type}:HX α->(α->AH->HX β)->HX β
 |.ok a G,f=>f a G
 |.exc c fs G,_=>.exc c fs G
 |.wall,_=>.wall
def Aj(Z:HC)(E:XK)(A:O_)(n:Nat)(H:Hp)(c:Nat)(fs:Pj)(G':AH):Prop:=∀A' H' e dx es,HH Z A' H' G'->Sn Z A n H A' G'.length H'->H' e=some (XC e (Z.W.cls c) dx)->H' dx=some (XD dx es)->vg Z.W (HM Z A' G'.length) H' fs es->E (.ref e) (some dx) H'
def SJ{α:Type}(Z:HC)(E:XK)(A:O_)(n:Nat)(H:Hp)(K:α->(Nat->Addr)->Hp->AH->Prop):HX α->Prop
 |.ok x G'=>∀A' H',HH Z A' H' G'->Sn Z A n H A' G'.length H'->K x A' H' G'
 |.exc c fs G'=>Aj Z E A n H c fs G'
 |.wall=>False
section
variable {α β:Type}{K:β->(Nat->Addr)->Hp->AH->Prop}{K':α->(Nat->Addr)->Hp->AH->Prop}
def Aj.gro(h:Aj Z E A n H c fs G)(g:Sn Z A n H A' n' H'):Aj Z E A' n' H' c fs G:=λA2 H2 e dx es h2 g2=>h A2 H2 e dx es h2 (g.trans g2)
def SJ.gro{o:HX β}(h:SJ Z E A n H K o)(g:Sn Z A n H A' n' H'):SJ Z E A' n' H' K o:=by
 cases o with
 |ok x G'=>exact λA2 H2 h2 g2=>h A2 H2 h2 (g.trans g2)
 |exc c fs G'=>exact Aj.gro h g
 |wall=>exact h
def SJ.bind{o:HX α}{f:α->AH->HX β}(h:SJ Z E A n H K (o.bind f))(k:∀x A' H' G',HH Z A' H' G'->Sn Z A n H A' G'.length H'->SJ Z E A' G'.length H' K (f x G')->K' x A' H' G'):SJ Z E A n H K' o:=by
 cases o with
 |ok x G'=>exact λA2 H2 h2 g2=>k x A2 H2 G' h2 g2 (SJ.gro (o:=f x G') h g2)
 |exc c fs G'=>exact h
 |wall=>exact h
end
abbrev SD:=ZJ->AH->HX HV
abbrev Υ:=ZJ->AH->HX Bool
abbrev TK:=ZJ->AH->HX (List HV)
def ϓ(Z:HC)(Q:VK):HV->(Nat->Addr)->Hp->AH->Prop:=λx A' H' G'=>∀v,ZK Z.W (HM Z A' G'.length) A' G'.length H' x v->Q v H'
def KT'(Q:Bool->Hp->Prop):Bool->(Nat->Addr)->Hp->AH->Prop:=λb _ H' _=>Q b H'
def KA'(Z:HC)(Q:List V->Hp->Prop):List HV->(Nat->Addr)->Hp->AH->Prop:=λxs A' H' G'=>∀vs,yd Z.W (HM Z A' G'.length) A' G'.length H' xs vs->Q vs H'
def HE(X:Cx)(W:RC)(E:XK)(e:Pc)(m:SD):Prop:=X.K=W.K->∃te,PE X e te/\∀(Z:HC),Z.W=W->∀A H Y U G,HR Z A H Y U G->∀Q,SJ Z E A G.length H (ϓ Z Q) (m U G)->te Y H Q
def HT(X:Cx)(W:RC)(E:XK)(e:Pc)(m:Υ):Prop:=X.K=W.K->∃te,PT X e te/\∀(Z:HC),Z.W=W->∀A H Y U G,HR Z A H Y U G->∀Q,SJ Z E A G.length H (KT' Q) (m U G)->te Y H Q
def HTW(X:Cx)(W:RC)(E:XK)(e:Pc)(m:Υ):Prop:=X.K=W.K->∃te,PW X e te/\∀(Z:HC),Z.W=W->∀A H Y U G,HR Z A H Y U G->∀Q,SJ Z E A G.length H (KT' Q) (m U G)->te Y H Q
def HA(X:Cx)(W:RC)(E:XK)(es:OX)(m:TK):Prop:=X.K=W.K->∃te,PA X es te/\∀(Z:HC),Z.W=W->∀A H Y U G,HR Z A H Y U G->∀Q,SJ Z E A G.length H (KA' Z Q) (m U G)->te Y H Q
mutual
def TV:PV->Bool
 |.i _=>true | .s _=>true | .b _=>true | .n=>true
 |.t xs=>oW xs
 |.l _=>false | .d _=>false | .o _ _=>false | .x _ _=>false | .sc _=>false | .dt _=>false
def oW:List PV->Bool
 |[]=>true
 |x::xs=>TV x&&oW xs
end
def Ak:List (Str×PV)->Bool
 |[]=>true
 |x::xs=>TV x.2&&Ak xs
section
variable {W:RC}{M M':OU}{A A':O_}{n n':Nat}{H H':Hp}
mutual
def V8:∀{x:PV}{v:V},TV x=true->Rep W M H x v->Rep W M' H x v
 |.i _,_,_,h=>h
 |.s _,_,_,h=>h
 |.b _,_,_,h=>h
 |.n,_,_,h=>h
 |.t xs,_,e,h=>by unfold Rep at h ⊢;unfold TV at e;obtain⟨p,vs,e1,r,q⟩:=h;exact⟨p,vs,e1,r,c4 e q⟩
 |.l _,_,e,_=>by unfold TV at e;cases e
 |.d _,_,e,_=>by unfold TV at e;cases e
 |.o _ _,_,e,_=>by unfold TV at e;cases e
 |.x _ _,_,e,_=>by unfold TV at e;cases e
 |.sc _,_,e,_=>by unfold TV at e;cases e
 |.dt _,_,e,_=>by unfold TV at e;cases e
def c4:∀{x:Pe}{v:Pa},oW x=true->yq W M H x v->yq W M' H x v
 |[],_,_,h=>h
 |x::xs,_,e,h=>by unfold oW at e;simp only[Bool.and_eq_true]at e;obtain⟨v,r,e1,h1,h2⟩:=h;exact⟨v,r,e1,V8 e.1 h1,c4 e.2 h2⟩
end
def Z5:∀{x:Pj}{v:Pp},Ak x=true->vg W M H x v->vg W M' H x v
 |[],_,_,h=>h
 |x::xs,_,e,h=>by unfold Ak at e;simp only[Bool.and_eq_true]at e;obtain⟨v,r,e1,h1,h2⟩:=h;exact⟨v,r,e1,V8 e.1 h1,Z5 e.2 h2⟩
def KZ:List Bool->ZJ->Option So
 |_,[]=>some []
 |[],_::U=>(KZ [] U).map (none::·)
 |false::bs,_::U=>(KZ bs U).map (none::·)
 |true::bs,some (.v x)::U=>(KZ bs U).map (some x::·)
 |true::_,_=>none
def fD(f:HV->Option PV):List HV->Option (List PV)
 |[]=>some []
 |x::xs=>(f x).bind λy=>(fD f xs).map (y::·)
def oj{κ:Type}(f:HV->Option PV):List (κ×HV)->Option (List (κ×PV))
 |[]=>some []
 |x::xs=>(f x.2).bind λy=>(oj f xs).map ((x.1,y)::·)
def jH(G:AH):Nat->HV->Option PV
 |0,_=>none
 |_+1,.v x=>some x
 |n+1,.t xs=>(fD (jH G n) xs).map .t
 |n+1,.g k=>match G[k]? with
  |some (.l xs)=>(fD (jH G n) xs).map .l
  |some (.d kvs)=>(oj (jH G n) kvs).map .d
  |some (.z kvs)=>(oj (jH G n) kvs).map .d
  |some (.o c fs)=>(oj (jH G n) fs).map (.o c)
  |none=>none
def Jc(G:AH):List Bool->ZJ->Option So
 |_,[]=>some []
 |[],_::U=>(Jc G [] U).map (none::·)
 |false::bs,_::U=>(Jc G bs U).map (none::·)
 |true::bs,some x::U=>(jH G 8 x).bind λy=>(Jc G bs U).map (some y::·)
 |true::_,none::_=>none
def K0{f:HV->Option PV}{N:OU}(hf:∀x v y,ZK W M A n H x v->f x=some y->Rep W N H y v):∀{xs:List HV}{vs:Pa}{ys:Pe},yd W M A n H xs vs->fD f xs=some ys->yq W N H ys vs
 |[],_,_,h,e=>by cases e;exact h
 |x::xs,_,ys,h,e=>by obtain⟨v,r,rfl,h1,h2⟩:=h;unfold fD at e;obtain⟨y,e1,e⟩:=R4.mp e;obtain⟨zs,e2,rfl⟩:=v4.mp e;exact⟨v,r,rfl,hf _ _ _ h1 e1,K0 hf h2 e2⟩
def XQ{f:HV->Option PV}{N:OU}(hf:∀x v y,ZK W M A n H x v->f x=some y->Rep W N H y v):∀{xs:List (Key×HV)}{vs:Pb}{ys:Ph},qx (ZK W M A n H) xs vs->oj f xs=some ys->jX W N H ys vs
 |[],_,_,h,e=>by cases e;exact h
 |x::xs,_,ys,h,e=>by obtain⟨v,r,rfl,h1,h2⟩:=h;unfold oj at e;obtain⟨y,e1,e⟩:=R4.mp e;obtain⟨zs,e2,rfl⟩:=v4.mp e;exact⟨v,r,rfl,hf _ _ _ h1 e1,XQ hf h2 e2⟩
def mq{f:HV->Option PV}{N:OU}(hf:∀x v y,ZK W M A n H x v->f x=some y->Rep W N H y v):∀{xs:List (Str×HV)}{vs:Pp}{ys:Pj},qx (ZK W M A n H) xs vs->oj f xs=some ys->vg W N H ys vs
 |[],_,_,h,e=>by cases e;exact h
 |x::xs,_,ys,h,e=>by obtain⟨v,r,rfl,h1,h2⟩:=h;unfold oj at e;obtain⟨y,e1,e⟩:=R4.mp e;obtain⟨zs,e2,rfl⟩:=v4.mp e;exact⟨v,r,rfl,hf _ _ _ h1 e1,mq hf h2 e2⟩
end
section
variable {Z:HC}{A:O_}{H:Hp}{G:AH}{Y:St}{U:ZJ}
def V9(h:HH Z A H G):∀(n:Nat)(x:HV)(v:V)(y:PV),ZK Z.W (HM Z A G.length) A G.length H x v->jH G n x=some y->Rep Z.W (λ_=>True) H y v
 |0,_,_,_,_,e=>by cases e
 |n+1,.v x,v,y,r,e=>by cases e;exact Rep.sub r λ_ _ _=>trivial
 |n+1,.t xs,v,y,r,e=>by unfold jH at e;obtain⟨ys,e1,rfl⟩:=v4.mp e;unfold ZK at r;obtain⟨p,vs,rfl,s,q⟩:=r;exact⟨p,vs,rfl,s,K0 (V9 h n) q e1⟩
 |n+1,.g k,v,y,r,e=>by
  obtain⟨hk,rfl⟩:=r;unfold jH at e;split at e
  .rename_i xs hc;obtain⟨ys,e1,rfl⟩:=v4.mp e;obtain⟨vs,h1,q⟩:=h.cell k _ hc;exact⟨A k,vs,rfl,trivial,h1,K0 (V9 h n) q e1⟩
  .rename_i xs hc;obtain⟨ys,e1,rfl⟩:=v4.mp e;obtain⟨vs,h1,q⟩:=h.cell k _ hc;exact⟨A k,vs,rfl,trivial,.inl h1,XQ (V9 h n) q e1⟩
  .rename_i xs hc;obtain⟨ys,e1,rfl⟩:=v4.mp e;obtain⟨o,vs,h1,q⟩:=h.cell k _ hc;exact⟨A k,vs,rfl,trivial,.inr ⟨o,h1⟩,XQ (V9 h n) q e1⟩
  .rename_i c xs hc;obtain⟨ys,e1,rfl⟩:=v4.mp e;obtain⟨dx,vs,h1,q⟩:=h.cell k _ hc;exact⟨A k,dx,vs,rfl,trivial,h1,mq (V9 h n) q e1⟩
  .cases e
def K1:∀{bs:OW}{U:ZJ}{r:So}{i:Nat}{x:PV},KZ bs U=some r->r[i]?=some (some x)->U[i]?=some (some (.v x))
 |_,[],r,i,x,e,h=>by unfold KZ at e;cases e;simp at h
 |[],_::U,r,i,x,e,h=>by
  unfold KZ at e;obtain⟨r',e1,rfl⟩:=v4.mp e;cases i with
  |zero=>cases h
  |succ i=>rw[S4]at h ⊢;exact K1 e1 h
 |false::bs,_::U,r,i,x,e,h=>by
  unfold KZ at e;obtain⟨r',e1,rfl⟩:=v4.mp e;cases i with
  |zero=>cases h
  |succ i=>rw[S4]at h ⊢;exact K1 e1 h
 |true::bs,some (.v y)::U,r,i,x,e,h=>by
  unfold KZ at e;obtain⟨r',e1,rfl⟩:=v4.mp e;cases i with
  |zero=>cases h;rfl
  |succ i=>rw[S4]at h ⊢;exact K1 e1 h
 |true::bs,none::U,r,i,x,e,h=>by cases e
 |true::bs,some (.g _)::U,r,i,x,e,h=>by cases e
 |true::bs,some (.t _)::U,r,i,x,e,h=>by cases e
def K2:∀{bs:OW}{U:ZJ}{r:So},KZ bs U=some r->r.length=U.length
 |_,[],r,e=>by unfold KZ at e;cases e;rfl
 |[],_::U,r,e=>by unfold KZ at e;obtain⟨r',e1,rfl⟩:=v4.mp e;rw[v0,v0,K2 e1]
 |false::bs,_::U,r,e=>by unfold KZ at e;obtain⟨r',e1,rfl⟩:=v4.mp e;rw[v0,v0,K2 e1]
 |true::bs,some (.v y)::U,r,e=>by unfold KZ at e;obtain⟨r',e1,rfl⟩:=v4.mp e;rw[v0,v0,K2 e1]
 |true::bs,none::U,r,e=>by cases e
 |true::bs,some (.g _)::U,r,e=>by cases e
 |true::bs,some (.t _)::U,r,e=>by cases e
def XR:∀{bs:OW}{U:ZJ}{r:So}{i:Nat}{x:PV},Jc G bs U=some r->r[i]?=some (some x)->∃y,U[i]?=some (some y)/\jH G 8 y=some x
 |_,[],r,i,x,e,h=>by unfold Jc at e;cases e;simp at h
 |[],_::U,r,i,x,e,h=>by
  unfold Jc at e;obtain⟨r',e1,rfl⟩:=v4.mp e;cases i with
  |zero=>cases h
  |succ i=>rw[S4]at h ⊢;exact XR e1 h
 |false::bs,_::U,r,i,x,e,h=>by
  unfold Jc at e;obtain⟨r',e1,rfl⟩:=v4.mp e;cases i with
  |zero=>cases h
  |succ i=>rw[S4]at h ⊢;exact XR e1 h
 |true::bs,some y::U,r,i,x,e,h=>by
  unfold Jc at e;obtain⟨z,e0,e⟩:=R4.mp e;obtain⟨r',e1,rfl⟩:=v4.mp e;cases i with
  |zero=>cases h;exact⟨y,rfl,e0⟩
  |succ i=>rw[S4]at h ⊢;exact XR e1 h
 |true::bs,none::U,r,i,x,e,h=>by cases e
def XS:∀{bs:OW}{U:ZJ}{r:So},Jc G bs U=some r->r.length=U.length
 |_,[],r,e=>by unfold Jc at e;cases e;rfl
 |[],_::U,r,e=>by unfold Jc at e;obtain⟨r',e1,rfl⟩:=v4.mp e;rw[v0,v0,XS e1]
 |false::bs,_::U,r,e=>by unfold Jc at e;obtain⟨r',e1,rfl⟩:=v4.mp e;rw[v0,v0,XS e1]
 |true::bs,some y::U,r,e=>by unfold Jc at e;obtain⟨z,e0,e⟩:=R4.mp e;obtain⟨r',e1,rfl⟩:=v4.mp e;rw[v0,v0,XS e1]
 |true::bs,none::U,r,e=>by cases e
def Hc{S:OS}(hS:S.all (·==0)=true){i c:Nat}(h:S[i]?=some c):c=0:=by have:=a0Y.mp hS c (ϧ h);simpa using this
def Hd(hl:Y.length=r.length)(hS:S.all (·==0)=true)(hv:∀(i:Nat) x,r[i]?=some (some x)->∃v,Y[i]?=some (some v)/\Rep Z.W M H x v):Rel Z.W (uZ H M) S (λ_=>0) H Y r:=by
 have n2:∀{k:Nat},S[k]?=some 2->False:=λ{k} h=>by have:=Hc hS h;omega
 have n1:∀{k:Nat},S[k]?=some 1->False:=λ{k} h=>by have:=Hc hS h;omega
 refine⟨zH.refl _,hl,λi x e=>?_,λi hi=>(n2 hi).elim,λi j hi=>(n2 hi).elim,λhi=>(n2 hi).elim,λa h=>h.elim,λi hi=>(n2 hi).elim⟩;obtain⟨v,h1,h2⟩:=hv i x e;exact⟨v,h1,λz=>(n2 z).elim,λz=>(n1 z).elim,λ_ _=>h2.sub λa m _=>⟨⟨.inl m,id⟩,λi hi=>(n2 hi).elim⟩⟩
def Al(R:HR Z A H Y U G)(e:KZ bs U=some r)(hS:S.all (·==0)=true):Rel Z.W (uZ H (HM Z A G.length)) S (λ_=>0) H Y r:=
 Hd (R.len.trans (K2 e).symm) hS λi x h=>R.var i _ (K1 e h)
def Am(R:HR Z A H Y U G)(e:Jc G bs U=some r)(hS:S.all (·==0)=true):Rel Z.W (uZ H λ_=>True) S (λ_=>0) H Y r:=
 Hd (R.len.trans (XS e).symm) hS λi x h=>by obtain⟨y,h1,h2⟩:=XR e h;obtain⟨v,h3,h4⟩:=R.var i y h1;exact⟨v,h3,V9 R.toHH _ _ _ _ h4 h2⟩
def An(h:HH Z A H G):∀a,Sl (uZ H (HM Z A G.length)) S P a->HM Z A G.length a:=λa m=>m.1.1.elim id λn=>h.new a n
end
def hP(bs:OW)(m:ME):SD:=λU G=>match KZ bs U with
 |some r=>match m r with
  |.ok x=>.ok (.v x) G
  |.exc c fs=>.exc c fs G
  |.wall=>.wall
 |none=>match Jc G bs U with
  |some r=>match m r with
   |.ok x=>if TV x=true then .ok (.v x) G else .wall
   |.exc c fs=>if Ak fs=true then .exc c fs G else .wall
   |.wall=>.wall
  |none=>.wall
def Tf(bs:OW)(m:MT):Υ:=λU G=>match KZ bs U with
 |some r=>match m r with
  |.ok x=>.ok x G
  |.exc c fs=>.exc c fs G
  |.wall=>.wall
 |none=>match Jc G bs U with
  |some r=>match m r with
   |.ok x=>.ok x G
   |.exc c fs=>if Ak fs=true then .exc c fs G else .wall
   |.wall=>.wall
  |none=>.wall
def vK{κ:Type}(xs:List (κ×PV)):List (κ×HV):=xs.map λp=>(p.1,.v p.2)
def iH:PV->Option Cell
 |.l xs=>some (.l (xs.map .v))
 |.d kvs=>some (.d (vK kvs))
 |.o c fs=>some (.o c (vK fs))
 |_=>none
def Lj:PV->Bool
 |.l xs=>oW xs
 |.d kvs=>oW (kvs.map (·.2))
 |.o _ fs=>Ak fs
 |_=>false
def hF(bs:OW)(m:ME):SD:=λU G=>match KZ bs U with
 |some r=>match m r with
  |.ok x=>match iH x with
   |some c=>.ok (.g G.length) (G++[c])
   |none=>.wall
  |.exc c fs=>.exc c fs G
  |.wall=>.wall
 |none=>match Jc G bs U with
  |some r=>match m r with
   |.ok x=>if Lj x=true then match iH x with
    |some c=>.ok (.g G.length) (G++[c])
    |none=>.wall else .wall
   |.exc c fs=>if Ak fs=true then .exc c fs G else .wall
   |.wall=>.wall
  |none=>.wall
section
variable {W:RC}{M M':OU}{A:O_}{n:Nat}{H:Hp}
def D9:∀{xs:Pe}{vs:Pa},yq W M H xs vs->yd W M A n H (xs.map .v) vs
 |[],_,h=>h
 |_::_,_,⟨v,r,e,h1,h2⟩=>⟨v,r,e,h1,D9 h2⟩
def He:∀{xs:Ph}{vs:Pb},jX W M H xs vs->qx (ZK W M A n H) (vK xs) vs
 |[],_,h=>h
 |_::_,_,⟨v,r,e,h1,h2⟩=>⟨v,r,e,h1,He h2⟩
def Hf:∀{xs:Pj}{vs:Pp},vg W M H xs vs->qx (ZK W M A n H) (vK xs) vs
 |[],_,h=>h
 |_::_,_,⟨v,r,e,h1,h2⟩=>⟨v,r,e,h1,Hf h2⟩
def mr:∀{x:Ph}{v:Pb},oW (x.map (·.2))=true->jX W M H x v->jX W M' H x v
 |[],_,_,h=>h
 |x::xs,_,e,h=>by rw[O6]at e;unfold oW at e;simp only[Bool.and_eq_true]at e;obtain⟨v,r,e1,h1,h2⟩:=h;exact⟨v,r,e1,V8 e.1 h1,mr e.2 h2⟩
def D_(hx:cJ W M H p x)(e:iH x=some c):iG W M A n H p c:=by
 cases x with
 |l xs=>cases e;obtain⟨vs,h,r⟩:=hx;exact⟨vs,h,D9 r⟩
 |d xs=>cases e;obtain⟨vs,h,r⟩:=hx;exact⟨vs,h,He r⟩
 |o k xs=>cases e;obtain⟨dx,vs,h,r⟩:=hx;exact⟨dx,vs,h,Hf r⟩
 |_=>cases e
def Ao(e:Lj x=true)(hx:cJ W M H p x):cJ W M' H p x:=by
 cases x with
 |l xs=>obtain⟨vs,h,r⟩:=hx;exact⟨vs,h,c4 e r⟩
 |d xs=>obtain⟨vs,h,r⟩:=hx;exact⟨vs,h,mr e r⟩
 |o k xs=>obtain⟨dx,vs,h,r⟩:=hx;exact⟨dx,vs,h,Z5 e r⟩
 |_=>cases e
end
section
variable {X:Cx}{W:RC}{E:XK}{fr:Bool}{S:OS}{e a b:Pc}{es:OX}{m:ME}{t:MT}{bs:OW}{pos p:Pos}{i:Nat}{m1 m2:SD}{ms:TK}{t1 t2:Υ}
def c5(h:HH Z A H G)(q:Aj Z E A G.length H c fs G)(hM:∀H2 es,vg Z.W (λa=>M a\/H a=none) H2 fs es->vg Z.W (HM Z A G.length) H2 fs es):Ξ ⟨Z.W,E,fr⟩ (uZ H M) c fs:=
 λe dx es H2 s h1 h2 h3=>q A H2 e dx es (h.keep s) (Sn.same s) h1 h2 (hM H2 es h3)
def OA(bs:OW)(h:EM X ⟨W,E,fr⟩ S false e m)(hS:S.all (·==0)=true:=by rfl):HE X W E e (hP bs m):=λhK=>by
 obtain⟨te,a1,a2⟩:=h hK;refine⟨te,a1,λZ hZ A H Y U G R Q q=>?_⟩;subst hZ;unfold hP at q;split at q
 .rename_i r hr;refine a2 _ _ H Y r (Al R hr hS) Q ?_;revert q;cases m r with
  |ok x=>exact λq v H2 s rx=>q A H2 (R.toHH.keep s) (Sn.same s) v (rx.rep.sub λa m _=>An R.toHH a m)
  |exc c fs=>exact λq=>c5 R.toHH q λH2 es h=>h.sub λa m _=>m.elim id λn=>R.toHH.new a n
  |wall=>exact id
 .split at q
  .rename_i r hr;refine a2 _ _ H Y r (Am R hr hS) Q ?_;revert q;cases m r with
   |ok x=>
    intro q v H2 s rx;dsimp only at q;split at q
    .rename_i hi;exact q A H2 (R.toHH.keep s) (Sn.same s) v (V8 hi rx.rep)
    .exact q.elim
   |exc c fs=>
    intro q;dsimp only at q;split at q
    .rename_i hi;exact c5 R.toHH q λH2 es h=>Z5 hi h
    .exact q.elim
   |wall=>exact id
  .exact q.elim
def sQ(bs:OW)(h:TM X ⟨W,E,fr⟩ S e t)(hS:S.all (·==0)=true:=by rfl):HT X W E e (Tf bs t):=λhK=>by
 obtain⟨te,a1,a2⟩:=h hK;refine⟨te,a1,λZ hZ A H Y U G R Q q=>?_⟩;subst hZ;unfold Tf at q;split at q
 .rename_i r hr;refine a2 _ _ H Y r (Al R hr hS) Q ?_;revert q;cases t r with
  |ok x=>exact λq H2 s=>q A H2 (R.toHH.keep s) (Sn.same s)
  |exc c fs=>exact λq=>c5 R.toHH q λH2 es h=>h.sub λa m _=>m.elim id λn=>R.toHH.new a n
  |wall=>exact id
 .split at q
  .rename_i r hr;refine a2 _ _ H Y r (Am R hr hS) Q ?_;revert q;cases t r with
   |ok x=>exact λq H2 s=>q A H2 (R.toHH.keep s) (Sn.same s)
   |exc c fs=>
    intro q;dsimp only at q;split at q
    .rename_i hi;exact c5 R.toHH q λH2 es h=>Z5 hi h
    .exact q.elim
   |wall=>exact id
  .exact q.elim
def c6{Z:HC}{A:O_}{H H2:Hp}{G:AH}{c:Cell}{p:Addr}{Q:VK}(h:HH Z A H G)(s:zH H H2)(hp:H p=none)(hc:iG Z.W (HM Z (η A G.length p) (G.length+1)) (η A G.length p) (G.length+1) H2 p c)(q:SJ Z E A G.length H (ϓ Z Q) (.ok (.g G.length) (G++[c]))):Q (.ref p) H2:=by
 have hl:(G++[c]).length=G.length+1:=by simp
 refine q _ H2 (h.alloc s hp hc) (by rw[hl];exact Sn.ext s hp) _ ⟨by rw[hl];exact ϋ _,?_⟩;rw[Ux]
def B_{Z:HC}{A:O_}{n:Nat}{p a:Addr}(m:HM Z A n a)(h:a≠p):HM Z (η A n p) (n+1) a:=⟨m.1,λk hk e=>by
 by_cases c:k=n
 .rw[c,Ux]at e;exact h e.symm
 .rw[WA (by omega)]at e;exact m.2 k (by omega) e⟩
def MH(bs:OW)(a2:ϝ ⟨W,E,fr⟩ S te m)(hS:S.all (·==0)=true:=by rfl):∀(Z:HC),Z.W=W->∀A H Y U G,HR Z A H Y U G->∀Q,SJ Z E A G.length H (ϓ Z Q) (hF bs m U G)->te Y H Q:=λZ hZ A H Y U G R Q q=>by
 subst hZ;unfold hF at q;split at q
 .rename_i r hr;refine a2 _ _ H Y r (Al R hr hS) Q ?_;revert q;cases m r with
  |ok x=>
   intro q v H2 s rx;dsimp only at q;split at q
   .rename_i c hc;obtain⟨p,rfl,hp,ra⟩:=rx;exact c6 R.toHH s hp (D_ (ra.gen rfl Fr.refl λa m _=>B_ (An R.toHH a m.1) m.2) hc) q
   .exact q.elim
  |exc c fs=>exact λq=>c5 R.toHH q λH2 es h=>h.sub λa m _=>m.elim id λn=>R.toHH.new a n
  |wall=>exact id
 .split at q
  .rename_i r hr;refine a2 _ _ H Y r (Am R hr hS) Q ?_;revert q;cases m r with
   |ok x=>
    intro q v H2 s rx;dsimp only at q;split at q
    .rename_i hi;split at q
     .rename_i c hc;obtain⟨p,rfl,hp,ra⟩:=rx;exact c6 R.toHH s hp (D_ (Ao hi ra) hc) q
     .exact q.elim
    .exact q.elim
   |exc c fs=>
    intro q;dsimp only at q;split at q
    .rename_i hi;exact c5 R.toHH q λH2 es h=>Z5 hi h
    .exact q.elim
   |wall=>exact id
  .exact q.elim
def OB(bs:OW)(h:FM X ⟨W,E,fr⟩ S e m)(hS:S.all (·==0)=true:=by rfl):HE X W E e (hF bs m):=λhK=>by obtain⟨te,a1,a2⟩:=h hK;exact⟨te,a1,MH bs a2 hS⟩
def qo(i:Nat):SD:=λU G=>match U[i]? with
 |some (some x)=>.ok x G
 |_=>.wall
def qu(h:PE X e (nC i)):HE X W E e (qo i):=λ_=>⟨_,h,λZ hZ A H Y U G R Q q=>by
 unfold qo at q;split at q
 .rename_i x hx;obtain⟨v,h1,h2⟩:=R.var i x hx;exact⟨v,h1,q A H R.toHH Sn.refl v h2⟩
 .exact q.elim⟩
def WB:TK:=λ_ G=>.ok [] G
def zL(m:SD)(ms:TK):TK:=λU G=>(m U G).bind λx G1=>(ms U G1).bind λxs G2=>.ok (x::xs) G2
def WC:HA X W E [] WB:=λ_=>⟨_,Ub,λZ hZ A H Y U G R Q q=>q A H R.toHH Sn.refl [] rfl⟩
def yQ(h:HE X W E e m1)(hr:HA X W E es ms)(hs:starEach (e::es) X.env=(false,eval e X.env)::starEach es X.env:=by rfl):HA X W E (e::es) (zL m1 ms):=λhK=>by obtain⟨te,a1,a2⟩:=h hK;obtain⟨ta,b1,b2⟩:=hr hK;refine⟨_,ZW a1 b1 hs,λZ hZ A H Y U G R Q q=>a2 Z hZ A H Y U G R _ (SJ.bind q λx A1 H1 G1 h1 g1 q1 v rx=>?_)⟩;refine b2 Z hZ A1 H1 Y U G1 (R.gro h1 g1) _ (SJ.bind q1 λxs A2 H2 G2 h2 g2 q2 vs rs=>?_);exact q2 A2 H2 h2 Sn.refl (v::vs) ⟨v,vs,rfl,rx.gro g2,rs⟩
def Lk(ms:TK):SD:=λU G=>(ms U G).bind λxs G1=>if xs.length<=sizeLine then .ok (.g G1.length) (G1++[.l xs])else .wall
def yd.len{W:RC}{M:OU}{A:O_}{n:Nat}{H:Hp}:∀{xs:List HV}{vs:Pa},yd W M A n H xs vs->vs.length=xs.length
 |[],_,h=>by cases(show _=_ from h);rfl
 |x::xs,_,h=>by obtain⟨v,r,rfl,_,h2⟩:=h;rw[v0,v0,yd.len h2]
def Hg(h:HA X W E es ms):HE X W E (.List es pos) (Lk ms):=λhK=>by
 obtain⟨ta,a1,a2⟩:=h hK;refine⟨_,BF a1,λZ hZ A H Y U G R Q q=>a2 Z hZ A H Y U G R _ (SJ.bind q λxs A1 H1 G1 h1 g1 q1 vs rs=>?_)⟩;split at q1
 .rename_i hl;refine⟨by rw[rs.len];exact hl,λp hp=>?_⟩;have s:zH H1 (upd H1 p (.lst vs)):=zH.upd hp;exact c6 (c:=.l xs) h1 s hp ⟨vs,zh,rs.gro (Sn.ext s hp)⟩ q1
 .exact q1.elim
def sR:List HV->Option (List PV)
 |[]=>some []
 |.v x::xs=>(sR xs).map (x::·)
 |_::_=>none
def mkT(xs:List HV):HV:=match sR xs with
 |some ys=>.v (.t ys)
 |none=>.t xs
def XT{W:RC}{M:OU}{A:O_}{n:Nat}{H:Hp}:∀{xs:List HV}{ys:Pe}{vs:Pa},sR xs=some ys->yd W M A n H xs vs->yq W M H ys vs
 |[],_,_,e,h=>by cases e;exact h
 |.v x::xs,ys,_,e,h=>by unfold sR at e;obtain⟨zs,e1,rfl⟩:=v4.mp e;obtain⟨v,r,rfl,h1,h2⟩:=h;exact⟨v,r,rfl,h1,XT e1 h2⟩
 |.g _::_,_,_,e,_=>by cases e
 |.t _::_,_,_,e,_=>by cases e
def NI(ms:TK):SD:=λU G=>(ms U G).bind λxs G1=>if xs.length<=sizeLine then .ok (mkT xs) G1 else .wall
def Hh{x1}(h:HA X W E es ms):HE X W E (.Tuple es x1 pos) (NI ms):=λhK=>by
 obtain⟨ta,a1,a2⟩:=h hK;refine⟨_,bN a1,λZ hZ A H Y U G R Q q=>a2 Z hZ A H Y U G R _ (SJ.bind q λxs A1 H1 G1 h1 g1 q1 vs rs=>?_)⟩;split at q1
 .rename_i hl;refine⟨by rw[rs.len];exact hl,λp hp=>?_⟩;have s:zH H1 (upd H1 p (.tup vs)):=zH.upd hp;refine q1 A1 _ (h1.keep s) (Sn.same s) _ ?_;have rs':=rs.gro (Sn.same (Z:=Z) (A:=A1) (n:=G1.length) s);unfold mkT;split
  .rename_i ys hy;exact⟨p,vs,rfl,.inl (.inl zh),XT hy rs'⟩
  .exact⟨p,vs,rfl,.inl (.inl zh),rs'⟩
 .exact q1.elim
def hAnd(t u:Υ):Υ:=λU G=>(t U G).bind λc G1=>if c=true then u U G1 else .ok false G1
def Ca(t:Υ):Υ:=λU G=>(t U G).bind λc G1=>.ok (!c) G1
def HTW.tm(h:HTW X W E e t1):HT X W E e t1:=λhK=>let⟨tt,a1,a2⟩:=h hK;⟨tt,a1.pt,a2⟩
def Ea(h:HT X W E a t1):HTW X W E (.BoolOp .And [a] pos) t1:=λhK=>let⟨tt,a1,a2⟩:=h hK;⟨tt,ε a1,a2⟩
variable {rest:OX}
def Hi(h:HT X W E a t1)(h2:HTW X W E (.BoolOp .And (b::rest) pos) t2):HTW X W E (.BoolOp .And (a::b::rest) pos) (hAnd t1 t2):=λhK=>by
 obtain⟨tt,a1,a2⟩:=h hK;obtain⟨tu,b1,b2⟩:=h2 hK;refine⟨_,Η a1 b1,λZ hZ A H Y U G R Q q=>a2 Z hZ A H Y U G R _ (SJ.bind q λc A1 H1 G1 h1 g1 q1=>?_)⟩;cases c with
 |true=>show(if true=true then tu Y H1 Q else Q false H1);rw[if_pos rfl];exact b2 Z hZ A1 H1 Y U G1 (R.gro h1 g1) _ q1
 |false=>show(if false=true then tu Y H1 Q else Q false H1);rw[if_neg P5];exact q1 A1 H1 h1 Sn.refl
def Hj(h:HT X W E a t1):HT X W E (.UnaryOp .Not a pos) (Ca t1):=λhK=>by obtain⟨tt,a1,a2⟩:=h hK;exact⟨_,Bx a1,λZ hZ A H Y U G R Q q=>a2 Z hZ A H Y U G R _ (SJ.bind q λc A1 H1 G1 h1 g1 q1=>q1 A1 H1 h1 Sn.refl)⟩
def Cb(m:SD):Υ:=λU G=>(m U G).bind λx G1=>match x with
 |.v (.b c)=>.ok c G1
 |_=>.wall
def Hk(h:HE X W E e m1)(he:∀whole,isTrue e X.env whole=(do let v<-whole;standAt e.pos;holding [v] (truthy v)):=by intro _;rfl):HT X W E e (Cb m1):=λhK=>by
 obtain⟨te,a1,a2⟩:=h hK;refine⟨_,Bw a1 he,λZ hZ A H Y U G R Q q=>a2 Z hZ A H Y U G R _ (SJ.bind q λx A1 H1 G1 h1 g1 q1 v rx=>?_)⟩;split at q1
 .rename_i c;exact⟨c,(show v=.bl c from rx),q1 A1 H1 h1 Sn.refl⟩
 .exact q1.elim
end
section
variable {W:RC}{M:OU}{A:O_}{n:Nat}{H:Hp}
def yd.get:∀{xs:List HV}{vs:Pa}{i:Nat}{x:HV},yd W M A n H xs vs->xs[i]?=some x->∃v,vs[i]?=some v/\ZK W M A n H x v
 |[],_,_,_,_,e=>by simp at e
 |x::xs,_,0,y,h,e=>by obtain⟨v,r,rfl,h1,h2⟩:=h;simp at e;subst e;exact⟨v,rfl,h1⟩
 |x::xs,_,i+1,y,h,e=>by obtain⟨v,r,rfl,h1,h2⟩:=h;simp only[List.getElem?_cons_succ]at e ⊢;exact yd.get h2 e
def yd.at(h:yd W M A n H xs vs)(e:SV xs i=some x):∃v,SV vs i=some v/\ZK W M A n H x v:=by
 unfold SV at e ⊢;rw[h.len];cases q:ixN xs.length i with
 |none=>rw[q]at e;cases e
 |some j=>rw[q]at e;exact h.get e
def yd.append:∀{xs ys:List HV}{vs us:Pa},yd W M A n H xs vs->yd W M A n H ys us->yd W M A n H (xs++ys) (vs++us)
 |[],_,_,_,h,k=>by cases(show _=_ from h);exact k
 |x::xs,_,_,_,h,k=>by obtain⟨v,r,rfl,h1,h2⟩:=h;exact⟨v,_,rfl,h1,yd.append h2 k⟩
variable {κ:Type}[DecidableEq κ] {R:HV->V->Prop}
def qx.len:∀{kvs:List (κ×HV)}{es:List (κ×V)},qx R kvs es->es.length=kvs.length
 |[],_,h=>by cases(show _=_ from h);rfl
 |_::_,_,⟨v,q,e,h1,h2⟩=>by subst e;rw[v0,v0,qx.len h2]
def qx.get:∀{kvs:List (κ×HV)}{es:List (κ×V)}{k:κ}{x:HV},qx R kvs es->zM kvs k=some x->∃v,aM es k=some v/\R x v
 |[],_,_,_,_,e=>by cases e
 |kx::r,_,k,x,h,e=>by
  obtain⟨v,q,rfl,h1,h2⟩:=h;unfold zM at e;rw[a1a]at e;by_cases c:kx.1=k
  .rw[O9 c]at e;cases e;exact⟨v,XH c,h1⟩
  .rw[O8 c]at e;obtain⟨u,hu,ru⟩:=qx.get h2 e;exact⟨u,by rw[XI c];exact hu,ru⟩
def qx.lookup:∀{kvs:List (Str×HV)}{es:Pp}{f:Str}{x:HV},qx R kvs es->kvs.lookup f=some x->∃v,es.lookup f=some v/\R x v
 |[],_,_,_,_,e=>by cases e
 |kx::r,_,f,x,h,e=>by
  obtain⟨v,q,rfl,h1,h2⟩:=h;rw[T4]at e ⊢;cases c:(f==kx.1)with
  |true=>rw[c]at e;cases e;exact⟨v,rfl,h1⟩
  |false=>rw[c]at e;exact qx.lookup h2 e
def qx.put{k:κ}{a:List (κ×HV)}{es:List (κ×V)}(h:qx R a es)(hx:R x v):qx R (dput a k x) (putK es k v):=by
 have key:∀{a:List (κ×HV)}{es:List (κ×V)},qx R a es->a.any (λkv=>decide (kv.1=k))=es.any (λkv=>decide (kv.1=k))/\qx R (a.map λkv=>if kv.1=k then(kv.1,x)else kv) (es.map λkv=>if kv.1=k then(kv.1,v)else kv)/\qx R (a++[(k,x)]) (es++[(k,v)]):=by
  intro a
  induction a with
  |nil=>intro es h;cases(show _=_ from h);exact⟨rfl,rfl,v,[],rfl,hx,rfl⟩
  |cons kx a ih=>
   intro es h;obtain⟨u,q,rfl,h1,h2⟩:=h;obtain⟨i1,i2,i3⟩:=ih h2;refine⟨by rw[π,π,i1],?_,⟨u,_,rfl,h1,i3⟩⟩;rw[O6,O6];by_cases e:kx.1=k
   .rw[if_pos e,if_pos e];exact⟨v,_,rfl,hx,i2⟩
   .rw[if_neg e,if_neg e];exact⟨u,_,rfl,h1,i2⟩
 obtain⟨i1,i2,i3⟩:=key h;unfold dput putK;rw[i1];split
 .exact i2
 .exact i3
end
def ixH(G:AH):HV->HV->Option HV
 |.g k,.v y=>match G[k]? with
  |some (.l xs)=>match y with
   |.i j=>SV xs j
   |_=>none
  |some (.d kvs)=>(pk y).bind λq=>zM kvs q
  |some (.z kvs)=>(pk y).bind λq=>zM kvs q
  |_=>none
 |.t xs,.v (.i j)=>SV xs j
 |.v x,.v y=>match Sg x y with
  |.ok z=>some (.v z)
  |_=>none
 |_,_=>none
def hIx(m1 m2:SD):SD:=λU G=>(m1 U G).bind λx G1=>(m2 U G1).bind λy G2=>match ixH G2 x y with
 |some z=>.ok z G2
 |none=>.wall
def Hl(cs:OS)(f:Str)(m:SD):SD:=λU G=>(m U G).bind λx G1=>match x with
 |.g k=>match G1[k]? with
  |some (.o c fs)=>if c∈cs then match fs.lookup f with
   |some z=>.ok z G1
   |none=>.wall else .wall
  |_=>.wall
 |_=>.wall
def K3(f:List HV->AH->HX HV)(ms:TK):SD:=λU G=>(ms U G).bind λxs G1=>f xs G1
def Ts(W:RC)(n:Nat)(f:List HV->AH->HX HV):Sp:=λvs H Q E=>∃(Z:HC)(A:O_)(G:AH)(xs:List HV),Z.W=W/\xs.length=n/\HH Z A H G/\yd Z.W (HM Z A G.length) A G.length H xs vs/\SJ Z E A G.length H (ϓ Z Q) (f xs G)
def Eb:∀vs H Q E,Ts W n f vs H Q E->vs.length=n:=λvs H Q E ⟨Z,A,G,xs,_,hl,_,r,_⟩=>r.len.trans hl
def MJ(h:HH Z A H G)(rx:ZK Z.W (HM Z A G.length) A G.length H x v)(ry:ZK Z.W (HM Z A G.length) A G.length H y u)(e:ixH G x y=some z)(q:∀H2 v,zH H H2->ZK Z.W (HM Z A G.length) A G.length H2 z v->Q v H2):NF Z.W.K v u H Q:=by
 unfold ixH at e;split at e
 .rename_i k y;obtain⟨hk,rfl⟩:=rx;split at e
  .rename_i xs hc;obtain⟨vs,hp,r⟩:=h.cell k _ hc;split at e
   .obtain⟨w,hw,rw'⟩:=r.at e;exact .inl (.inl ⟨_,vs,_,w,rfl,ry,Sq.of hp,hw,q H w (zH.refl _) rw'⟩)
   .cases e
  .rename_i kvs hc;obtain⟨vs,hp,r⟩:=h.cell k _ hc;obtain⟨j,hj,e⟩:=R4.mp e;obtain⟨w,hw,rw'⟩:=r.get e;exact .inr ⟨_,w,rfl,by rw[Ul (yZ.iff.mpr (show Rep Z.W _ H y u from ry)) hj,<- hw];exact lN.rk (.inl hp),q H w (zH.refl _) rw'⟩
  .rename_i kvs hc;obtain⟨o,vs,hp,r⟩:=h.cell k _ hc;obtain⟨j,hj,e⟩:=R4.mp e;obtain⟨w,hw,rw'⟩:=r.get e;exact .inr ⟨_,w,rfl,by rw[Ul (yZ.iff.mpr (show Rep Z.W _ H y u from ry)) hj,<- hw];exact lN.rk (.inr ⟨o,hp⟩),q H w (zH.refl _) rw'⟩
  .cases e
 .obtain⟨p,vs,rfl,hl,r⟩:=rx;obtain⟨w,hw,rw'⟩:=r.at e;exact .inl (.inr (.inl ⟨p,vs,_,w,rfl,ry,hl,hw,q H w (zH.refl _) rw'⟩))
 .split at e
  .rename_i z' hz;cases e;refine GD (W:=Z.W) (HM Z A G.length) ⟨Z.W,E0,false⟩ (uZ H λ_=>True) H _ _ v u Q h.new (Rep.weak rx) (Rep.weak ry) ?_;rw[hz];exact λw H2 s r=>q H2 w s r
  .cases e
 .cases e
def MK(hu:X.A.units+1<cLine)(h1:HE X W E a m1)(h2:HE X W E b m2)(hs:Ud b:=by intro _ _;rfl):HE X W E (.Subscript a b pos) (hIx m1 m2):=λhK=>by
 obtain⟨ta,a1,a2⟩:=h1 hK;obtain⟨tb,b1,b2⟩:=h2 hK;refine⟨_,Dj (BG.or (iw hu)) a1 b1 hs,λZ hZ A H Y U G R Q q=>a2 Z hZ A H Y U G R _ (SJ.bind q λx A1 H1 G1 h1 g1 q1 v rx=>?_)⟩;refine b2 Z hZ A1 H1 Y U G1 (R.gro h1 g1) _ (SJ.bind q1 λy A2 H2 G2 h2 g2 q2 u ry=>?_);split at q2
 .rename_i z hz;rw[hK,<- hZ];exact MJ h2 (rx.gro g2) ry hz λH3 w s r=>q2 A2 H3 (h2.keep s) (Sn.same s) w r
 .exact q2.elim
def Hm(h:HE X W E e m1)(hc:∀c∈cs,TL X.K (W.cls c)/\ve X.K (W.cls c) fn)(hb:attributeBase e fn X.env (eval e X.env)=eval e X.env:=by rfl):HE X W E (.Attribute e fn pos) (Hl cs fn m1):=λhK=>by
 obtain⟨te,a1,a2⟩:=h hK;refine⟨_,BD a1 hb,λZ hZ A H Y U G R Q q=>a2 Z hZ A H Y U G R _ (SJ.bind q λx A1 H1 G1 h1 g1 q1 v rx=>?_)⟩;subst hZ;split at q1
 .rename_i k;obtain⟨hk,rfl⟩:=rx;split at q1
  .rename_i c fs hG;obtain⟨dx,vs,hp,r⟩:=h1.cell k _ hG;split at q1
   .rename_i hcs;split at q1
    .rename_i z hz;obtain⟨w,hw,rw'⟩:=r.lookup hz;exact⟨_,_,dx,vs,w,rfl,hp,(hc c hcs).1,(hc c hcs).2,hw,q1 A1 H1 h1 Sn.refl w rw'⟩
    .exact q1.elim
   .exact q1.elim
  .exact q1.elim
 .exact q1.elim
def sS(F:yW X.prog X.w X.K X.mg X.base (Sj X.prog X.w) k f fd ps (Ts W n g))(hr:vf k X.A)(hg:Gl X x)(hm:X.mg x=some (.ref f))(hk:keepIn X.K (.ref f)=true)(hb:Binds X.K fd ps [])(hx:Passes (Sj X.prog X.w) X E)(ha:HA X W E (e::es) ms)(hn:∀U G xs G',ms U G=.ok xs G'->xs.length=n)(hdb:Rn x:=by decide)(he:starEach (e::es) X.env=(false,eval e X.env)::starEach es X.env:=by rfl)(hpl:(backTo pos (starEach es X.env)).any (·.1)=false:=by rfl):HE X W E (.Call (.Name x p) (e::es) [] pos) (K3 g ms):=λhK=>by
 obtain⟨ta,a1,a2⟩:=ha hK;refine⟨_,g9 F hr hg hm hk hb .nil hx a1 hdb he hpl,λZ hZ A H Y U G R Q q=>a2 Z hZ A H Y U G R _ ?_⟩;unfold K3 at q;revert q;cases hq:ms U G with
 |wall=>exact id
 |exc c fs G'=>exact id
 |ok xs G'=>intro q A1 H1 h1 g1 vs rs;rw[P7];exact⟨Z,A1,G',xs,hZ,hn _ _ _ _ hq,h1,rs,SJ.gro (o:=g xs G') q g1⟩
def mw:∀U G xs G',WB U G=.ok xs G'->xs.length=0:=λU G xs G' e=>by cases e;rfl
def kU(h:∀U G xs G',ms U G=.ok xs G'->xs.length=n):∀U G xs G',zL m ms U G=.ok xs G'->xs.length=n+1:=λU G xs G' e=>by
 unfold zL at e;cases h1:m U G with
 |wall=>rw[h1]at e;cases e
 |exc c fs G1=>rw[h1]at e;cases e
 |ok x G1=>
  rw[h1]at e;have e:(ms U G1).bind (λxs G2=>.ok (x::xs) G2)=.ok xs G':=e;cases h2:ms U G1 with
  |wall=>rw[h2]at e;cases e
  |exc c fs G1=>rw[h2]at e;cases e
  |ok ys G2=>rw[h2]at e;cases e;rw[v0,h _ _ _ _ h2]
inductive Ti where
 |nx (U:ZJ) (G:AH)|rt (x:HV) (G:AH)|bk (U:ZJ) (G:AH)|ct (U:ZJ) (G:AH)|exc (c:Nat) (fs:Pj) (G:AH)|wall
abbrev Su:=ZJ->AH->Ti
def Sz(Z:HC)(E:XK)(A:O_)(n:Nat)(H:Hp)(D:Ends):Ti->Prop
 |.nx U' G'=>∀A' H' Y',HR Z A' H' Y' U' G'->Sn Z A n H A' G'.length H'->D.nx Y' H'
 |.rt x G'=>∀A' H' v,HH Z A' H' G'->Sn Z A n H A' G'.length H'->ZK Z.W (HM Z A' G'.length) A' G'.length H' x v->D.rt v H'
 |.bk U' G'=>∀A' H' Y',HR Z A' H' Y' U' G'->Sn Z A n H A' G'.length H'->D.bk Y' H'
 |.ct U' G'=>∀A' H' Y',HR Z A' H' Y' U' G'->Sn Z A n H A' G'.length H'->D.ct Y' H'
 |.exc c fs G'=>Aj Z E A n H c fs G'
 |.wall=>False
def HX.fw{α:Type}:HX α->(α->AH->Ti)->Ti
 |.ok a G,f=>f a G
 |.exc c fs G,_=>.exc c fs G
 |.wall,_=>.wall
def Ϸ(W:RC)(E:XK)(ts:TS)(m:Su):Prop:=∀(Z:HC),Z.W=W->∀A H Y U G,HR Z A H Y U G->∀D,Sz Z E A G.length H D (m U G)->ts D Y H
def HS(X:Cx)(W:RC)(E:XK)(st:PB)(m:Su):Prop:=X.K=W.K->∃ts,PS X st ts/\Ϸ W E ts m
def Τ(X:Cx)(W:RC)(E:XK)(st:Pt)(m:Su):Prop:=X.K=W.K->∃ts,TR X st ts/\Ϸ W E ts m
section
variable {α:Type}{K':α->(Nat->Addr)->Hp->AH->Prop}
def Sz.gro(h:Sz Z E A n H D o)(g:Sn Z A n H A' n' H'):Sz Z E A' n' H' D o:=by
 cases o with
 |nx U G=>exact λA2 H2 σ2 r g2=>h A2 H2 σ2 r (g.trans g2)
 |rt x G=>exact λA2 H2 v r g2=>h A2 H2 v r (g.trans g2)
 |bk U G=>exact λA2 H2 σ2 r g2=>h A2 H2 σ2 r (g.trans g2)
 |ct U G=>exact λA2 H2 σ2 r g2=>h A2 H2 σ2 r (g.trans g2)
 |exc c fs G=>exact Aj.gro h g
 |wall=>exact h
def Sz.bind{o:HX α}{f:α->AH->Ti}(h:Sz Z E A n H D (o.fw f))(k:∀x A' H' G',HH Z A' H' G'->Sn Z A n H A' G'.length H'->Sz Z E A' G'.length H' D (f x G')->K' x A' H' G'):SJ Z E A n H K' o:=by
 cases o with
 |ok x G'=>exact λA2 H2 h2 g2=>k x A2 H2 G' h2 g2 (Sz.gro (o:=f x G') h g2)
 |exc c fs G'=>exact h
 |wall=>exact h
end
def kK:Su:=λU G=>.nx U G
def yF(a b:Su):Su:=λU G=>match a U G with
 |.nx U' G'=>b U' G'
 |.rt x G'=>.rt x G'
 |.bk U' G'=>.bk U' G'
 |.ct U' G'=>.ct U' G'
 |.exc c fs G'=>.exc c fs G'
 |.wall=>.wall
def qF(i:Nat)(m:SD):Su:=λU G=>(m U G).fw λx G1=>.nx (U.set i (some x)) G1
def sT(m:SD):Su:=λU G=>(m U G).fw λ_ G1=>.nx U G1
def Q6(m:SD):Su:=λU G=>(m U G).fw λx G1=>.rt x G1
def TX(t:Υ)(a b:Su):Su:=λU G=>(t U G).fw λc G1=>if c=true then a U G1 else b U G1
section
variable {X:Cx}{W:RC}{E:XK}{e a b o:Pc}{es:OX}{pos p pos' jW:Pos}{m m1 m2:SD}{ms:TK}{t1:Υ}{s1 s2:Su}{x:Str}{st:PB}{sts stt:Pt}{i:Nat}
def vA:Τ X W E [] kK:=λ_=>⟨_,o7,λZ hZ A H Y U G R D q=>q A H Y R Sn.refl⟩
def Hn(h1:Ϸ W E t s1)(h2:Ϸ W E u s2):Ϸ W E (LH t u) (yF s1 s2):=λZ hZ A H Y U G R D q=>by
 refine h1 Z hZ A H Y U G R _ ?_;unfold yF at q;revert q;cases s1 U G with
 |nx U' G'=>exact λq A' H' Y' R' g=>h2 Z hZ A' H' Y' U' G' R' D (Sz.gro (o:=s2 U' G') q g)
 |rt x G'=>exact id
 |bk U' G'=>exact id
 |ct U' G'=>exact id
 |exc c fs G'=>exact id
 |wall=>exact id
def zu(h1:HS X W E st s1)(h2:Τ X W E sts s2):Τ X W E (st::sts) (yF s1 s2):=λhK=>by obtain⟨t,a1,a2⟩:=h1 hK;obtain⟨u,b1,b2⟩:=h2 hK;exact⟨_,XG a1 b1,Hn a2 b2⟩
def yz(h1:HS X W E st s1):Τ X W E [st] s1:=λhK=>by obtain⟨t,a1,a2⟩:=h1 hK;exact⟨_,kQ a1,a2⟩
def mx(a2:∀(Z:HC),Z.W=W->∀A H Y U G,HR Z A H Y U G->∀Q,SJ Z E A G.length H (ϓ Z Q) (m U G)->te Y H Q):Ϸ W E (Fq te (g7 i)) (qF i m):=λZ hZ A H Y U G R D q=>
 a2 Z hZ A H Y U G R _ (Sz.bind q λx A1 H1 G1 h1 g1 q1 v rx=>q1 A1 H1 _ ((R.gro h1 g1).set rx) Sn.refl)
def Ho(hN:X.N.Nodup)(hi:X.N[i]?=some x)(hx:Loc X.env.scope x)(h:HE X W E e m)(hs:Ro X e x pos' pos:=by rfl)(hf:Rm X x:=by first|exact .inl rfl|exact .inr rfl|assumption):
  HS X W E (.Assign [.Name x pos'] e pos) (qF i m):=λhK=>by
 obtain⟨te,a1,a2⟩:=h hK;exact⟨_,o_ hN hi hx a1 hs hf,mx a2⟩
def sU(h:HE X W E e m)(hs:swapsWith e none pos.line X.env=pure false:=by rfl):HS X W E (.Expr e pos) (sT m):=λhK=>by obtain⟨te,a1,a2⟩:=h hK;exact⟨_,J3 a1 hs,λZ hZ A H Y U G R D q=>a2 Z hZ A H Y U G R _ (Sz.bind q λx A1 H1 G1 h1 g1 q1 v rx=>q1 A1 H1 Y (R.gro h1 g1) Sn.refl)⟩
def vB(h:HE X W E e m):HS X W E (.Return (some e) pos) (Q6 m):=λhK=>by obtain⟨te,a1,a2⟩:=h hK;exact⟨_,lF a1,λZ hZ A H Y U G R D q=>a2 Z hZ A H Y U G R _ (Sz.bind q λx A1 H1 G1 h1 g1 q1 v rx=>q1 A1 H1 v h1 Sn.refl rx)⟩
def Uy(h:HT X W E c t1)(h1:Τ X W E sts s1)(h2:Τ X W E stt s2):HS X W E (.If c sts stt pos) (TX t1 s1 s2):=λhK=>by
 obtain⟨tt,a1,a2⟩:=h hK;obtain⟨t,b1,b2⟩:=h1 hK;obtain⟨u,c1,c2⟩:=h2 hK;refine⟨_,FP a1 b1 c1,λZ hZ A H Y U G R D q=>a2 Z hZ A H Y U G R _ (Sz.bind q λk A1 H1 G1 h1 g1 q1=>?_)⟩;cases k with
 |true=>show(if true=true then t D Y H1 else u D Y H1);rw[if_pos rfl];exact b2 Z hZ A1 H1 Y U G1 (R.gro h1 g1) D q1
 |false=>show(if false=true then t D Y H1 else u D Y H1);rw[if_neg P5];exact c2 Z hZ A1 H1 Y U G1 (R.gro h1 g1) D q1
def Hq(mo ma:SD):Su:=λU G=>(mo U G).fw λx G1=>match x with
 |.g k=>match G1[k]? with
  |some (.l _)=>(ma U G1).fw λy G2=>match G2[k]? with
   |some (.l xs)=>if xs.length<sizeLine then .nx U (G2.set k (.l (xs++[y])))else .wall
   |_=>.wall
  |_=>.wall
 |_=>.wall
def Hr{Z:HC}{A:O_}{H:Hp}{G:AH}{Y:St}{U:ZJ}{D:Ends}{k:Nat}{c:Cell}{o o0:HO}(R:HR Z A H Y U G)(hk:k<G.length)(h0:H (A k)=some o0)(n0:¬Ρ o0)(hc:iG Z.W (HM Z A G.length) A G.length (upd H (A k) o) (A k) c)(q:Sz Z E A G.length H D (.nx U (G.set k c))):D.nx Y (upd H (A k) o):=by
 have g:Sn Z A G.length H A (G.set k c).length (upd H (A k) o):=by rw[τ];exact R.toHH.frw hk h0 n0
 exact q A _ Y (R.gro (R.toHH.write hk h0 n0 hc) g) g
def sV(ho:HE X W E o m1)(h:HE X W E e m2)(Wv:attributeBase o "append" X.env (eval o X.env)=eval o X.env:=by rfl)(Bu:((backTo p (starEach [e] X.env)).all (λx=>!x.1)&&(backToKw p (keywordEach [] X.env)).all (λx=>x.1.isSome)&&decide ([e].length+([]:List Keyword).length+(if([]:List Keyword).isEmpty then 0 else 1)<30))=true:=by rfl)(Wu:(jW.endLine==p.line)=true:=by rfl)(hs:starEach [e] X.env=[(false,eval e X.env)]:=by rfl)(hsw:swapsWith (.Call (.Attribute o "append" jW) [e] [] p) none pos.line X.env=pure false:=by rfl):
  HS X W E (.Expr (.Call (.Attribute o "append" jW) [e] [] p) pos) (Hq m1 m2):=λhK=>by
 obtain⟨to,o1,o2⟩:=ho hK;obtain⟨te,a1,a2⟩:=h hK;refine⟨_,J3 (xn a0N a2j a2k Ug o1 (ZW a1 Ub hs) Wv Bu Wu hs rfl) hsw,λZ hZ A H Y U G R D q=>o2 Z hZ A H Y U G R _ (Sz.bind q λx A1 H1 G1 h1 g1 q1 v rx=>?_)⟩;split at q1
 .rename_i k;obtain⟨hk,rfl⟩:=rx;split at q1
  .rename_i xs0 hc0;obtain⟨vs0,hp0,_⟩:=h1.cell k _ hc0;have R1:=R.gro h1 g1;refine⟨.inl ⟨rfl,_,Sq.of hp0⟩,a2 Z hZ A1 H1 Y U G1 R1 _ (Sz.bind q1 λy A2 H2 G2 h2 g2 q2 u ry=>?_)⟩;split at q2
   .rename_i xs hc;split at q2
    .rename_i hl;obtain⟨vs,hp,r⟩:=h2.cell k _ hc;have hk2:k<G2.length:=P4 hk g2.le;rw[<- g2.agr k hk];have g3:=h2.frw (o:=.lst (vs++[u])) hk2 hp id;have one:yd Z.W (HM Z A2 G2.length) A2 G2.length H2 [y] [u]:=⟨u,[],rfl,ry,rfl⟩;exact⟨_,vs,u,rfl,rfl,hp,by rw[r.len];exact hl,Hr (c:=.l (xs++[y])) (R1.gro h2 g2) hk2 hp id ⟨_,zh,(r.append one).gro g3⟩ q2⟩
    .exact q2.elim
   .exact q2.elim
  .exact q1.elim
 .exact q1.elim
def Cc(mo:SD):Su:=λU G=>(mo U G).fw λx G1=>match x with
 |.g k=>match G1[k]? with
  |some (.l _)=>.nx U (G1.set k (.l []))
  |_=>.wall
 |_=>.wall
def Ap(ho:HE X W E o m1)(Wv:attributeBase o "clear" X.env (eval o X.env)=eval o X.env:=by rfl)(Wu:(jW.endLine==p.line)=true:=by rfl)(hsw:swapsWith (.Call (.Attribute o "clear" jW) [] [] p) none pos.line X.env=pure false:=by rfl):
  HS X W E (.Expr (.Call (.Attribute o "clear" jW) [] [] p) pos) (Cc m1):=λhK=>by
 obtain⟨to,o1,o2⟩:=ho hK;refine⟨_,J3 (F6 a0N PySem.F.slot_list_clear PySem.F.type_list_clear xo o1 Wv Wu) hsw,λZ hZ A H Y U G R D q=>o2 Z hZ A H Y U G R _ (Sz.bind q λx A1 H1 G1 h1 g1 q1 v rx=>?_)⟩;split at q1
 .rename_i k;obtain⟨hk,rfl⟩:=rx;split at q1
  .rename_i xs hc;obtain⟨vs,hp,r⟩:=h1.cell k _ hc;exact⟨.inl ⟨rfl,_,Sq.of hp⟩,_,vs,rfl,rfl,hp,Hr (c:=.l []) (R.gro h1 g1) hk hp id ⟨[],zh,rfl⟩ q1⟩
  .exact q1.elim
 .exact q1.elim
def Hs(mo mk mv:SD):Su:=λU G=>(mv U G).fw λy G1=>(mo U G1).fw λx G2=>(mk U G2).fw λz G3=>match x,z with
 |.g k,.v z=>match G3[k]?,pk z with
  |some (.d kvs),some q=>if kvs.length<sizeLine then .nx U (G3.set k (.d (dput kvs q y)))else .wall
  |_,_=>.wall
 |_,_=>.wall
def Hu(hu:X.A.units+1<cLine)(ho:HE X W E o m)(hk:HE X W E a m1)(hv:HE X W E e m2)(hs:swapsWith e (some (.Subscript o a pos')) pos.line X.env=pure false:=by rfl):
  HS X W E (.Assign [.Subscript o a pos'] e pos) (Hs m m1 m2):=λhK=>by
 obtain⟨to,o1,o2⟩:=ho hK;obtain⟨ta,a1,a2⟩:=hk hK;obtain⟨tv,b1,b2⟩:=hv hK;refine⟨_,ib hu o1 a1 b1 hs,λZ hZ A H Y U G R D q=>b2 Z hZ A H Y U G R _ (Sz.bind q λy A1 H1 G1 h1 g1 q1 v ry=>?_)⟩;have R1:=R.gro h1 g1;refine o2 Z hZ A1 H1 Y U G1 R1 _ (Sz.bind q1 λx A2 H2 G2 h2 g2 q2 w rx=>?_);have R2:=R1.gro h2 g2;refine a2 Z hZ A2 H2 Y U G2 R2 _ (Sz.bind q2 λz A3 H3 G3 h3 g3 q3 u rz=>?_);split at q3
 .rename_i k z;obtain⟨hk,rfl⟩:=rx;split at q3
  .rename_i kvs q hc hq;split at q3
   .rename_i hl;obtain⟨es,hp,r⟩:=h3.cell k _ hc;have hk3:k<G3.length:=P4 hk g3.le;have g4:=h3.frw (o:=.dK (putK es q v)) hk3 hp id;rw[<- g3.agr k hk];refine⟨_,_,rfl,by rw[Ul (yZ.iff.mpr (show Rep Z.W _ H3 z u from rz)) hq];exact xp.k hp (by rw[r.len];exact hl),Hr (c:=.d (dput kvs q y)) (R2.gro h3 g3) hk3 hp id ⟨_,zh,?_⟩ q3⟩;exact(r.put ((ry.gro g2).gro g3)).imp λ_ _ h=>h.gro g4
   .exact q3.elim
  .exact q3.elim
 .exact q3.elim
end
abbrev Tz:=HV->ZJ->Option ZJ
def HG(X:Cx)(W:RC)(tg:Pc)(mg:Tz):Prop:=X.K=W.K->∃g,PG X tg g/\∀(Z:HC),Z.W=W->∀A H Y U G x v,HR Z A H Y U G->ZK Z.W (HM Z A G.length) A G.length H x v->∀Q:St->Hp->Prop,(∃U',mg x U=some U'/\∀Y',HR Z A H Y' U' G->Q Y' H)->g v Y H Q
abbrev Fy:=List HV->ZJ->Option ZJ
def HGs(X:Cx)(W:RC)(tgs:OX)(mg:Fy):Prop:=X.K=W.K->∃g,PGs X tgs g/\∀(Z:HC),Z.W=W->∀A H Y U G xs vs,HR Z A H Y U G->yd Z.W (HM Z A G.length) A G.length H xs vs->∀Q:St->Hp->Prop,(∃U',mg xs U=some U'/\∀Y',HR Z A H Y' U' G->Q Y' H)->g vs Y H Q
def χ(i:Nat):Tz:=λx U=>some (U.set i (some x))
def om:Fy:=λxs U=>match xs with
 |[]=>some U
 |_=>none
def Y_(g:Tz)(gs:Fy):Fy:=λxs U=>match xs with
 |x::r=>(g x U).bind λU'=>gs r U'
 |[]=>none
def hgT(n:Nat)(gs:Fy):Tz:=λx U=>match x with
 |.t xs=>if xs.length=n then gs xs U else none
 |.v (.t xs)=>if xs.length=n then gs (xs.map .v) U else none
 |_=>none
section
variable {X:Cx}{W:RC}{E:XK}{i:Nat}{x:Str}{pos:Pos}{e:Pc}{es:OX}{g:Tz}{gs:Fy}
def Kc(hN:X.N.Nodup)(hi:X.N[i]?=some x)(hx:Loc X.env.scope x)(hf:Rm X x:=by first|exact .inl rfl|exact .inr rfl|assumption):HG X W (.Name x pos) (χ i):=
 λ_=>⟨_,o8 hN hi hx hf,λZ hZ A H Y U G x v R r Q ⟨U',e,k⟩=>by cases e;exact k _ (R.set r)⟩
def Ec:HGs X W [] om:=λ_=>⟨_,o9,λZ hZ A H Y U G xs vs R r Q ⟨U',e,k⟩=>by
 cases xs with
 |nil=>cases e;cases(show _=_ from r);exact⟨rfl,k _ R⟩
 |cons x xs=>cases e⟩
def my(h1:HG X W e g)(h2:HGs X W es gs)(hs:(assignEach (e::es) X.env).map (·.2)=assign e X.env::(assignEach es X.env).map (·.2):=by rfl):HGs X W (e::es) (Y_ g gs):=λhK=>by
 obtain⟨t,a1,a2⟩:=h1 hK;obtain⟨u,b1,b2⟩:=h2 hK;refine⟨_,lG a1 b1 hs,λZ hZ A H Y U G xs vs R r Q ⟨U',e,k⟩=>?_⟩;cases xs with
 |nil=>cases e
 |cons x xs=>
  obtain⟨v,vr,rfl,rx,rr⟩:=r;have e:(g x U).bind (λU'=>gs xs U')=some U':=e;cases hg:g x U with
  |none=>rw[hg]at e;cases e
  |some ρ1=>rw[hg]at e;exact⟨v,vr,rfl,a2 Z hZ A H Y U G x v R rx _ ⟨ρ1,hg,λY' R'=>b2 Z hZ A H Y' ρ1 G xs vr R' rr Q ⟨U',e,k⟩⟩⟩
def Hv(hc:X.calm=true)(h:HGs X W es gs)(hn:(assignEach es X.env).length=n:=by rfl)(hst:(assignEach es X.env).findIdx? (·.1)=none:=by rfl):HG X W (.Tuple es k pos) (hgT n gs):=λhK=>by
 obtain⟨t,a1,a2⟩:=h hK;refine⟨_,By hc a1 hn hst,λZ hZ A H Y U G x v R r Q ⟨U',e,k⟩=>?_⟩;unfold hgT at e;split at e
 .obtain⟨p,vs,rfl,hp,rr⟩:=r;split at e
  .rename_i hl;exact⟨p,vs,rfl,by rw[hK,<- hZ];exact hp,by rw[rr.len];exact hl,a2 Z hZ A H Y U G _ vs R rr Q ⟨U',e,k⟩⟩
  .cases e
 .obtain⟨p,vs,rfl,hp,rr⟩:=r;split at e
  .rename_i hl;exact⟨p,vs,rfl,by rw[hK,<- hZ];exact hp,by rw[rr.len];exact hl,a2 Z hZ A H Y U G _ vs R (D9 rr) Q ⟨U',e,k⟩⟩
  .cases e
 .cases e
def Ed(g:Tz)(m:SD):Su:=λU G=>(m U G).fw λx G1=>match g x U with
 |some U'=>.nx U' G1
 |none=>.wall
def Hw(h:HE X W E e m)(hg:HG X W tg g)(hs:swapsWithSole [tg] e pos.line X.env=pure false:=by rfl)(hw:swappedStores [tg] e X.env=pure none:=by rfl)(h1:(assignEach [tg] X.env).map (·.2)=[assign tg X.env]:=by rfl):HS X W E (.Assign [tg] e pos) (Ed g m):=λhK=>by
 obtain⟨te,a1,a2⟩:=h hK;obtain⟨t,b1,b2⟩:=hg hK;refine⟨_,Bz a1 b1 hs hw h1,λZ hZ A H Y U G R D q=>a2 Z hZ A H Y U G R _ (Sz.bind q λx A1 H1 G1 h1 g1 q1 v rx=>?_)⟩;split at q1
 .rename_i U' hρ;exact b2 Z hZ A1 H1 Y U G1 x v (R.gro h1 g1) rx _ ⟨U',hρ,λY' R'=>q1 A1 H1 Y' R' Sn.refl⟩
 .exact q1.elim
end
def bV(g:Tz)(b:Su):List HV->ZJ->AH->Ti
 |[],U,G=>.nx U G
 |x::xs,U,G=>match g x U with
  |none=>.wall
  |some ρ1=>match b ρ1 G with
   |.nx ρ2 G2=>bV g b xs ρ2 G2
   |.ct ρ2 G2=>bV g b xs ρ2 G2
   |.bk ρ2 G2=>.nx ρ2 G2
   |.rt v G2=>.rt v G2
   |.exc c fs G2=>.exc c fs G2
   |.wall=>.wall
def isZ:Cell->Bool
 |.z _=>true
 |_=>false
def Aq(A:O_)(G:AH)(a:Addr):Prop:=∃k c,G[k]?=some c/\isZ c=false/\A k=a
section
variable {X:Cx}{W:RC}{E:XK}{Z:HC}{A A':O_}{H H':Hp}{G G':AH}{Y:St}{U:ZJ}{D:Ends}
def iG.live{M:OU}{n:Nat}{p:Addr}:∀{c:Cell},iG W M A n H p c->isZ c=false->∃o,H p=Option.some o/\¬Ρ o
 |.l _,⟨_,e,_⟩,_=>⟨_,e,id⟩
 |.d _,⟨_,e,_⟩,_=>⟨_,e,id⟩
 |.z _,_,h=>by cases h
 |.o _ _,⟨_,_,e,_⟩,_=>⟨_,e,id⟩
def iG.zed{M:OU}{n:Nat}{p:Addr}:∀{c:Cell},iG W M A n H p c->isZ c=true->∃o,H p=Option.some o/\Ρ o
 |.l _,_,h=>by cases h
 |.d _,_,h=>by cases h
 |.z _,⟨_,_,e,_⟩,_=>⟨_,e,trivial⟩
 |.o _ _,_,h=>by cases h
def Sn.rest(h:HH Z A H G)(h':HH Z A' H' G')(g:Sn Z A G.length H A' G'.length H'):Fr (λa=>¬Aq A G a) H H':=λa o e m=>by
 rcases m with m|m
 .by_cases hc:∃k,k<G.length/\A k=a
  .obtain⟨k,hk,rfl⟩:=hc;have hq:=P1 hk;have hz:isZ G[k]=true:=by
    cases z:isZ G[k]with
    |true=>rfl
    |false=>exact absurd ⟨k,_,hq,z,rfl⟩ m
   obtain⟨o',e',i⟩:=(h.cell k _ hq).zed hz;rw[e']at e;cases e;exact g.fr _ _ e' (.inr i)
  .cases q:Z.H0 a with
   |none=>exact g.fr a o e (.inl ⟨.inr q,λk hk z=>hc ⟨k,hk,z⟩⟩)
   |some u=>have:=h.same a u q;rw[e]at this;cases this;exact h'.same a _ q
 .exact g.fr a o e (.inr m)
open Classical in
def bsH(Z:HC)(A:O_)(H:Hp)(G:AH):Bs:=⟨λa=>if Aq A G a then none else H a,HM Z A G.length,λ_=>False,λ_ h=>h.elim,none,Aq A G⟩
def ML(R:HR Z A H Y U G)(e:KZ bs U=some r)(hS:S.all (·==0)=true):Rel Z.W (bsH Z A H G) S (λ_=>0) H Y r:=by
 have n2:∀{k:Nat},S[k]?=some 2->False:=λ{k} h=>by have:=Hc hS h;omega
 have n1:∀{k:Nat},S[k]?=some 1->False:=λ{k} h=>by have:=Hc hS h;omega
 refine⟨λa o h=>?_,R.len.trans (K2 e).symm,λi x hx=>?_,λi hi=>(n2 hi).elim,λi j hi=>(n2 hi).elim,λhi=>(n2 hi).elim,λa h=>?_,λi hi=>(n2 hi).elim⟩
 .unfold bsH at h;dsimp only at h;split at h
  .cases h
  .exact h
 .obtain⟨v,h1,h2⟩:=R.var i _ (K1 e hx);refine⟨v,h1,λz=>(n2 z).elim,λz=>(n1 z).elim,λ_ _=>(show Rep Z.W _ H x v from h2).sub λa m _=>⟨⟨.inl m,λ⟨k,c,hk,_,ea⟩=>m.2 k (P8.mp hk).1 ea⟩,λi hi=>(n2 hi).elim⟩⟩
 .obtain⟨k,c,hk,hz,rfl⟩:=h;obtain⟨o,ho,ni⟩:=(R.toHH.cell k c hk).live hz;exact⟨o,ho,ni,by unfold bsH;dsimp only;rw[if_pos ⟨k,c,hk,hz,rfl⟩]⟩
def Ar(hZ:Z.W=W)(hi:∀R:It->Hp->Prop,(∀J H2,zH H H2->DT Z.W (HM Z A G.length) (λa=>¬Aq A G a) H2 J xs->R J H2)->wi Y H R)(hg:∀(Z:HC),Z.W=W->∀A H Y U G x v,HR Z A H Y U G->ZK Z.W (HM Z A G.length) A G.length H x v->∀Q:St->Hp->Prop,(∃U',mg x U=some U'/\∀Y',HR Z A H Y' U' G->Q Y' H)->g v Y H Q)(hb:Ϸ W E tb mb)(R:HR Z A H Y U G)(q:Sz Z E A G.length H D (bV mg mb (xs.map .v) U G)):IY wi g tb D Y H:=by
 refine hi _ λJ H2 s2 io=>?_;have R2:=R.keep s2;have q2:=Sz.gro q (Sn.same s2);refine⟨λi n Y' H'=>n=xs.length-i/\i<=xs.length/\∃U' A' G',HR Z A' H' Y' U' G'/\Sn Z A G.length H2 A' G'.length H'/\Sz Z E A' G'.length H' D (bV mg mb ((xs.drop i).map .v) U' G'),⟨_,rfl,Tx _,U,A,G,R2,Sn.refl,q2⟩,?_⟩
 rintro i n Y' H' ⟨rfl,hle,U',A',G',R',g',q'⟩
 have io':=io H' (Sn.rest R2.toHH R'.toHH g');by_cases hlt:i<xs.length
 .have hx:xs[i]?=some xs[i]:=P1 hlt;obtain⟨go,yl⟩:=io'.1 i _ hx;refine .inr ⟨go,λσ2 H2'=>i+1<=xs.length/\∃U' A' G',HR Z A' H2' σ2 U' G'/\Sn Z A G.length H2 A' G'.length H2'/\Sz Z E A' G'.length H2' D (bV mg mb ((xs.drop (i+1)).map .v) U' G'),λσ2 H2' h=>⟨xs.length-(i+1),by omega,rfl,h.1,h.2⟩,λv H'' hy=>?_⟩;obtain⟨sy,ry⟩:=yl v H'' hy;have Ry:=R'.keep sy;have gy:Sn Z A G.length H2 A' G'.length H'':=g'.trans (Sn.same sy);have rx:Rep Z.W (HM Z A' G'.length) H'' xs[i] v:=ry _ λa m hn=>gy.sM a m hn;rw[a1p hlt,O6]at q';unfold bV at q';split at q'
  .exact q'.elim
  .rename_i ρ1 hρ;refine hg Z hZ A' H'' Y' U' G' _ v Ry (show ZK Z.W _ _ _ H'' (.v xs[i]) v from rx) _ ⟨ρ1,hρ,λσ1 R1=>hb Z hZ A' H'' σ1 ρ1 G' R1 _ ?_⟩;have q':=Sz.gro q' (Sn.same sy);revert q';cases mb ρ1 G' with
   |wall=>exact id
   |exc c fs G2=>exact id
   |nx ρ2 G2=>exact λq' A3 H3 σ3 R3 g3=>⟨hlt,ρ2,A3,G2,R3,gy.trans g3,Sz.gro (o:=bV mg mb ((xs.drop (i+1)).map .v) ρ2 G2) q' g3⟩
   |ct ρ2 G2=>exact λq' A3 H3 σ3 R3 g3=>⟨hlt,ρ2,A3,G2,R3,gy.trans g3,Sz.gro (o:=bV mg mb ((xs.drop (i+1)).map .v) ρ2 G2) q' g3⟩
   |bk ρ2 G2=>exact id
   |rt x G2=>exact id
 .have e:i=xs.length:=by omega
  subst e;rw[a2l]at q';exact .inl ⟨io'.2,q' A' H' Y' R' Sn.refl⟩
end
def fE(bs:OW)(mi:MI)(g:Tz)(b:Su):Su:=λU G=>match KZ bs U with
 |some r=>match mi r with
  |.ok xs=>bV g b (xs.map .v) U G
  |_=>.wall
 |none=>.wall
section
variable {X:Cx}{W:RC}{E:XK}{fr:Bool}{S:OS}{tg jD:Pc}{body:Pt}{mi:MI}{mg:Tz}{mb:Su}{pos:Pos}
def c7(bs:OW)(hp:PassesOwn (Rk X) X.A X.env X.xe)(hc:X.calm=true)(hi:IM X ⟨W,E,fr⟩ S false tg jD mi)(hg:HG X W tg mg)(hb:Τ X W E body mb)(hS:S.all (·==0)=true:=by rfl)(hs:∀x,foldedSetIterable jD X.env x=pure x:=by intro _;rfl):
  HS X W E (.For tg jD body [] pos) (fE bs mi mg mb):=λhK=>by
 obtain⟨wi,a1,a2⟩:=hi hK;obtain⟨g,b1,b2⟩:=hg hK;obtain⟨tb,c1,c2⟩:=hb hK;refine⟨_,pf hp hc a1 b1 c1 hs,λZ hZ A H Y U G R D q=>?_⟩;unfold fE at q;split at q
 .rename_i r hr;split at q
  .rename_i xs hx;subst hZ;refine Ar rfl (λR' k=>?_) b2 c2 R q;refine a2 _ _ H Y r (ML R hr hS) R' ?_;rw[hx];intro J H2 s io;refine k J H2 s λH' f=>?_;have n2:∀{k:Nat},S[k]?=some 2->False:=λ{k} h=>by have:=Hc hS h;omega
   obtain⟨i1,i2⟩:=io H' λa o h m=>f a o h (m.imp (λm z=>m.1 z) id);refine⟨λi x hx=>⟨(i1 i x hx).1,λv H'' hy=>⟨((i1 i x hx).2 v H'' hy).1,λM' sM=>((i1 i x hx).2 v H'' hy).2 M' λa m hn=>sM a ?_ hn⟩⟩,i2⟩;have m1:HM Z A G.length a\/(bsH Z A H G).H0 a=none:=m.1.1;rcases m1 with m1|m1
   .exact m1
   .unfold bsH at m1;dsimp only at m1;split at m1
    .rename_i hl;exact absurd hl m.1.2
    .exact R.toHH.new a m1
  .exact q.elim
 .exact q.elim
end
def hB(p:Pd)(ms:TK):SD:=λU G=>(ms U G).bind λxs G1=>match fD (jH G1 8) xs with
 |some ys=>match p ys with
  |.ok z=>if TV z=true then .ok (.v z) G1 else .wall
  |_=>.wall
 |none=>.wall
section
variable {X:Cx}{W:RC}{E:XK}{e a b:Pc}{es:OX}{pos p:Pos}{m1 m2:SD}{ms:TK}{x:Str}
end
section
variable {X:Cx}{W:RC}{E:XK}{fr:Bool}{S S' Sb Sc:OS}{st:PB}{s1:MS}
end
def As(n:Nat)(ms:Su)(xs:List HV)(G:AH):HX HV:=match ms (xs.map some++List.replicate (n-xs.length) none) G with
 |.nx _ G'=>.ok (.v .n) G'
 |.rt x G'=>.ok x G'
 |.exc c fs G'=>.exc c fs G'
 |_=>.wall
def oq{xs:List HV}{n k:Nat}{x:HV}(h:(xs.map some++List.replicate (n-xs.length) none)[k]?=some (some x)):xs[k]?=some x:=by
 rw[a1O]at h;split at h
 .rw[S7]at h;obtain⟨y,hy,e⟩:=v4.mp h;cases e;exact hy
 .rw[a0M]at h;split at h<;>cases h
def Au(h:HH Z A H G)(r:yd Z.W (HM Z A G.length) A G.length H xs vs):HR Z A H (start N vs) (xs.map some++List.replicate (N.length-xs.length) none) G:=by
 refine⟨h,?_,λi x e=>?_⟩
 .unfold start;rw[O1,O1,u8,u8,a0S,a0S,r.len]
 .obtain⟨v,hv,rv⟩:=r.get (oq e);have hk:i<vs.length:=(P8.mp hv).1;refine⟨v,?_,rv⟩;unfold start;rw[T9 (by rw[u8];exact hk),S7,hv];rfl
section
variable {P:Pg}{w:Pk}{K:Pw}{mg:OQ}{base:Heap}
def fF{x qual:Str}{st:PB}{f:Addr}{fd:Pl}{N ps:OP}{k n l:Nat}{W:RC}{ms:Su}(F:SA K x qual st f fd)(S:zy N ps (zk st))(hW:K=W.K)(hl:ps.length=l)(hN:N.length=n)(h:∀(cdv:Value)(A:Po)(outer:List Env)(s:OV)(H:Hp)(E:XK),vf k (A.deeper (envOfC qual (zk st) s.heap.objs.size f cdv))->Τ (δ (nN (Sj P w) P w K mg base N qual (zk st) f cdv A outer s H E) E) W E (ZX st) ms):
  yW P w K mg base (Sj P w) (k+1) f fd ps (Ts W l (As n ms)):=by
 subst hN hl;refine F.okX S Eb λcdv A outer s H vs Q E hr ⟨Z,A',G,xs,hZ,hl,hh,r,q⟩=>?_;obtain⟨ts,t1,t2⟩:=h cdv A outer s H E hr hW;refine⟨ts,t1,t2 Z hZ A' H _ _ G (Au hh r) _ ?_⟩;unfold As at q;revert q;cases ms (xs.map some++List.replicate (N.length-xs.length) none) G with
 |exc c fs G'=>exact id
 |wall=>exact id
 |nx U' G'=>exact λq A2 H2 σ2 R2 g2=>q A2 H2 R2.toHH g2 .non rfl
 |rt y G'=>exact λq A2 H2 v h2 g2 rv=>q A2 H2 h2 g2 v rv
 |bk U' G'=>exact λq=>q.elim
 |ct U' G'=>exact λq=>q.elim
end
def Ee(hS:Sq W.K H p (ns.map V.int))(h:∃G,g [.v (.sc ns)] []=.ok (.v (.b true)) G)(k:∀H',Q (.bl true) H'):Ts W 1 g [.ref p] H Q E:=by
 obtain⟨G,h⟩:=h;refine⟨⟨W,H,λ_=>True⟩,λ_=>0,[],[.v (.sc ns)],rfl,rfl,⟨zH.refl _,(λk c e=>by cases e),λj k hj=>absurd hj (Ω _),λk hk=>absurd hk (Ω _)⟩,⟨.ref p,[],rfl,⟨p,rfl,?_⟩,rfl⟩,?_⟩
 .exact hS.elim (λz=>.inl ⟨⟨.inl trivial,λk hk=>absurd hk (Ω _)⟩,z⟩) .inr
 .rw[h];intro A2 H2 h2 g2 v rv;cases(show v=_ from rv);exact k H2
section
variable {Z:HC}{E:XK}{A A':O_}{n n':Nat}{H H':Hp}{G G':AH}{Y Y':St}{U U':ZJ}{a:Addr}{es:Pb}{u u':HO}{W:RC}{M:OU}{D:Ends}
end
section
variable {X:Cx}{W:RC}{E:XK}{tg jD:Pc}{body:Pt}{mg:Tz}{mb:Su}{pos:Pos}{i:Nat}
end
def MM(bs:OW)(N:OP)(fr:Pf)(Si:OS)(hN:X.N.Nodup)(hy:X.N[j]?=some y)(hl:X.env.scope.names.lookup y=some .local)(hc:X.calm=true)(hok:pX X scope N fr=true)(hi:IM X ⟨W,E,fr'⟩ S true tg jD mi)(hg:∀z:CI,GM (ψ X scope N z) ⟨W,E0,false⟩ Si Si tg mg)(ht:∀z:CI,ϴ (ψ X scope N z) ⟨W,E0,false⟩ Si ifs mc)(he:∀z:CI,EM (ψ X scope N z) ⟨W,E0,false⟩ Si false elt me)(hS:Si=Tr S fr:=by rfl)(h0:S.all (·==0)=true:=by rfl)(hsw:swapsWith (.ListComp elt [⟨tg,jD,ifs,0⟩] scope pos) (some (.Name y py)) ny.line X.env=pure true:=by rfl)(hs:∀x,foldedSetIterable jD X.env x=pure x:=by intro _;rfl):HS X W E (.Assign [.Name y py] (.ListComp elt [⟨tg,jD,ifs,0⟩] scope pos) ny) (qF j (hF bs (SO mi fr mg mc me))):=λhK=>by
 obtain⟨wi,a1,a2⟩:=hi hK;obtain⟨g,b1,b2⟩:=cU hg λ_=>hK;obtain⟨tc,c1,c2⟩:=cT ht λ_=>hK;obtain⟨te,d1,d2⟩:=cS he λ_=>hK;exact⟨_,DC N fr hN hy hl hc hok a1 (λfp pn s H L=>b1 ⟨fp,pn,s,H,L⟩) (λfp pn s H L=>c1 ⟨fp,pn,s,H,L⟩) (λfp pn s H L=>d1 ⟨fp,pn,s,H,L⟩) hsw hs,mx (MH bs (fr:=fr') (Ab a2 rfl hS b2 c2 d2) h0)⟩
section
variable {X:Cx}{W:RC}{E:XK}{a o:Pc}{pos jW Y1:Pos}{m m1:SD}
end
def sW{κ:Type}:List (κ×HV)->Option (List (κ×PV))
 |[]=>some []
 | (k,.v x)::xs=>(sW xs).map ((k,x)::·)
 |_::_=>none
def Ef:Cell->Option PV
 |.l xs=>(sR xs).map .l
 |.d kvs=>(sW kvs).map .d
 |.z kvs=>(sW kvs).map .d
 |.o c fs=>(sW fs).map (.o c)
def sres(G:AH):HV->Option PV
 |.v x=>some x
 |.t xs=>(sR xs).map .t
 |.g k=>(G[k]?).bind Ef
def WD(G:AH):List Bool->ZJ->Option So
 |_,[]=>some []
 |[],_::U=>(WD G [] U).map (none::·)
 |false::bs,_::U=>(WD G bs U).map (none::·)
 |true::bs,some x::U=>(sres G x).bind λy=>(WD G bs U).map (some y::·)
 |true::_,none::_=>none
section
variable {Z:HC}{A:O_}{H:Hp}{G:AH}{Y:St}{U:ZJ}
def c8{W:RC}{M:OU}{n:Nat}:∀{xs:List (Key×HV)}{ys:Ph}{vs:Pb},sW xs=some ys->qx (ZK W M A n H) xs vs->jX W M H ys vs
 |[],_,_,e,h=>by cases e;exact h
 | (k,.v x)::xs,ys,_,e,h=>by unfold sW at e;obtain⟨zs,e1,rfl⟩:=v4.mp e;obtain⟨v,r,rfl,h1,h2⟩:=h;exact⟨v,r,rfl,h1,c8 e1 h2⟩
 | (_,.g _)::_,_,_,e,_=>by cases e
 | (_,.t _)::_,_,_,e,_=>by cases e
def mz{W:RC}{M:OU}{n:Nat}:∀{xs:List (Str×HV)}{ys:Pj}{vs:Pp},sW xs=some ys->qx (ZK W M A n H) xs vs->vg W M H ys vs
 |[],_,_,e,h=>by cases e;exact h
 | (k,.v x)::xs,ys,_,e,h=>by unfold sW at e;obtain⟨zs,e1,rfl⟩:=v4.mp e;obtain⟨v,r,rfl,h1,h2⟩:=h;exact⟨v,r,rfl,h1,mz e1 h2⟩
 | (_,.g _)::_,_,_,e,_=>by cases e
 | (_,.t _)::_,_,_,e,_=>by cases e
def Av(h:HH Z A H G)(r:ZK Z.W (HM Z A G.length) A G.length H x v)(e:sres G x=some y):yZ Z.W (λa=>H a≠none) (HM Z A G.length) H y v:=by
 cases x with
 |v z=>have e:some z=some y:=e;cases e;exact yZ.sub (yZ.iff.mpr (show Rep Z.W _ H y v from r)) (λ_ _ n=>n) λ_ m _=>m
 |t xs=>obtain⟨ys,e1,rfl⟩:=v4.mp (show(sR xs).map PV.t=some y from e);obtain⟨p,vs,rfl,s,q⟩:=r;exact⟨p,vs,rfl,s,XT e1 q⟩
 |g k=>
  obtain⟨hk,rfl⟩:=r;obtain⟨c,hc,e⟩:=R4.mp (show(G[k]?).bind Ef=some y from e);cases c with
  |l xs=>obtain⟨ys,e1,rfl⟩:=v4.mp (show(sR xs).map PV.l=some y from e);obtain⟨vs,h1,q⟩:=h.cell k _ hc;exact⟨A k,vs,rfl,(show H (A k)≠none from λz=>by(rw[h1]at z;cases z)),h1,XT e1 q⟩
  |d xs=>obtain⟨ys,e1,rfl⟩:=v4.mp (show(sW xs).map PV.d=some y from e);obtain⟨vs,h1,q⟩:=h.cell k _ hc;exact⟨A k,vs,rfl,(show H (A k)≠none from λz=>by(rw[h1]at z;cases z)),.inl h1,c8 e1 q⟩
  |z xs=>obtain⟨ys,e1,rfl⟩:=v4.mp (show(sW xs).map PV.d=some y from e);obtain⟨o,vs,h1,q⟩:=h.cell k _ hc;exact⟨A k,vs,rfl,(show H (A k)≠none from λz=>by(rw[h1]at z;cases z)),.inr ⟨o,h1⟩,c8 e1 q⟩
  |o c xs=>obtain⟨ys,e1,rfl⟩:=v4.mp (show(sW xs).map (PV.o c)=some y from e);obtain⟨dx,vs,h1,q⟩:=h.cell k _ hc;exact⟨A k,dx,vs,rfl,(show H (A k)≠none from λz=>by(rw[h1]at z;cases z)),h1,mz e1 q⟩
def Q7:∀{bs:OW}{U:ZJ}{r:So}{i:Nat}{x:PV},WD G bs U=some r->r[i]?=some (some x)->i<bs.length/\∃y,U[i]?=some (some y)/\sres G y=some x
 |_,[],r,i,x,e,h=>by unfold WD at e;cases e;simp at h
 |[],_::U,r,i,x,e,h=>by
  unfold WD at e;obtain⟨r',e1,rfl⟩:=v4.mp e;cases i with
  |zero=>cases h
  |succ i=>rw[S4]at h;exact absurd (Q7 e1 h).1 (Ω _)
 |false::bs,_::U,r,i,x,e,h=>by
  unfold WD at e;obtain⟨r',e1,rfl⟩:=v4.mp e;cases i with
  |zero=>cases h
  |succ i=>rw[S4]at h ⊢;exact⟨a2m (Q7 e1 h).1,(Q7 e1 h).2⟩
 |true::bs,some y::U,r,i,x,e,h=>by
  unfold WD at e;obtain⟨z,e0,e⟩:=R4.mp e;obtain⟨r',e1,rfl⟩:=v4.mp e;cases i with
  |zero=>cases h;exact⟨Nat.zero_lt_succ _,y,rfl,e0⟩
  |succ i=>rw[S4]at h ⊢;exact⟨a2m (Q7 e1 h).1,(Q7 e1 h).2⟩
 |true::bs,none::U,r,i,x,e,h=>by cases e
def XU:∀{bs:OW}{U:ZJ}{r:So},WD G bs U=some r->r.length=U.length
 |_,[],r,e=>by unfold WD at e;cases e;rfl
 |[],_::U,r,e=>by unfold WD at e;obtain⟨r',e1,rfl⟩:=v4.mp e;rw[v0,v0,XU e1]
 |false::bs,_::U,r,e=>by unfold WD at e;obtain⟨r',e1,rfl⟩:=v4.mp e;rw[v0,v0,XU e1]
 |true::bs,some y::U,r,e=>by unfold WD at e;obtain⟨z,e0,e⟩:=R4.mp e;obtain⟨r',e1,rfl⟩:=v4.mp e;rw[v0,v0,XU e1]
 |true::bs,none::U,r,e=>by cases e
def MN(R:HR Z A H Y U G)(e:WD G bs U=some r)(hS:S.all (·==1)=true)(hb:bs.length<=S.length):Rel Z.W (uZ H (HM Z A G.length)) S (λ_=>0) H Y r:=by
 have one:∀{k c:Nat},S[k]?=some c->c=1:=λ{k c} h=>by have:=a0Y.mp hS c (ϧ h);simpa using this
 have n2:∀{k:Nat},S[k]?=some 2->False:=λ{k} h=>by have:=one h;omega
 refine⟨zH.refl _,R.len.trans (XU e).symm,λi x h=>?_,λi hi=>(n2 hi).elim,λi j hi=>(n2 hi).elim,λhi=>(n2 hi).elim,λa h=>h.elim,λi hi=>(n2 hi).elim⟩;obtain⟨hi,y,h1,h2⟩:=Q7 e h;obtain⟨v,h3,h4⟩:=R.var i y h1;have h1':S[i]?=some 1:=by have hl:i<S.length:=P4 hi hb;have:=P1 hl;rw[this,one this]
 exact⟨v,h3,λz=>(n2 z).elim,λ_=>yZ.sub (Av R.toHH h4 h2) (λ_ n _=>n) λa m _=>⟨⟨.inl m,id⟩,λi hi=>(n2 hi).elim⟩,λ_ z=>absurd h1' z⟩
end
section
variable {X:Cx}{W:RC}{E:XK}{fr:Bool}{S:OS}{e:Pc}{m:ME}
end
def pD1(x:PV):PV->Out PV
 |.i n=>match pk x with|some k=>.ok (.d [(k,.i n)])|none=>.wall
 |_=>.wall
def mD1(mk mv:ME):ME:=λU=>(mk U).bind λx=>(mv U).bind λy=>pD1 x y
def MP(h1:EM X C S w1 a m1)(h2:EM X C S w2 b m2):FM X C S (.Dict [some a] [b] pos) (mD1 m1 m2):=λhK=>by
 obtain⟨ta,a1,a2⟩:=h1 hK;obtain⟨tb,b1,b2⟩:=h2 hK;refine⟨_,Ds (xw a1 b1 Dr) rfl rfl (by intro h;cases h) (show 1<=15 by decide),λB P H Y U R Q q=>λp hp=>?_⟩;have s0:zH H (upd H p (.dK [])):=zH.upd hp;unfold mD1 at q;show ta Y _ _;refine a2 B P _ Y U (R.keep s0) _ ?_;cases e1:m1 U with
 |exc c fs=>rw[e1]at q;exact q
 |wall=>rw[e1]at q;exact q
 |ok x=>
  rw[e1]at q;intro v H1 s1 r1;refine b2 B P _ Y U (R.keep (s0.trans s1)) _ ?_;cases e2:m2 U with
  |exc c fs=>have q:zV C B H _ Q ((m2 U).bind _):=q;rw[e2]at q;exact q
  |wall=>have q:zV C B H _ Q ((m2 U).bind _):=q;rw[e2]at q;exact q
  |ok y=>
   have q:zV C B H _ Q ((m2 U).bind _):=q;rw[e2]at q;intro u H2 s2 r2;have q:zV C B H _ Q (pD1 x y):=q;cases y with
   |i n=>
    cases ek:pk x with
    |none=>have q:zV C B H _ Q (match pk x with|some k=>.ok (.d [(k,.i n)])|none=>.wall):=q;rw[ek]at q;exact q.elim
    |some k=>
    have q:zV C B H _ Q (match pk x with|some k=>.ok (.d [(k,.i n)])|none=>.wall):=q;rw[ek]at q;have ev:=Ul (r1.weak) ek;have eu:u=.int n:=r2.weak;subst ev eu;have hp2:H2 p=some (.dK []):=(s1.trans s2) _ _ zh;refine⟨hp2,[(k,.int n)],rfl,by show 1<=15;decide,q _ _ (λc o hc=>?_) ⟨p,rfl,hp,[(k,.int n)],zh,⟨_,_,rfl,rfl,rfl⟩⟩⟩;have:c≠p:=λz=>by rw[z,hp]at hc;cases hc
    rw[zl this];exact(s0.trans (s1.trans s2)) _ _ hc
   |_=>exact(show False from q).elim
def gX(G:AH):Nat->HV->Option PV
 |0,_=>none
 |_+1,.v x=>if TV x=true then some x else none
 |n+1,.t xs=>(fD (gX G n) xs).map .t
 |n+1,.g k=>match G[k]? with
  |some (.l xs)=>(fD (gX G n) xs).map .l
  |some (.d kvs)=>(oj (gX G n) kvs).map .d
  |_=>none
section
variable {Z:HC}{A:O_}{H:Hp}{G:AH}
def XW{N:OU}(h:HH Z A H G)(hN:∀k,k<G.length->N (A k)):∀(n:Nat)(x:HV)(v:V)(y:PV),ZK Z.W (HM Z A G.length) A G.length H x v->gX G n x=some y->Rep Z.W N H y v
 |0,_,_,_,_,e=>by cases e
 |n+1,.v x,v,y,r,e=>by
  unfold gX at e;split at e
  .rename_i hi;cases e;exact V8 hi r
  .cases e
 |n+1,.t xs,v,y,r,e=>by unfold gX at e;obtain⟨ys,e1,rfl⟩:=v4.mp e;unfold ZK at r;obtain⟨p,vs,rfl,s,q⟩:=r;exact⟨p,vs,rfl,s,K0 (XW h hN n) q e1⟩
 |n+1,.g k,v,y,r,e=>by
  obtain⟨hk,rfl⟩:=r;unfold gX at e;split at e
  .rename_i xs hc;obtain⟨ys,e1,rfl⟩:=v4.mp e;obtain⟨vs,h1,q⟩:=h.cell k _ hc;exact⟨A k,vs,rfl,hN k hk,h1,K0 (XW h hN n) q e1⟩
  .rename_i xs hc;obtain⟨ys,e1,rfl⟩:=v4.mp e;obtain⟨vs,h1,q⟩:=h.cell k _ hc;exact⟨A k,vs,rfl,hN k hk,.inl h1,XQ (XW h hN n) q e1⟩
  .cases e
def Aw:HH ⟨Z.W,H,λ_=>True⟩ A H []:=⟨zH.refl _,λk c e=>(by cases e),λj k hj=>absurd hj (Ω _),λk hk=>absurd hk (Ω _)⟩
def bW(g:Sn ⟨Z.W,H,λ_=>True⟩ A 0 H A' n H'):zH H H':=λa o e=>g.fr a o e (.inl ⟨.inl trivial,λk hk=>absurd hk (Ω _)⟩)
end
section
variable {X:Cx}{W:RC}{E:XK}{e a b:Pc}{es:OX}{pos p pos2 p2:Pos}{m1 m2:SD}{ms:TK}{x y:Str}{k n:Nat}{f:Addr}{fd:Pl}{ps:OP}{g:List HV->AH->HX HV}
end
def ϸ(g:List HV->AH->HX HV)(xs:Pe):Out PV:=match g (xs.map .v) []with
 |.ok y X=>match gX X 8 y with
  |some z=>.ok z
  |none=>.wall
 |.exc c fs _=>if Ak fs=true then .exc c fs else .wall
 |.wall=>.wall
def Cd{W:RC}{M:OU}{H:Hp}{Z:HC}{A:O_}(hZ:∀a,HM Z A 0 a):∀{ws:OW}{xs:Pe}{vs:Pa},jG W M H ws xs vs->yd W (HM Z A 0) A 0 H (xs.map .v) vs
 |[],_,_,⟨e1,e2⟩=>by subst e1;exact e2
 |w::ws,_,_,⟨x,v,xr,vr,e1,e2,h1,h2⟩=>by subst e1;exact⟨v,vr,e2,yZ.iff.mp (yZ.sub h1 (λa _ _=>hZ a) λa _ _=>hZ a),Cd hZ h2⟩
def Eg{P:Pg}{w:Pk}{K:Pw}{mg:OQ}{base:Heap}{k n:Nat}{f:Addr}{fd:Pl}{ps:OP}{W:RC}{g:List HV->AH->HX HV}{ws:OW}(F:yW P w K mg base (Sj P w) k f fd ps (Ts W n g))(hn:ws.length=n):yW P w K mg base (Sj P w) k f fd ps (Sw W false ws (ϸ g)):=
 F.imp λvs H Q E ⟨M,xs,a,q⟩=>by
  have hZ:∀a,HM ⟨W,H,λ_=>True⟩ (λ_=>0) 0 a:=λa=>⟨.inl trivial,λk hk=>absurd hk (Ω _)⟩;refine⟨⟨W,H,λ_=>True⟩,λ_=>0,[],xs.map .v,rfl,by rw[u8,a.len.2,hn],Aw (Z:=⟨W,H,λ_=>True⟩),Cd hZ a,?_⟩;unfold ϸ at q;revert q;cases g (xs.map .v) []with
  |wall=>exact λq=>q.elim
  |exc c fs X'=>
   intro q;dsimp only at q;split at q
   .rename_i hi;exact λA2 H2 e dx es h2 g2 he hd rf=>q e dx es H2 (bW (Z:=⟨W,H,λ_=>True⟩) g2) he hd (Z5 hi rf)
   .exact q.elim
  |ok y X'=>
   intro q;dsimp only at q;split at q
   .rename_i z hz;intro A2 H2 h2 g2 v rv;exact q v H2 (bW (Z:=⟨W,H,λ_=>True⟩) g2) (show Rep W _ H2 z v from XW h2 (λk hk=>.inr (g2.fresh k (Tx _) hk)) 8 y v z rv hz)
   .exact q.elim
section
variable {X:Cx}{C:LC}{S S' S1 S2 Sb Sc:OS}{e:Pc}{es:OX}{ws:OW}{ms:MA}{pos p pos':Pos}{x y:Str}{k i j:Nat}{f:Addr}{fd:Pl}{ps:OP}{fr:Bool}{g:Pd}{m1 m2:MS}
end
section
variable {X:Cx}{C:LC}{S:OS}{tg e:Pc}{p pos:Pos}{m:ME}{cc:Bool}
end
section
variable {X:Cx}{W:RC}{E:XK}{o:Pc}{pos jW p:Pos}{m1:SD}
end
section
variable {X:Cx}{C:LC}{S Sb Sc:OS}{jD tg elt:Pc}{ifs:OX}{me:ME}{mc:MT}{mg:MG}{pos ny py:Pos}{i j:Nat}{scope:Scope}{y:Str}
end
def signsOf:PV->Out (List PV)
 |.s z=>.ok (z.cps.toList.map λc=>.s ⟨#[c]⟩)
 |_=>.wall
def fG(m:ME):MI:=λU=>(m U).bind signsOf
def Hx:DT W M N H2 (Its z) (z.cps.toList.map λc=>PV.s ⟨#[c]⟩):=λH' f=>by refine⟨λi x hx=>?_,by rw[u8];exact a1J a0O.symm⟩;rw[S7]at hx;obtain⟨c,hc,rfl⟩:=v4.mp hx;rw[Array.getElem?_toList]at hc;refine⟨(a1o.mp hc).1,λv H'' hy=>?_⟩;obtain⟨rfl,c',hc',rfl⟩:=hy;rw[hc]at hc';cases hc';exact⟨zH.refl _,λ_ _=>rfl⟩
section
variable {X:Cx}
end
section
variable {X:Cx}{C:LC}{S Sb Sc:OS}{o e a:Pc}{es:OX}{w w1 w2:Bool}{ws:OW}{m m1 m2:ME}{ms:MA}{pos p Y1 jW:Pos}{i:Nat}{cc:Bool}{y:Str}{py:Pos}
end
def Hy(h:EM X C S w e m):IM X C S cc (.Name y py) e (fG m):=λhK=>by
 obtain⟨te,a1,a2⟩:=h hK;refine⟨_,Gp a1,λB P H Y U R Q q=>a2 B P H Y U R _ ?_⟩;unfold fG at q;revert q;cases m U with
 |exc c fs=>exact id
 |wall=>exact id
 |ok x=>
  intro q v H2 s r;cases x with
  |s z=>have ev:v=V.str z:=r.weak;exact⟨z,ev,q _ H2 s Hx⟩
  |_=>exact(show False from q).elim
section
variable {X:Cx}{W:RC}{E:XK}{fr:Bool}{S:OS}{e:Pc}{m:ME}
end
section
variable {X:Cx}{C:LC}{S S' Sb Sc:OS}{o a:Pc}{w1 w2:Bool}{m1 m2:ME}{to ta:TE}{y z:Str}{n:Int}{jW Y1 py pz pi pos rp cp kp:Pos}{jy jz ji j:Nat}
end
def K4(k:Nat)(g:Tz)(b:Su):Nat->Nat->ZJ->AH->Ti
 |r,i,U,G=>match G[k]? with
  |some (.l xs)=>match xs[i]? with
   |none=>.nx U G
   |some x=>match r with
    |0=>.wall
    |r+1=>match g x U with
     |none=>.wall
     |some ρ1=>match b ρ1 G with
      |.nx ρ2 G2=>K4 k g b r (i+1) ρ2 G2
      |.ct ρ2 G2=>K4 k g b r (i+1) ρ2 G2
      |.bk ρ2 G2=>.nx ρ2 G2
      |.rt v G2=>.rt v G2
      |.exc c fs G2=>.exc c fs G2
      |.wall=>.wall
  |_=>.wall
def Eh(m:SD)(g:Tz)(b:Su):Su:=λU G=>(m U G).fw λx G1=>match x with
 |.g k=>match G1[k]? with
  |some (.l xs)=>K4 k g b xs.length 0 U G1
  |_=>.wall
 |_=>.wall
def Ei(hp:PassesOwn (Rk X) X.A X.env X.xe)(hc:X.calm=true)(hi:HE X W E jD m)(hg:HG X W tg mg)(hb:Τ X W E body mb)(hs:∀x,foldedSetIterable jD X.env x=pure x:=by intro _;rfl):
  HS X W E (.For tg jD body [] pos) (Eh m mg mb):=λhK=>by
 obtain⟨te,a1,a2⟩:=hi hK;obtain⟨g,b1,b2⟩:=hg hK;obtain⟨tb,c1,c2⟩:=hb hK;refine⟨_,pf hp hc (sg a1) b1 c1 hs,λZ hZ A H Y U G R D q=>a2 Z hZ A H Y U G R _ (Sz.bind q λx A1 H1 G1 h1 g1 q1 v rx=>?_)⟩;split at q1
 .rename_i k;obtain⟨hk,rfl⟩:=(show _/\_ from rx);split at q1
  .rename_i xs hx;have R1:=R.gro h1 g1;obtain⟨vs,hl,rs⟩:=h1.cell k _ hx;refine .inl ⟨A1 k,rfl,⟨vs,Sq.of hl⟩,?_⟩;refine⟨λi n Y' H'=>∃U' A' G',HR Z A' H' Y' U' G'/\Sn Z A1 G1.length H1 A' G'.length H'/\Sz Z E A' G'.length H' D (K4 k mg mb n i U' G'),⟨xs.length,U,A1,G1,R1,Sn.refl,q1⟩,?_⟩
   rintro i n Y' H' ⟨U',A',G',R',g',q'⟩
   have ak:A' k=A1 k:=g'.agr k hk;unfold K4 at q';split at q'
   .rename_i ys hy;obtain⟨us,hu,ru⟩:=R'.toHH.cell k _ hy;rw[ak]at hu;split at q'
    .rename_i hn;refine .inl ⟨⟨us,Sq.of hu,?_⟩,q' A' H' Y' R' Sn.refl⟩;rw[ru.len];exact a18.mp hn
    .rename_i y hyi;obtain⟨u,hui,rui⟩:=ru.get hyi;split at q'
     .exact q'.elim
     .rename_i r;refine .inr ⟨⟨us,u,Sq.of hu,hui⟩,λσ2 H2'=>∃U' A' G',HR Z A' H2' σ2 U' G'/\Sn Z A1 G1.length H1 A' G'.length H2'/\Sz Z E A' G'.length H2' D (K4 k mg mb r (i+1) U' G'),λσ2 H2' h=>⟨r,ϋ _,h⟩,λv' H'' hv=>?_⟩;obtain⟨rfl,hv⟩:=hv;have:=hv us (Sq.of hu);rw[hui]at this;cases this;split at q'
      .exact q'.elim
      .rename_i ρ1 hρ;refine b2 Z hZ A' H'' Y' U' G' y u R' rui _ ⟨ρ1,hρ,λσ1 R1=>c2 Z hZ A' H'' σ1 ρ1 G' R1 _ ?_⟩;revert q';cases mb ρ1 G' with
       |wall=>exact id
       |exc c fs G2=>exact id
       |nx ρ2 G2=>exact λq' A3 H3 σ3 R3 g3=>⟨ρ2,A3,G2,R3,g'.trans g3,Sz.gro (o:=K4 k mg mb r (i+1) ρ2 G2) q' g3⟩
       |ct ρ2 G2=>exact λq' A3 H3 σ3 R3 g3=>⟨ρ2,A3,G2,R3,g'.trans g3,Sz.gro (o:=K4 k mg mb r (i+1) ρ2 G2) q' g3⟩
       |bk ρ2 G2=>exact id
       |rt x G2=>exact id
   .exact q'.elim
  .exact q1.elim
 .exact q1.elim
section
variable {X:Cx}{W:RC}{E:XK}{e:Pc}{es:OX}{ms:TK}{ws:OW}{g:Pd}{k:Nat}{f:Addr}{fd:Pl}{ps:OP}{x:Str}{p pos:Pos}
end
section
variable {X:Cx}{C:LC}{S:OS}{mi:MI}{mg:MG}{mc:MT}{me:ME}
end
section
variable {X:Cx}{W:RC}{E:XK}
variable {fr':Bool}{S:OS}{jD tg elt:Pc}{ifs:OX}{me:ME}{mc:MT}{mg:MG}{mi:MI}{pos ny py:Pos}{i j:Nat}{scope:Scope}{y:Str}
end
def Ej(kvs:Ph)(y:PV):Out PV:=match pk y with
 |some k=>.ok ((zM kvs k).getD .n)
 |none=>.wall
def Ll(m1 m2:ME):ME:=λU=>(m1 U).bind λx=>match x with
 |.d kvs=>(m2 U).bind (Ej kvs)
 |_=>.wall
def Hz(hu:X.A.units+1<cLine)(h1:EM X C S w1 o m1)(h2:EM X C S w2 e m2)(m:M1 X o "get" jW e Y1):EM X C S false (.Call (.Attribute o "get" jW) [e] [] Y1) (Ll m1 m2):=λhK=>by
 obtain⟨ta,a1,a2⟩:=h1 hK;obtain⟨tb,b1,b2⟩:=h2 hK;refine⟨_,xx hu a1 b1 m,λB P H Y U R Q q=>a2 B P H Y U R _ (yr q λx v H1 s1 r1 q1=>?_)⟩;cases x with
 |d kvs=>
  obtain⟨p,es,rfl,_,hd,rk⟩:=r1.weak;refine⟨p,rfl,.inl ⟨es,hd⟩,b2 B P H1 Y U (R.keep s1) _ (yr (o:=m2 U) (f:=Ej kvs) q1 λy u H2 s2 r2 q2=>?_)⟩;cases ek:pk y with
  |none=>
   have e:Ej kvs y=.wall:=by unfold Ej;rw[ek]
   rw[e]at q2;exact q2.elim
  |some k=>
   have e:Ej kvs y=.ok ((zM kvs k).getD .n):=by unfold Ej;rw[ek]
   rw[e]at q2;have eu:=Ul r2.weak ek;subst eu;have hd2:Rd H2 p (.dK es):=hd.elim (λz=>.inl (s2 _ _ z)) λ⟨o,z⟩=>.inr ⟨o,s2 _ _ z⟩;refine⟨aM es k,.inl ⟨es,k,hd2,rfl,rfl⟩,?_⟩;cases ed:zM kvs k with
   |none=>rw[ed]at q2;rw[rk.Ld ed];exact q2 _ H2 (zH.refl _) (RV.of rfl)
   |some x=>rw[ed]at q2;obtain⟨v,ev,rv⟩:=rk.get ed;rw[ev];exact q2 _ H2 (zH.refl _) (RV.of (rv.same s2))
 |_=>exact q1.elim
section
variable {X:Cx}{W:RC}{E:XK}{o a:Pc}{m1 m2:SD}{pos jW Y1:Pos}
end
section
variable {X:Cx}{W:RC}{E:XK}{fr:Bool}{S S1 Sb Sc:OS}{tg a0 b0:Pc}{body:Pt}{mg:MG}{mb:MS}{pos ipos:Pos}{i j:Nat}
end
def pk2:List PV->Option (List Key)
 |[x,y]=>(pk x).bind λa=>(pk y).bind λb=>some [a,b]
 |_=>none
def sX(s:zH H H')(h:Rd H p u):Rd H' p u:=(zH.fr (M:=λ_=>True) s).rd h trivial
def iI{k:PM}:∀{kvs:PR},aM (μ kvs) k=(zM kvs k).map V.int
 |[]=>rfl
 |q::r=>by
  unfold μ aM zM;rw[O6,a1a,a1a];by_cases c:q.1=k
  .simp only[c,decide_true];rfl
  .simp only[c,decide_false];exact iI (kvs:=r)
def Ek:putK (μ kvs) k (.int n)=μ (dput kvs k n):=by
 have e:∀{kvs:PR},(μ kvs).any (λkv=>decide (kv.1=k))=kvs.any (λkv=>decide (kv.1=k))/\(μ kvs).map (λkv=>if kv.1=k then(kv.1,V.int n)else kv)=μ (kvs.map λkv=>if kv.1=k then(kv.1,n)else kv):=λ{kvs}=>by
  induction kvs with
  |nil=>exact⟨rfl,rfl⟩
  |cons q r ih=>
   unfold μ at ih ⊢;refine⟨by rw[O6,π,π,ih.1],?_⟩;rw[O6,O6,O6,O6,ih.2];by_cases c:q.1=k
   .rw[if_pos c,if_pos c]
   .rw[if_neg c,if_neg c]
 unfold putK dput;rw[e.1];split
 .exact e.2
 .unfold μ;rw[R7];rfl
section
variable {X:Cx}{C:LC}{S S' Sb Sc:OS}{e a b o:Pc}{es:OX}{w w1 w2:Bool}{ws:OW}{m m1 m2:ME}{ms:MA}{pos p pos':Pos}{i x1:Nat}
def TH.MQ(h:TH C B S P H ws xs vs)(hk:pk2 xs=some ks):vs=ks.map kV/\vs.length<=sizeLine:=by
 have h:=h.weak
 match xs,hk with
 |[x,y],hk=>obtain⟨k1,h1,hk⟩:=R4.mp hk;obtain⟨k2,h2,hk⟩:=R4.mp hk;cases hk;obtain⟨v,r,rfl,r1,u,r',rfl,r2,e⟩:=h;cases(show r'=[]from e);rw[Ul r1 h1,Ul r2 h2];exact⟨rfl,by show 2<=sizeLine;decide⟩
def Ce:ME:=λ_=>.ok (.dt [])
def Ax:FM X C S (.Dict [] [] pos) Ce:=λhK=>⟨_,xu,λB P H Y U R Q q=>λp hp=>q _ _ (zH.upd hp) ⟨p,rfl,hp,zh⟩⟩
def NJ(x:PV)(xs:Pe):Out PV:=match x,pk2 xs with
 |.dt kvs,some ks=>ZS ((zM kvs ks).map PV.i)
 |_,_=>.wall
def mB(m:ME)(ms:MA):ME:=λU=>(m U).bind λx=>(ms U).bind λxs=>NJ x xs
def WE(hu:X.A.units+1<cLine)(h1:EM X C S w1 a m1)(h2:AM X C S ws es ms)(hs:Ud (.Tuple es x1 p):=by intro _ _;rfl):EM X C S false (.Subscript a (.Tuple es x1 p) pos) (mB m1 ms):=λhK=>by
 obtain⟨ta,a1,a2⟩:=h1 hK;obtain⟨tb,b1,b2⟩:=h2 hK;refine⟨_,Dj (iw hu) a1 (bN b1) hs,λB P H Y U R Q q=>a2 B P H Y U R _ (yr q λx v H1 s1 r1 q1=>b2 B P H1 Y U (R.keep s1) _ (je q1 λxs vs H2 s2 r2 q2=>?_))⟩;unfold NJ at q2;split at q2
 .rename_i kvs ks hk;obtain⟨y,hy,q3⟩:=qq q2;obtain⟨n,hn,rfl⟩:=v4.mp hy;obtain⟨rfl,hl⟩:=r2.MQ hk;obtain⟨p,rfl,_,hr⟩:=r1.weak;refine⟨hl,λz hz=>⟨p,.int n,rfl,.inr ⟨_,_,z,sX (zH.upd hz) (sX s2 hr),rfl,zh,by rw[iI,hn];rfl⟩,q3 _ _ (zH.upd hz) (RV.of rfl)⟩⟩
 .exact q2.elim
def inT(neg:Bool)(ks:PM):PV->Out PV
 |.dt kvs=>.ok (.b (xor neg (zM kvs ks).isSome))
 |_=>.wall
def ot(neg:Bool)(ms:MA)(m:ME):ME:=λU=>(ms U).bind λxs=>match pk2 xs with
 |some ks=>(m U).bind (inT neg ks)
 |none=>.wall
def Cf(h2:LA C S ws ta ms)(h1:LE C S w1 tb m1):LE C S false (Ϲ (Le C.W.K neg) (Nw ta) tb) (ot neg ms m1):=λB P H Y U R Q q=>h2 B P H Y U R _ (je q λxs vs H1 s1 r1 q1=>by
 split at q1
 .rename_i ks hk;obtain⟨rfl,hl⟩:=r1.MQ hk;refine⟨hl,λz hz=>h1 B P _ Y U ((R.keep s1).keep (zH.upd hz)) _ (yr (j0 q1 (zH.upd hz)) λy u H2 s2 r2 q2=>?_)⟩;unfold inT at q2;split at q2
  .obtain⟨p,rfl,_,hr⟩:=r2.weak;exact .inr ⟨p,_,rfl,.inr ⟨_,_,z,hr,rfl,s2 _ _ zh,rfl⟩,by rw[iI,a1e];exact q2 _ _ (zH.refl _) (RV.of rfl)⟩
  .exact q2.elim
 .exact q1.elim)
def Cg(hu:X.A.units+1<cLine)(h1:AM X C S ws es ms)(h2:EM X C S w2 b m2)(hm:behindInMarks .In b=false:=by with_unfolding_all rfl):TM X C S (.Compare (.Tuple es x1 p) [.In] [b] pos) (zW (ot false ms m2)):=λhK=>by obtain⟨ta,a1,a2⟩:=h1 hK;obtain⟨tb,b1,b2⟩:=h2 hK;exact⟨_,g8 (B0 hu) (bN a1) b1 hm,cL (by rw[hK];exact Cf a2 b2)⟩
def K5(hu:X.A.units+1<cLine)(h1:AM X C S ws es ms)(h2:EM X C S w2 b m2)(hm:behindInMarks .NotIn b=false:=by with_unfolding_all rfl):TM X C S (.Compare (.Tuple es x1 p) [.NotIn] [b] pos) (zW (ot true ms m2)):=λhK=>by obtain⟨ta,a1,a2⟩:=h1 hK;obtain⟨tb,b1,b2⟩:=h2 hK;exact⟨_,g8 (ff hu) (bN a1) b1 hm,cL (by rw[hK];exact Cf a2 b2)⟩
def MR(i:Nat)(U:So)(o:Out (List PV)):Option (Option PV)->PV->Out Fw
 |some (some (.dt kvs)),.i n=>o.bind λxs=>match pk2 xs with
  |some k=>if kvs.length<sizeLine then .ok (.nx (U.set i (some (.dt (dput kvs k n)))))else .wall
  |none=>.wall
 |_,_=>.wall
def fH(i:Nat)(ms:MA)(mv:ME):MS:=λU=>(mv U).bind λv=>MR i U (ms U) U[i]? v
def iJ(hu:X.A.units+1<cLine)(ho:PE X o (nC i))(hk:AM X C S ws es ms)(hv:EM X C S false e m2)(hi:S[i]?=some 2:=by rfl)(hs:swapsWith e (some (.Subscript o (.Tuple es x1 p) pos')) pos.line X.env=pure false:=by rfl):
  SM X C S S Sb Sc (.Assign [.Subscript o (.Tuple es x1 p) pos'] e pos) (fH i ms m2):=λhK=>by
 obtain⟨ta,a1,a2⟩:=hk hK;obtain⟨tv,b1,b2⟩:=hv hK;refine⟨_,ib hu ho (bN a1) b1 hs,λB P H Y U R D q=>b2 B P H Y U R _ ?_⟩;unfold fH at q;revert q;cases m2 U with
 |ok y=>
  intro q v H1 sm1 rv;have R1:=R.keep sm1;have q:ZF C B S Sb Sc D (MR i U (ms U) U[i]? y):=q;unfold MR at q;split at q
  .rename_i kvs n hx q0;obtain⟨hσ,hp,hl⟩:=R1.at2 hi hx;have hp:H1 (P i)=some (.dT (μ kvs)):=hp;cases(show v=.int n from rv.weak);refine⟨_,hσ,a2 B P H1 Y U R1 _ ?_⟩;revert q;cases ms U with
   |ok z=>
    intro q u H2 sm2 ru;have R2:=R1.keep sm2;have q:ZF C B S Sb Sc D (match pk2 z with
     |some k=>if kvs.length<sizeLine then .ok (.nx (U.set i (some (.dt (dput kvs k n)))))else .wall
     |none=>.wall):=q
    split at q
    .rename_i k hk;split at q
     .rename_i hz;obtain⟨rfl,hl2⟩:=ru.MQ hk;refine⟨hl2,λt ht=>?_⟩;have R3:=R2.keep (zH.upd (o:=.tup (k.map kV)) ht);have hp2:=zH.upd (o:=.tup (k.map kV)) ht _ _ (sm2 _ _ hp);refine⟨_,_,rfl,xp.t hp2 zh (by unfold μ;rw[u8];exact hz),q P _ Y (R3.wr hi hl hσ (by exact id) ?_)⟩;show upd _ _ _ _=_;rw[zh,Ek]
     .exact q.elim
    .exact q.elim
   |exc c fs=>exact id
   |wall=>exact id
  .exact q.elim
 |exc c fs=>exact id
 |wall=>exact id
end
section
variable {X:Cx}{W:RC}{E:XK}{o e:Pc}{es:OX}{m:SD}{ms:TK}{pos jW:Pos}{mn:Str}{n:Nat}
end
section
variable {X:Cx}{k:Nat}{f C:Addr}{fd:Pl}{ps:OP}{sp:Sp}{x m:Str}{p pos jW:Pos}{e o:Pc}{es:OX}{ta te:TE}{t:TA}{alts:Addr->Sp->Prop}
end
section
variable {X:Cx}{C:LC}{S S' S1 S2 Sb Sc:OS}{e o:Pc}{es:OX}{ws:OW}{m:ME}{ms:MA}{pos p pos' jW:Pos}{x y mn:Str}{k i j:Nat}{f:Addr}{fd:Pl}{ps:OP}{fr w:Bool}{g:Pd}{m1 m2:MS}
end
end L2
namespace L2
open PySem PySem.W PyProof.Rows
def XX{α:Type}(P:P_)(f:PY):KasT α->(α->Prop)->Prop
 |.ret a,Q=>Q a
 |.ask i j k,Q=>P i/\P j/\XX P f (k (f i j)) Q
def ZL{α β:Type}{P:P_}{f:PY}{g:α->KasT β}{Q:β->Prop}:∀{t:KasT α},XX P f t (λa=>XX P f (g a) Q)->XX P f (t.bind g) Q
 |.ret _,h=>h
 |.ask _ _ _,h=>⟨h.1,h.2.1,ZL h.2.2⟩
def qd{α:Type}{P:P_}{f:PY}{Q Q':α->Prop}(hq:∀a,Q a->Q' a):∀{t:KasT α},XX P f t Q->XX P f t Q'
 |.ret _,h=>hq _ h
 |.ask _ _ _,h=>⟨h.1,h.2.1,qd hq h.2.2⟩
def sY{α:Type}{P:P_}{f:PY}{cmp:Nat->Nat->(Bool->Shared->Prop)->Shared->Prop}{J:Shared->Prop}(hc:∀i j C s,P i->P j->J s->(∀s',J s'->C (f i j) s')->cmp i j C s){Q:α->Prop}{R:α->Shared->Prop}(hq:∀a s,Q a->J s->R a s):∀{t:KasT α}{s:OV},J s->XX P f t Q->t.kasWp cmp R s
 |.ret a,s,hs,h=>hq a s h hs
 |.ask i j k,s,hs,h=>hc i j _ s h.1 h.2.1 hs λs' hs'=>sY hc hq hs' h.2.2
abbrev ω(p:PJ)(k:Nat):Nat:=p.getD k 0
def K6:ω p k=(p[k]?).getD 0:=by
 unfold ω;by_cases h:k<p.size
 .simp[Array.getD,h]
 .simp[Array.getD,h]
def c9(hj:j<=p.size)(k:Nat):ω (kas_rev p i j) k=if i<=k/\k<j then ω p (i+j-1-k)else ω p k:=by rw[K6,K6,K6];unfold kas_rev;rw[getElem?_mirror_all hj];split<;>rfl
def bX(hk:k<p.size)(hl:l<=k)(i:Nat):ω (bubble p k (k-l)) i=if i=l then ω p k else if l<i/\i<=k then ω p (i-1)else ω p i:=by
 rw[K6,K6,K6,K6,getElem?_bubble hk (k-l) (by omega),show k-(k-l)=l by omega];split
 .rfl
 .split<;>rfl
section
variable {O:KeyOrd}{key:Nat->O.α}{n:Nat}
abbrev kk(key:Nat->O.α)(p:PJ)(i:Nat):O.α:=key (ω p i)
abbrev Ψ(key:Nat->O.α)(i j:Nat):Bool:=O.blt (key i) (key j)
structure Pm(n:Nat)(p:PJ):Prop where
 perm:p.toList.Perm (List.range n)
 size:p.size=n
def Pm.rev(h:Pm n p):Pm n (kas_rev p i j):=⟨(a12.mp (mirror_perm p i j _)).trans h.perm,(kas_rev_size i j).trans h.size⟩
def Pm.bub(h:Pm n p):Pm n (bubble p i j):=⟨(a12.mp (bubble_perm p i j)).trans h.perm,(bubble_size p i j).trans h.size⟩
def Pm.lt(h:Pm n p)(h0:0<n)(k:Nat):ω p k<n:=by
 rw[K6];by_cases hk:k<p.size
 .rw[getElem?_pos p k hk];have:p[k]∈p.toList:=by simp
  exact Λ.mp (h.perm.mem_iff.mp this)
 .rw[getElem?_neg p k hk];exact h0
def Up(key:Nat->O.α)(p:PJ)(m:Nat):Prop:=∀i j,i<=j->j<m->O.kle (kk key p i) (kk key p j)
def Dn(key:Nat->O.α)(p:PJ)(m:Nat):Prop:=∀i j,i<=j->j<m->O.kle (kk key p j) (kk key p i)
def sZ{p:PJ}(hp:Pm n p)(h0:0<n):∀{f m:Nat},1<=m->m+f<=n->Up key p m->XX (·<n) (Ψ key) (kas_asc p f m) λr=>m<=r/\r<=m+f/\Up key p r/\(r<m+f->O.klt (kk key p r) (kk key p (r-1)))
 |0,m,_,_,hu=>⟨O2 _,O2 _,hu,λh=>absurd h (by omega)⟩
 |f+1,m,h1,hm,hu=>by
  refine⟨hp.lt h0 _,hp.lt h0 _,?_⟩;show XX _ _ (if O.blt (kk key p m) (kk key p (m-1))=true then _ else _) _;cases hc:O.blt (kk key p m) (kk key p (m-1))with
  |true=>exact⟨O2 _,by omega,hu,λ_=>hc⟩
  |false=>
   have hu':Up key p (m+1):=λi j hij hj=>by
    by_cases c:j=m
    .subst c;by_cases c2:i=j
     .subst c2;exact O.irrefl _
     .exact a2o (hu i (j-1) (by omega) (by omega)) hc
    .exact hu i j hij (by omega)
   exact qd (λr ⟨a,b,c,d⟩=>⟨by omega,by omega,c,λh=>d (by omega)⟩) (sZ hp h0 (f:=f) (m:=m+1) (by omega) (by omega) hu')
structure Fz(key:Nat->O.α)(n:Nat)(p:PJ)(m q:Nat):Prop where
 pm:Pm n p
 dn:Dn key p m
 le:m<=n
 qm:q+1<=m
 eq:∀k,m-(q+1)<=k->k<m->kk key p k=kk key p (m-1)
def Fz.alike(h:Fz key n p m q)(k:Nat):kk key (kas_rev p (m-(q+1)) m) k=kk key p k:=by
 have hm:=h.le;have hs:=h.pm.size;have hq:=h.qm;unfold kk;rw[c9 (by omega)];split
 .rename_i c;have e1:=h.eq (m-(q+1)+m-1-k) (by omega) (by omega);have e2:=h.eq k c.1 c.2;exact e1.trans e2.symm
 .rfl
def iK(h0:0<n):∀{f m q:Nat}{p:PJ},m+f<=n->Fz key n p m q->XX (·<n) (Ψ key) (kas_desc f p m q) λr=>m<=r.2.1/\r.2.1<=m+f/\Fz key n r.1 r.2.1 r.2.2
 |0,m,q,p,_,h=>⟨O2 _,O2 _,h⟩
 |f+1,m,q,p,hm,h=>by
  have hq:=h.qm;refine⟨h.pm.lt h0 _,h.pm.lt h0 _,?_⟩;show XX _ _ (if O.blt (kk key p m) (kk key p (m-1))=true then _ else _) _;have dn1:∀{p':PJ},(∀k,kk key p' k=kk key p k)->O.kle (kk key p m) (kk key p (m-1))->Dn key p' (m+1):=λ{p'} he hk i j hij hj=>by
   rw[he,he];by_cases c:j=m
   .subst c;by_cases c2:i=j
    .subst c2;exact O.irrefl _
    .exact a2o hk (h.dn i (j-1) (by omega) (by omega))
   .exact h.dn i j hij (by omega)
  cases hc:O.blt (kk key p m) (kk key p (m-1))with
  |true=>
   have hk:O.kle (kk key p m) (kk key p (m-1)):=a2p hc;have go:∀{p':PJ},Pm n p'->(∀k,kk key p' k=kk key p k)->XX (·<n) (Ψ key) (kas_desc f p' (m+1) 0) λr=>m<=r.2.1/\r.2.1<=m+(f+1)/\Fz key n r.1 r.2.1 r.2.2:=λ{p'} hp he=>
    qd (λr ⟨a,b,c⟩=>⟨by omega,by omega,c⟩) (iK h0 (f:=f) (m:=m+1) (q:=0) (p:=p') (by omega) ⟨hp,dn1 he hk,by omega,by omega,λk k1 k2=>by rw[show k=m+1-1 by omega]⟩)
   show XX _ _ (if q>0 then kas_desc f (kas_rev p (m-(q+1)) m) (m+1) 0 else kas_desc f p (m+1) 0) _;by_cases c:q>0
   .rw[if_pos c];exact go h.pm.rev h.alike
   .rw[if_neg c];exact go h.pm λ_=>rfl
  |false=>
   refine⟨h.pm.lt h0 _,h.pm.lt h0 _,?_⟩;show XX _ _ (if O.blt (kk key p (m-1)) (kk key p m)=true then _ else _) _;cases hd:O.blt (kk key p (m-1)) (kk key p m)with
   |true=>exact⟨O2 _,by show m<=m+(f+1);omega,h⟩
   |false=>
    have e:kk key p m=kk key p (m-1):=O.total _ _ hc hd;refine qd (λr ⟨a,b,c⟩=>⟨by omega,by omega,c⟩) (iK h0 (f:=f) (m:=m+1) (q:=q+1) (p:=p) (by omega) ⟨h.pm,dn1 (λ_=>rfl) hd,by omega,by omega,λk k1 k2=>?_⟩);by_cases c:k=m
    .rw[c];rfl
    .rw[show m+1-1=m by omega,e];exact h.eq k (by omega) (by omega)
abbrev MU(key:Nat->O.α)(n:Nat):Nat×Array Nat->Prop:=λr=>Pm n r.2/\1<=r.1/\r.1<=n/\Up key r.2 r.1
def mD(h0:0<n)(hp:Pm n p)(h1:1<=m)(hm:m<=n)(hd:Dn key p m):XX (·<n) (Ψ key) (kas_tail3 m n p) (MU key n):=by
 have hs:=hp.size;have hu:Up key (kas_rev p 0 m) m:=λi j hij hj=>by unfold kk;rw[c9 (by omega),c9 (by omega),if_pos ⟨by omega,by omega⟩,if_pos ⟨by omega,by omega⟩];exact hd (0+m-1-j) (0+m-1-i) (by omega) (by omega)
 refine ZL (qd (λr ⟨a,b,c,_⟩=>?_) (sZ hp.rev h0 (f:=n-m) (m:=m) h1 (by omega) hu));exact⟨hp.rev,by show 1<=r;omega,by show r<=n;omega,c⟩
def Uz(h0:0<n)(hp:Pm n p)(h1:1<=m)(hm:m+1<=n)(he:∀k,k<m->kk key p k=kk key p (m-1))(hl:O.klt (kk key p m) (kk key p (m-1))):XX (·<n) (Ψ key) (kas_descPart m n p) (MU key n):=by
 have hs:=hp.size;have hf:Fz key n p (m+1) 0:=⟨hp,λi j hij hj=>by
  by_cases c:j=m
  .subst c;by_cases c2:i=j
   .subst c2;exact O.irrefl _
   .rw[he i (by omega)];exact a2p hl
  .rw[he i (by omega),he j (by omega)];exact O.irrefl _,by omega,by omega,λk k1 k2=>by rw[show k=m+1-1 by omega]⟩
 refine ZL (qd (λr ⟨a,b,c⟩=>?_) (iK h0 (f:=n-(m+1)) (m:=m+1) (q:=0) (p:=p) (by omega) hf));have cm:=c.qm;by_cases hq:r.2.2>0
 .rw[if_pos hq];exact mD h0 c.pm.rev (by omega) c.le λi j hij hj=>by rw[c.alike,c.alike];exact c.dn i j hij hj
 .rw[if_neg hq];exact mD h0 c.pm (by omega) c.le c.dn
def Ay(h0:0<n)(hp:Pm n p):XX (·<n) (Ψ key) (kas_count n p) (MU key n):=by
 have hs:=hp.size;refine ZL (qd (λm ⟨a,b,c,d⟩=>?_) (sZ (key:=key) hp h0 (f:=n-1) (m:=1) (O2 _) (by omega) λi j hij hj=>by rw[show i=j by omega];exact O.irrefl _));by_cases e1:(m==n)=true
 .rw[if_pos e1];exact⟨hp,a,by show m<=n;omega,c⟩
 .rw[if_neg e1];have hmn:m<n:=by have:m≠n:=λq=>e1 (by rw[q];exact a0Z _);omega
  have hl:=d (by omega);by_cases e2:m>1
  .rw[if_pos e2];refine⟨hp.lt h0 _,hp.lt h0 _,?_⟩;show XX _ _ (if O.blt (kk key p 0) (kk key p (m-1))=true then _ else _) _;cases hc:O.blt (kk key p 0) (kk key p (m-1))with
   |true=>exact⟨hp,a,by show m<=n;omega,c⟩
   |false=>
    have e:kk key p 0=kk key p (m-1):=O.total _ _ hc (c 0 (m-1) (by omega) (by omega));have al:∀k,k<m->kk key p k=kk key p (m-1):=λk hk=>O.total _ _ (by rw[<- e];exact c 0 k (by omega) hk) (c k (m-1) (by omega) (by omega));have rv:∀k,kk key (kas_rev p 0 m) k=kk key p k:=λk=>by
     unfold kk;rw[c9 (by omega)];split
     .rename_i z;exact(al (0+m-1-k) (by omega)).trans (al k z.2).symm
     .rfl
    exact Uz h0 hp.rev a hmn (λk hk=>by rw[rv,rv];exact al k hk) (by rw[rv,rv];exact hl)
  .rw[if_neg e2];exact Uz h0 hp a hmn (λk hk=>by rw[show k=m-1 by omega]) hl
def kl{p:PJ}(hp:Pm n p)(h0:0<n){k:Nat}(hu:Up key p k):∀{f l r:Nat},l<=r->r<=k->r-l<=f->(∀i,i<l->O.kle (kk key p i) (kk key p k))->(∀i,r<=i->i<k->O.klt (kk key p k) (kk key p i))->
  XX (·<n) (Ψ key) (kas_place p k f l r) λl=>l<=k/\(∀i,i<l->O.kle (kk key p i) (kk key p k))/\∀i,l<=i->i<k->O.klt (kk key p k) (kk key p i)
 |0,l,r,lr,rk,hf,h1,h2=>⟨by omega,h1,λi hi=>h2 i (by omega)⟩
 |f+1,l,r,lr,rk,hf,h1,h2=>by
  show XX _ _ (if l ≥ r then KasT.ret l else _) _;by_cases c:l ≥ r
  .rw[if_pos c];exact⟨by omega,h1,λi hi=>h2 i (by omega)⟩
  .rw[if_neg c];refine⟨hp.lt h0 _,hp.lt h0 _,?_⟩;show XX _ _ (if O.blt (kk key p k) (kk key p ((l+r) / 2))=true then _ else _) _;cases hc:O.blt (kk key p k) (kk key p ((l+r) / 2))with
   |true=>exact kl hp h0 hu (f:=f) (l:=l) (r:=(l+r) / 2) (by omega) (by omega) (by omega) h1 λi i1 i2=>KeyOrd.klt_of_klt_of_kle hc (hu _ _ i1 i2)
   |false=>exact kl hp h0 hu (f:=f) (l:=(l+r) / 2+1) (r:=r) (by omega) rk (by omega) (λi hi=>a2o (hu i ((l+r) / 2) (by omega) (by omega)) hc) h2
def Ci(h0:0<n):∀{f k:Nat}{p:PJ},Pm n p->k+f<=n->Up key p k->XX (·<n) (Ψ key) (kas_bin f p k) λp'=>Pm n p'/\Up key p' (k+f)
 |0,k,p,hp,_,hu=>⟨hp,hu⟩
 |f+1,k,p,hp,hk,hu=>by
  have hs:=hp.size;refine ZL (qd (λl ⟨a,b,c⟩=>?_) (kl hp h0 hu (f:=k) (l:=0) (r:=k) (Tx _) (O2 _) (by omega) (λi hi=>absurd hi (Ω _)) λi i1 i2=>absurd i2 (by omega)));refine qd (λp' ⟨x,y⟩=>⟨x,by rw[show k+(f+1)=k+1+f by omega];exact y⟩) (Ci h0 (f:=f) (k:=k+1) hp.bub (by omega) λi j hij hj=>?_);unfold kk;rw[bX (by omega) a,bX (by omega) a];by_cases i1:i=l
  .rw[if_pos i1];by_cases j1:j=l
   .rw[if_pos j1];exact O.irrefl _
   .rw[if_neg j1,if_pos ⟨by omega,by omega⟩];exact a2p (c (j-1) (by omega) (by omega))
  .rw[if_neg i1];by_cases j1:j=l
   .rw[if_pos j1,if_neg (by omega)];exact b i (by omega)
   .rw[if_neg j1];by_cases i2:l<i/\i<=k
    .rw[if_pos i2,if_pos ⟨by omega,by omega⟩];exact hu (i-1) (j-1) (by omega) (by omega)
    .rw[if_neg i2];by_cases j2:l<j/\j<=k
     .rw[if_pos j2];exact hu i (j-1) (by omega) (by omega)
     .rw[if_neg j2];exact hu i j hij (by omega)
def s_(h0:0<n):XX (·<n) (Ψ key) (kas_sort n) λp=>Pm n p/\Up key p n:=by
 refine ZL (qd (λr ⟨a,b,c,d⟩=>?_) (Ay (key:=key) h0 (p:=List.toArray (List.range n)) ⟨List.Perm.refl _,by simp⟩));by_cases h:r.1<n
 .rw[if_pos h,show max r.1 1=r.1 by omega];refine qd (λp ⟨x,y⟩=>⟨x,by rw[show n=r.1+(n-r.1) by omega];exact y⟩) (Ci h0 (f:=n-r.1) (k:=r.1) a (by omega) d)
 .rw[if_neg h];exact⟨a,by rw[show n=r.1 by omega];exact d⟩
end
end L2
namespace L2
open PySem PySem.Spec PyProof.Rows PySem.W
abbrev bY:=Int×Int×Str
def El(x y:bY):Bool:=if x.1=y.1 then(if x.2.1=y.2.1 then decide (x.2.2.cps.toList<y.2.2.cps.toList)else decide (x.2.1<y.2.1))else decide (x.1<y.1)
def Em{a b:Str}(h:a.cps.toList=b.cps.toList):a=b:=by obtain⟨x⟩:=a;obtain⟨y⟩:=b;exact SS Str.mk (a2q.mp h)
def HD:KeyOrd where
 α:=bY
 blt:=El
 irrefl a:=by unfold El;rw[if_pos rfl,if_pos rfl];exact strKind.irrefl _
 trans a b c h1 h2:=by
  unfold El at *;by_cases e1:a.1=b.1
  .rw[if_pos e1]at h1;by_cases e2:b.1=c.1
   .rw[if_pos e2]at h2;rw[if_pos (e1.trans e2)];by_cases f1:a.2.1=b.2.1
    .rw[if_pos f1]at h1;by_cases f2:b.2.1=c.2.1
     .rw[if_pos f2]at h2;rw[if_pos (f1.trans f2)];exact strKind.trans _ _ _ h1 h2
     .rw[if_neg f2]at h2;rw[if_neg (by rw[f1];exact f2),f1];exact h2
    .rw[if_neg f1]at h1;by_cases f2:b.2.1=c.2.1
     .rw[if_pos f2]at h2;rw[if_neg (by rw[<- f2];exact f1),<- f2];exact h1
     .rw[if_neg f2]at h2;have h1:=ϗ h1;have h2:=ϗ h2;rw[if_neg (by omega)];exact O9 (by omega)
   .rw[if_neg e2]at h2;rw[if_neg (by rw[e1];exact e2),e1];exact h2
  .rw[if_neg e1]at h1;have h1:=ϗ h1;by_cases e2:b.1=c.1
   .rw[if_neg (by omega)];exact O9 (by omega)
   .rw[if_neg e2]at h2;have h2:=ϗ h2;rw[if_neg (by omega)];exact O9 (by omega)
 negTrans a b c h:=by
  unfold El at *;by_cases e1:a.1=b.1
  .rw[if_pos e1];by_cases e2:b.1=c.1
   .rw[if_pos (e1.trans e2)]at h;rw[if_pos e2];by_cases f1:a.2.1=b.2.1
    .rw[if_pos f1];by_cases f2:b.2.1=c.2.1
     .rw[if_pos (f1.trans f2)]at h;rw[if_pos f2];exact strKind.negTrans _ _ _ h
     .rw[if_neg (by rw[f1];exact f2)]at h;rw[if_neg f2];exact .inr (by rw[<- f1];exact h)
    .rw[if_neg f1];by_cases f2:b.2.1=c.2.1
     .rw[if_neg (by rw[<- f2];exact f1)]at h;exact .inl (by rw[f2];exact h)
     .rw[if_neg f2];by_cases g:a.2.1<b.2.1
      .exact .inl (O9 g)
      .by_cases f3:a.2.1=c.2.1
       .exact .inr (O9 (by omega))
       .rw[if_neg f3]at h;have h:=ϗ h;exact .inr (O9 (by omega))
   .rw[if_neg (by rw[e1];exact e2)]at h;rw[if_neg e2];exact .inr (by rw[<- e1];exact h)
  .rw[if_neg e1];by_cases g:a.1<b.1
   .exact .inl (O9 g)
   .refine .inr ?_;by_cases e2:b.1=c.1
    .rw[if_neg (by rw[<- e2];exact e1)]at h;have h:=ϗ h;omega
    .rw[if_neg e2];by_cases f3:a.1=c.1
     .exact O9 (by omega)
     .rw[if_neg f3]at h;have h:=ϗ h;exact O9 (by omega)
 total a b h1 h2:=by
  unfold El at *;by_cases e1:a.1=b.1
  .rw[if_pos e1]at h1;rw[if_pos e1.symm]at h2;by_cases f1:a.2.1=b.2.1
   .rw[if_pos f1]at h1;rw[if_pos f1.symm]at h2;have:=Em (strKind.total _ _ h1 h2);exact a3h e1 (a3h f1 this)
   .rw[if_neg f1]at h1;rw[if_neg (Ne.symm f1)]at h2;have h1:=a1r h1;have h2:=a1r h2;omega
  .rw[if_neg e1]at h1;rw[if_neg (Ne.symm e1)]at h2;have h1:=a1r h1;have h2:=a1r h2;omega
def Lm(h:Heap)(v:Value)(k:bY):Prop:=∃a o n t1 t2 t3,v=.ref a/\h.get? a=some o/\o.cls=.type "tuple"/\o.data=.seq #[.int k.1 t1,.int k.2.1 t2,.str k.2.2 t3] n
section
variable {prog:Pg}{w:Pk}{A:Po}{E:OT}{s:OV}
def lt3(h1:Lm s.heap x k1)(h2:Lm s.heap y k2)(h:Q (El k1 k2) s):wpAny (model prog w) A (keyLt' (tuples' true) x y) Q E s:=by
 obtain⟨a,o,n,t1,t2,t3,rfl,ho,_,hd⟩:=h1;obtain⟨b,p,m,u1,u2,u3,rfl,hp,_,hq⟩:=h2;refine kat_lt ho hd hp hq ?_;unfold El at h;refine kat_cons (a2c ?_);by_cases e1:k1.1=k2.1
 .rw[if_pos e1]at h;rw[show(k1.1==k2.1)=true from S9.mpr e1];refine kat_yes (kat_cons (a2c ?_));by_cases e2:k1.2.1=k2.2.1
  .rw[if_pos e2]at h;rw[show(k1.2.1==k2.2.1)=true from S9.mpr e2];refine kat_yes (kat_cons (wpAny_eqBool_str ?_));by_cases e3:k1.2.2=k2.2.2
   .rw[O9 e3];refine kat_yes (kat_nil ?_);rw[e3,show decide (k2.2.2.cps.toList<k2.2.2.cps.toList)=false from strKind.irrefl _]at h;exact h
   .rw[O8 e3];exact kat_no (kat_one _ _ (lt_str h))
  .rw[if_neg e2]at h;rw[show(k1.2.1==k2.2.1)=false from Ν.mpr e2];exact kat_no (kat_one _ _ (lt_int h))
 .rw[if_neg e1]at h;rw[show(k1.1==k2.1)=false from Ν.mpr e1];exact kat_no (oneLt_int h)
def fI(h:Heap):List Value->List bY->Prop
 |[],[]=>True
 |v::vs,k::ks=>Lm h v k/\fI h vs ks
 |_,_=>False
def fI.get(d:bY):∀{vs:OZ}{ks:List bY}{i:Nat},fI h vs ks->i<ks.length->Lm h (vs.getD i .none) (ks.getD i d):=by
 intro vs
 induction vs with
 |nil=>
  intro ks i t hi;cases ks with
  |nil=>exact absurd hi (Ω _)
  |cons k ks=>exact t.elim
 |cons v vs ih=>
  intro ks i t hi;cases ks with
  |nil=>exact t.elim
  |cons k ks=>
   cases i with
   |zero=>exact t.1
   |succ i=>exact ih (ks:=ks) (i:=i) t.2 (Nat.lt_of_succ_lt_succ hi)
def fI.kat{h:Heap}:∀{vs:OZ}{ks:List bY},fI h vs ks->∃fs:List Value,KatTups h vs fs/\fs.length=ks.length/\∀v∈fs,∃n t,v=.int n t
 |[],[],_=>⟨[],trivial,rfl,λv h=>by cases h⟩
 |_::_,_::_,⟨⟨a,o,n,t1,t2,t3,e,ho,hc,hd⟩,t⟩=>by obtain⟨fs,f1,f2,f3⟩:=fI.kat t;exact⟨_::fs,⟨⟨a,o,_,n,e,ho,hc,hd,rfl⟩,f1⟩,by rw[v0,v0,f2],λv hv=>(P9.mp hv).elim (λe=>⟨_,_,e⟩) (f3 v)⟩
 |[],_::_,t=>t.elim
 |_::_,[],t=>t.elim
def MV(t:fI s.heap vs ks)(h0:0<ks.length)(h:Q (tuples' true) s):wpAny (model prog w) A (keyKind' vs.toArray) Q E s:=by obtain⟨fs,f1,f2,f3⟩:=t.kat;refine kat_kind (T:=.type "int") f1 (by omega) (λv hv=>?_) (by decide) (by rw[show((Value.type "int") != Value.type "tuple")=true by decide];exact h);obtain⟨n,t,rfl⟩:=f3 v hv;exact .now
end
section
variable {X:Cx}{Sa:OR}{Y:St}{H:Hp}{s:OV}{h':Heap}
def Inv.MW(I:Inv X Sa Y H s)(k:∀b o,b≠it->s.heap.get? b=some o->h'.get? b=some o)(hn:H it=none)(hL:it≠X.env.locals)(h1:it∈X.ex\/X.s₀.heap.objs.size<=it)(h2:∀x c,X.env.cells.lookup x=some c->c≠it)(h3:∀p∈X.pn++Sa,p.1≠it)(new:ql X.prog X.w (upd H it o) h' it o):Inv X Sa Y (upd H it o) { s with heap:=h',toks:=t' }:=by
 have nit:∀b u,H b=some u->b≠it:=λb u e z=>by rw[z,hn]at e;cases e
 have nc:∀b,b∉[it]->b≠it:=λb hc z=>hc (by simp[z]);refine I.step (g':=s.gens) (d':=s.drawn) (ch:=[it]) (λb hb=>?_) (λb o _ _ hc e _=>k b o (nc b hc) e) (λb o _ _ hc e _=>⟨o.slots,k b o (nc b hc) e⟩) (λb _ hc _ n=>by rw[zl (nc b hc)];exact n)
  (λb o hc e=>⟨o,k b o (nc b hc) e⟩) (λb xs e=>by rw[zl (nit b _ e)];exact e) (λb _ _ e=>by rw[zl (nit b _ e)];exact e) (λb ps e=>⟨#[],by rw[zl (nit b _ e),e];simp⟩) (λm hm=>?_) (λb u e=>?_) I.bare
 .have e:b=it:=by simpa using hb
  subst e;exact⟨h1,hL,h2,h3⟩
 .obtain⟨o,es,ep,ho,r⟩:=hm;exact⟨o,es,ep,k _ o (Ne.symm hL) ho,r⟩
 .by_cases hb:b=it
  .subst hb;rw[zh]at e;cases e;exact new
  .rw[zl hb]at e;refine(I.hok b u e).oP (λc v hc q=>k c v ?_ q) (λc q=>by rw[zl (nit c _ q)];exact q) λc xs q=>by rw[zl (nit c _ q)];exact q
   rcases hc with z|z
   .rw[z];exact nit b u e
   .exact nit c _ z
structure Az(X:Cx)(Sa:OR)(a:Addr):Prop where
 loc:a≠X.env.locals
 fs:a∉X.fs
 ex:a∈X.ex\/X.s₀.heap.objs.size<=a
 cel:∀x c,X.env.cells.lookup x=some c->c≠a
 pin:∀p∈X.pn++Sa,p.1≠a
def Inv.NK{H':Hp}(I:Inv X Sa Y H s)(hb:s.heap.objs.size<=b):Az X Sa b:=by have:=I.Fs (H':=λ_=>none) hb rfl;exact⟨this.2.1,this.2.2.1,this.2.2.2.1,this.2.2.2.2.1,this.2.2.2.2.2⟩
def Inv.Ln(I:Inv X Sa Y H s)(w:Az X Sa a)(hn:H a=none)(ho:s.heap.get? a=some o)(hc:∀v,o.data≠.cell v):Inv X (Sa++[(a,o)]) Y H s:=
 I.cB λp hp=>(T8.mp hp).elim (λz=>I.pin p (R8 _ z)) λz=>by rw[R9.mp z];exact⟨ho,hn,w.loc,w.fs,hc⟩
def Inv.at1(I:Inv X (Sa++[(a,o)]) Y H s):s.heap.get? a=some o/\H a=none:=by have:=I.pin (a,o) (R8 _ (R8 _ O0));exact⟨this.1,this.2.1⟩
end
def tf(sp:Sp):List V->List V->Hp->(List V->Hp->Prop)->Prop
 |[],acc,H,Q=>Q acc H
 |v::vs,acc,H,Q=>sp [v] H (λz H'=>tf sp vs (acc++[z]) H' Q) (λ_ _ _=>False)
def aR(K:Pw)(H:Hp):List V->List bY->Prop
 |[],[]=>True
 |z::zs,k::ks=>(∃p,z=.ref p/\SN K H p [.int k.1,.int k.2.1,.str k.2.2])/\aR K H zs ks
 |_,_=>False
def aR.len{K:Pw}{H:Hp}:∀{zs:Pa}{ks:List bY},aR K H zs ks->zs.length=ks.length
 |[],[],_=>rfl
 |_::_,_::_,t=>by rw[v0,v0,aR.len t.2]
 |[],_::_,t=>t.elim
 |_::_,[],t=>t.elim
def aR.oX{X:Cx}{Sa:OR}{Y:St}{H:Hp}{s:OV}(I:Inv X Sa Y H s):∀{zs:Pa}{ks:List bY}{us:OZ},aR X.K H zs ks->Vals zs us->fI s.heap us ks
 |[],[],_,_,.nil=>trivial
 |_::_,k::_,_,⟨⟨p,e,hq⟩,t⟩,.cons r rs=>by
  subst e;cases r;refine⟨?_,aR.oX I t rs⟩;obtain⟨Sf,r',⟨o,ho,hc,n,hd⟩,_⟩:=I.tuple hq;cases r' with
  |cons r1 r'=>cases r' with
   |cons r2 r'=>cases r' with
    |cons r3 r'=>cases r';obtain⟨t1,rfl⟩:=r1;obtain⟨t2,rfl⟩:=r2;obtain⟨t3,rfl⟩:=r3;exact⟨p,o,n,t1,t2,t3,rfl,ho,hc,hd⟩
 |[],_::_,_,t,_=>t.elim
 |_::_,[],_,t,_=>t.elim
def Ο(kz:List bY)(q:OS):Prop:=q.Perm (List.range kz.length)/\q.Pairwise λi j=>HD.kle (kz.getD i (0,0,"")) (kz.getD j (0,0,""))
def Cj(sp:Sp)(K:Pw)(ys:Pa)(H:Hp)(Q:VK):Prop:=ys.length<64/\tf sp ys [] H λzs H'=>∃kz:List bY,kz.length=ys.length/\aR K H' zs kz/\∀(q:OS) a,Ο kz q->H' a=none->Q (.ref a) (upd H' a (.lst (q.map λi=>ys.getD i .non)))
def Ck(hp:Pm kz.length p)(hu:Up (O:=HD) (λi=>kz.getD i (0,0,"")) p kz.length):Ο kz p.toList:=by
 refine⟨hp.perm,?_⟩;rw[a19];intro i j hi hj hij;have hs:=hp.size;rw[a0O]at hi hj;have:=hu i j (a1I hij) (by omega);have e:∀k (hk:k<p.size),ω p k=p.toList[k]'(by rw[a0O];exact hk):=λk hk=>by rw[K6,getElem?_pos p k hk];simp
 unfold kk at this;rw[e i hi,e j hj]at this;exact this
def AA(F:yW X.prog X.w X.K X.mg X.base (Sj X.prog X.w) k f fd ps sp)(hr:vf k A)(hA:xk X.prog X.w X.K X.mg X.base A X.stack s H)(hb:Binds X.K fd ps [])(I:Inv X Sa Y H s)(r:RelV v u)(h:sp [v] H Q λ_ _ _=>False):wpAny (Rk X) A (call (.ref f) [u]) (EP X Sa Y Q) E s:=by
 have r2:Vals [v] [u]:=.cons r .nil;have hl:([u]++[]).length=ps.length:=by rw[P7,<- r2.length];exact F.len _ _ _ _ h
 have bd:=hb s [u] I.kIn hl;rw[P7]at bd;refine ύ (ϙ (F.run A X.stack s H ⟨[u],[]⟩ [u] [v] Q _ hr hA bd r2 h) λr s' hq=>?_);cases r with
 |error e=>exact(ft hq).elim
 |ok fl=>
  cases fl with
  |ret u=>exact I.after hq
  |next=>exact False.elim hq
  |brk=>exact False.elim hq
  |cont=>exact False.elim hq
section
variable {X:Cx}{k:Nat}{f:Addr}{fd:Pl}{ps:OP}{sp:Sp}
def mE{Sa:OR}{Y:St}{A:Po}{E:OT}{kS:Addr}{Q0:List V->Hp->Prop}{body:Value->PUnit->Sem (ForInStep PUnit)}(F:yW X.prog X.w X.K X.mg X.base (Sj X.prog X.w) k f fd ps sp)(hr:vf k A)(hA:A.frames=X.A.frames)(hb:Binds X.K fd ps [])(w:Az X Sa kS)(oO:∀x s (C:Shared->Prop),wpAny (Rk X) A (call (.ref f) [x]) (λz s'=>wpAny (Rk X) A (Builtin.List.listUpdate (.ref kS) (·.push z)) (λ_ s''=>C s'') (λ_ _=>False) s') (λ_ _=>False) s->wpAny (Rk X) A (body x ⟨⟩) (λr s'=>r=.yield ⟨⟩/\C s') E s):
  ∀{ys:Pa}{Sf:OZ}{acc:Pa}{us:OZ}{e:Nat}{H:Hp}{s:OV},acc.length+ys.length<64->Vals ys Sf->Vals acc us->Inv X (Sa++[(kS,seqObj "list" us.toArray e)]) Y H s->tf sp ys acc H Q0->
   wpAny (Rk X) A (forIn Sf PUnit.unit body) (λ_ s'=>∃zs us' e' H',zs.length=acc.length+ys.length/\Vals zs us'/\Inv X (Sa++[(kS,seqObj "list" us'.toArray e')]) Y H' s'/\Q0 zs H') E s
 |[],_,acc,us,e,H,s,_,.nil,ra,I,h=>by rw[List.forIn_nil];exact O5 ⟨acc,us,e,H,rfl,ra,I,h⟩
 |v::ys,_,acc,us,e,H,s,hl,.cons (b:=u) (l₂:=Sf) r rs,ra,I,h=>by
  rw[v0]at hl;have hul:=ra.length;rw[List.forIn_cons];refine f8 (Tg (oO u s (λs'=>∃(zs:(V×Nat)×Value) (H':Hp),Inv X (Sa++[(kS,seqObj "list" (us++[zs.2]).toArray zs.1.2)]) Y H' s'/\RelV zs.1.1 zs.2/\tf sp ys (acc++[zs.1.1]) H' Q0) ?_) (λq s' hq=>?_) λ_ _ x=>x)
  .have A0:xk X.prog X.w X.K X.mg X.base A X.stack s H:=⟨hA.trans I.oR.frames,I.oR.mod,I.oR.bs,I.oR.bsz,I.oR.g6,I.oR.frf,I.oR.hok,I.oR.bare⟩;refine Tg (AA F hr A0 hb I r h) (λz s1 ⟨y,H1,I1,r1,q1⟩=>?_) λ_ _ x=>x;have a1:=I1.at1;have J1:Inv X Sa Y H1 s1:=I1.wm;obtain⟨e2,he2⟩:∃e2,(s1.heap.update kS (Obj.mapSeq (·.push z))).get? kS=some (seqObj "list" (us++[z]).toArray e2):=⟨_,by
    have:=get?_update_seq a1.1 (·.push z);rw[show us.toArray.push z=(us++[z]).toArray by simp]at this;exact this⟩
   refine a13 a1.1 rfl ?_ (by rw[P0,TC];omega) (S6 (a1J (Array.size_push ..)) (by rw[P0,TC];omega));have J2:Inv X Sa Y H1 { s1 with heap:=s1.heap.update kS (Obj.mapSeq (·.push z)),toks:=s1.toks }:=J1.turned (λb o hb ho=>(T1 s1.heap _ (Ne.symm hb)).trans ho) a1.2 w.loc w.ex w.cel w.pin;exact⟨((y,e2),z),H1,J2.Ln w a1.2 he2 (λv h=>by cases h),r1,q1⟩
  .obtain⟨rfl,zs,H',I',r',q'⟩:=hq;show wpAny (Rk X) A (forIn Sf PUnit.unit body) _ E s';refine Tg (mE F hr hA hb w oO (ys:=ys) (acc:=acc++[zs.1.1]) (us:=us++[zs.2]) (by rw[O1,a0T];omega) rs (ra.append (.cons r' .nil)) I' q') (λ_ s2 ⟨zs',us',e',H2,hl',h2,h3,h4⟩=>⟨zs',us',e',H2,?_,h2,h3,h4⟩) λ_ _ x=>x;rw[hl',O1,a0T,v0];omega
def Vals.getD(r:Vals ys Sf)(i:Nat):RelV (ys.getD i .non) (Sf.getD i .none):=by
 induction r generalizing i with
 |nil=>exact rfl
 |cons r rs ih=>
  cases i with
  |zero=>exact r
  |succ i=>exact ih i
def c_{ys:Pa}{Sf:OZ}(r:Vals ys Sf):∀q:List Nat,Vals (q.map λi=>ys.getD i .non) (q.map λi=>Sf.getD i .none)
 |[]=>.nil
 |i::q=>.cons (r.getD i) (c_ r q)
def fJ{Sa:OR}{Y:St}{A:Po}{E:OT}{kS D:Addr}{e e1:Nat}{H:Hp}{s:OV}{us outU:OZ}{outV:Pa}{st:SortSt}{Q:VK}{P:PySem.Fin->Shared->Prop}(w1:Az X Sa D)(w2:Az X (Sa++[(D,seqObj "list" #[] e1)]) kS)(hu:us.length<64)(ho:outU.length<64)(ro:Vals outV outU)(hout:(arrOf st).map (·.2)=List.toArray outU)(hf:failedOf st=none)(I:Inv X (Sa++[(D,seqObj "list" #[] e1)]++[(kS,seqObj "list" us.toArray e)]) Y H s)(hq:Q (.ref D) (upd H D (.lst outV)))(hP:∀s',EP X Sa Y Q (.ref D) s'->P (.done (.ret .none)) s'):wpAny (Rk X) A (ksk_tail D false e1 (.ref kS) st) P E s:=by
 have aK:=I.at1;have J1:Inv X (Sa++[(D,seqObj "list" #[] e1)]) Y H s:=I.wm;have hne:kS≠D:=λz=>w2.pin (D,seqObj "list" #[] e1) (R8 _ (R8 _ O0)) z.symm;have J2:Inv X (Sa++[(D,seqObj "list" #[] e1)]) Y H { s with heap:=s.heap.update kS (Obj.mapSeq λ_=>(#[]:Array Value)),toks:=s.toks }:=J1.turned (λb o hb ho=>(T1 s.heap _ (Ne.symm hb)).trans ho) aK.2 w2.loc w2.ex w2.cel w2.pin;have aD:=J2.at1;unfold ksk_tail
 try dsimp only
 rw[hout];refine f8 (a13 aK.1 rfl ?_ (by rw[P0,TC];omega) (Tx _));refine f8 (wpAny_letGo ?_);refine f8 (seqEpoch_at aD.1 rfl ?_);refine f8 (a13 aD.1 rfl ?_ (Tx _) (by simp only[Bool.false_eq_true,if_false,List.size_toArray];rw[TC];omega));rw[hf];simp only[bne_self_eq_false,Bool.false_eq_true,if_false];refine O5 (hP _ ?_);have e2:=get?_update_seq aD.1 λ_=>List.toArray outU;have hl:=ro.length;have J4:Inv X Sa Y (upd H D (.lst outV)) { s with heap:=(s.heap.update kS (Obj.mapSeq λ_=>(#[]:Array Value))).update D (Obj.mapSeq λ_=>List.toArray outU),toks:=s.toks }:=Inv.MW (s:={ s with heap:=s.heap.update kS (Obj.mapSeq λ_=>(#[]:Array Value)),toks:=s.toks }) J2.wm (λb o hb ho=>(T1 _ _ (Ne.symm hb)).trans ho) aD.2 w1.loc w1.ex w1.cel w1.pin (o:=.lst outV) ⟨by rw[TC];omega,outU,_,ro,e2⟩;exact⟨.ref D,_,J4,rfl,hq⟩
def AB
  (w1:Az X Sa D) (w2:Az X (Sa++[(D,seqObj "list" #[] e1)]) kS) (hy:ys.length<64) (ry:Vals ys Sf) (rz:Vals zs us) (hk:aR X.K H zs kz) (hkl:kz.length=ys.length)
  (I:Inv X (Sa++[(D,seqObj "list" #[] e1)]++[(kS,seqObj "list" us.toArray e)]) Y H s) (hq:∀q:List Nat,Ο kz q->Q (.ref D) (upd H D (.lst (q.map λi=>ys.getD i .non)))) (hP:∀s',EP X Sa Y Q (.ref D) s'->P (.done (.ret .none)) s'):wpAny (Rk X) A (ksk_end D false Sf.toArray e1 (.ref kS) us.toArray) P E s:=by
 have hl:=ry.length;have hzl:=hk.len;have hul:=rz.length;have hit:us.length=Sf.length:=by omega
 unfold ksk_end
 try dsimp only
 simp only[Bool.false_eq_true,if_false];by_cases h2:Sf.toArray.size<2
 .rw[if_pos h2,if_pos h2];rw[P0]at h2;refine f8 (O5 ?_);rw[StateT.run_pure];refine f8 (O5 ?_)
  try dsimp only
  have hs:Ο kz (List.range Sf.length):=by refine⟨by rw[hkl,hl],?_⟩;rw[a19];intro i j hi hj hij;rw[ό]at hi hj;omega
  refine fJ w1 w2 (by omega) (outU:=(List.range Sf.length).map λi=>Sf.getD i .none) (by rw[u8,ό];omega) (c_ ry _) ?_ rfl I (hq _ hs) hP;apply a2q.mp;show((us.toArray.zip Sf.toArray).map (·.2)).toList=_;rw[Array.toList_map,ksk_zip,List.map_snd_zip (by rw[List.toList_toArray,hit];exact O2 _)];refine List.ext_getElem (by rw[u8,ό]) λi h1 h2=>?_;rw[Ϭ,a1Y];simp[h1]
 .rw[if_neg h2,if_neg h2];rw[P0]at h2;have T3:=hk.oX I rz;refine f8 (MV T3 (by omega) ?_);have tree:(kas_sort Sf.length).kasWp (kas_ask X.prog X.w A (tuples' true) us) (λp s'=>s'=s/\Ο kz p.toList) s:=by
   refine sY (P:=(·<kz.length)) (f:=Ψ (O:=HD) λi=>kz.getD i (0,0,"")) (J:=λs'=>s'=s) (Q:=λp=>Ο kz p.toList) (λi j C s' hi hj hs hC=>?_) (λp s' h1 h2=>⟨h2,h1⟩) rfl ?_
   .subst hs;exact lt3 (T3.get (0,0,"") hi) (T3.get (0,0,"") hj) (hC _ rfl)
   .have:=s_ (O:=HD) (key:=λi=>kz.getD i (0,0,"")) (n:=kz.length) (by omega);rw[show Sf.length=kz.length by omega];exact qd (λp ⟨a,b⟩=>Ck a b) this
  refine f8 (Tg (kat_run (ks:=us) (vs:=Sf) (Q:=λst' s'=>s'=s/\∃p:Array Nat,p.size=Sf.length/\arrOf st'=p.map (kas_item (us.toArray.zip Sf.toArray))/\failedOf st'=none/\Ο kz p.toList) hit (by omega) (by omega) (λp st' s' a1 a2 a3 a4=>⟨a4.1,p,a1,a2,a3,a4.2⟩) tree) ?_ λ_ _ x=>x)
  rintro⟨⟨⟩,st'⟩ s' ⟨rfl,p,hp,har,hf,srt⟩
  try dsimp only
  exact fJ w1 w2 (by omega) (outU:=p.toList.map λi=>Sf.getD i .none) (by rw[u8,a0O];omega) (c_ ry _) (kat_snds hit har) hf I (hq _ srt) hP
end
def ou(F:yW X.prog X.w X.K X.mg X.base (Sj X.prog X.w) k f fd ps sp)(hr:vf (k+2) X.A)(hb:Binds X.K fd ps [])(I:Inv X Sa Y H s)(hl:Sq X.K H l ys)(h:Cj sp X.K ys H Q):wpAny (Rk X) X.A (call (.builtin "sorted") [.ref l] [(Str.ofString "key",.ref f)]) (EP X Sa Y Q) E s:=by
 obtain⟨hy,h⟩:=h;obtain⟨Sf,ry,pl,hz⟩:=I.list hl;have hlen:=ry.length;refine call_function_entry_kw kind_sorted plain_sorted entry_sorted (ksk_s1 _ _) ?_;unfold Builtin.«sorted»;refine f8 (m:=checkCount "sorted" 1 1 _) (O5 ?_);refine f8 (collect_list pl.isList ?_ (by rw[TC];omega));refine f8 (wpAny_newList ?_ (by rw[TC];omega));have hsz:((s.heap.push (seqObj "list" #[] 0)).update s.heap.objs.size (Obj.mapSeq (·++Sf.toArray))).objs.size=s.heap.objs.size+1:=by rw[Heap.size_update,size_push']
 have hoL:(((s.heap.push (seqObj "list" #[] 0)).update s.heap.objs.size (Obj.mapSeq (·++Sf.toArray))).push (seqObj "list" Sf.toArray 0)).get? (s.heap.objs.size+1)=some (seqObj "list" Sf.toArray 0):=by rw[<- hsz];exact S5 _ rfl
 have keep:∀b o,s.heap.get? b=some o->(((s.heap.push (seqObj "list" #[] 0)).update s.heap.objs.size (Obj.mapSeq (·++Sf.toArray))).push (seqObj "list" Sf.toArray 0)).get? b=some o:=λb o q=>by have hlt:b<s.heap.objs.size:=O7 q;rw[Heap.get?_push_ne _ _ _ (by rw[hsz];exact P6 (a1w hlt)),a1V _ _ _ _ (P6 hlt),Heap.get?_push_ne _ _ _ (P6 hlt)];exact q
 have hs1:(((s.heap.push (seqObj "list" #[] 0)).update s.heap.objs.size (Obj.mapSeq (·++Sf.toArray))).push (seqObj "list" Sf.toArray 0)).objs.size=s.heap.objs.size+2:=by rw[size_push',hsz]
 show wpAny _ _ _ _ _ { s with heap:=((s.heap.push (seqObj "list" #[] 0)).update s.heap.objs.size (Obj.mapSeq (·++Sf.toArray))).push (seqObj "list" Sf.toArray 0) };rw[hsz];have I1:Inv X Sa Y H { s with heap:=((s.heap.push (seqObj "list" #[] 0)).update s.heap.objs.size (Obj.mapSeq (·++Sf.toArray))).push (seqObj "list" Sf.toArray 0),toks:=s.toks }:=I.kept keep;have w1:Az X Sa (s.heap.objs.size+1):=I.NK (H':=H) (Δ _);have n1:H (s.heap.objs.size+1)=none:=I.hok.fresh (Δ _);generalize((s.heap.push (seqObj "list" #[] 0)).update s.heap.objs.size (Obj.mapSeq (·++Sf.toArray))).push (seqObj "list" Sf.toArray 0)=h1 at hoL hs1 I1 keep;generalize hD:s.heap.objs.size+1=D at hoL w1 n1;refine f8 (ρ (wpAny_call_entry_kw slot_list_sort ⟨_,hoL,rfl⟩ entry_list_sort ?body (ksk_l1 _ _)))
 case body=>
  show wpAny (Rk X) X.A.in1.in1 (Builtin.«list.sort» ⟨[.ref D],[(Str.ofString "key",.ref f)]⟩) _ _ _;rw[ksk_t1];obtain⟨e1,ho1⟩:∃e1,(h1.update D (Obj.mapSeq λ_=>(#[]:Array Value))).get? D=some (seqObj "list" #[] e1):=⟨_,get?_update_seq hoL λ_=>#[]⟩;have I2:Inv X Sa Y H { s with heap:=h1.update D (Obj.mapSeq λ_=>(#[]:Array Value)),toks:=s.toks }:=Inv.turned (s:={ s with heap:=h1,toks:=s.toks }) I1 (λb o hb ho=>(T1 h1 _ (Ne.symm hb)).trans ho) n1 w1.loc w1.ex w1.cel w1.pin;have hs2:(h1.update D (Obj.mapSeq λ_=>(#[]:Array Value))).objs.size=s.heap.objs.size+2:=by rw[Heap.size_update,hs1]
  unfold ksk_tree;refine f8 (listItems_at hoL rfl ?_);refine f8 (a13 hoL rfl ?_ (by rw[P0,TC];omega) (Tx _));generalize h1.update D (Obj.mapSeq λ_=>(#[]:Array Value))=h2 at ho1 I2 hs2;refine f8 (seqEpoch_at ho1 rfl ?_);refine f8 (wpAny_newTuple ?_ (by show Sf.length<=_;rw[TC];omega));refine f8 (wpAny_newList ?_ (Tx _));refine ρ ?_;have hk3:(h2.push { cls:=.type "tuple",data:=.seq Sf.toArray.toList.toArray }).objs.size=s.heap.objs.size+3:=by rw[size_push',hs2]
  have keep3:∀b o,h2.get? b=some o->((h2.push { cls:=.type "tuple",data:=.seq Sf.toArray.toList.toArray }).push { cls:=.type "list",data:=.seq ([]:List Value).toArray }).get? b=some o:=λb o q=>O3 _ (O3 _ q);have I3:Inv X Sa Y H { s with heap:=(h2.push { cls:=.type "tuple",data:=.seq Sf.toArray.toList.toArray }).push { cls:=.type "list",data:=.seq ([]:List Value).toArray },toks:=s.toks }:=Inv.kept (s:={ s with heap:=h2,toks:=s.toks }) I2 keep3;have hoK:((h2.push { cls:=.type "tuple",data:=.seq Sf.toArray.toList.toArray }).push { cls:=.type "list",data:=.seq ([]:List Value).toArray }).get? (h2.push { cls:=.type "tuple",data:=.seq Sf.toArray.toList.toArray }).objs.size=some (seqObj "list" ([]:List Value).toArray 0):=S5 _ rfl;have hoD:=keep3 D _ ho1;show wpAny (Rk X) X.A.in1.in1 (ksk_rest D (.ref f) false Sf.toArray e1 (.ref (h2.push { cls:=.type "tuple",data:=.seq Sf.toArray.toList.toArray }).objs.size)) _ _ { s with heap:=(h2.push { cls:=.type "tuple",data:=.seq Sf.toArray.toList.toArray }).push { cls:=.type "list",data:=.seq ([]:List Value).toArray },toks:=s.toks };have w2:Az X (Sa++[(D,seqObj "list" #[] e1)]) (h2.push { cls:=.type "tuple",data:=.seq Sf.toArray.toList.toArray }).objs.size:=by have J:Inv X (Sa++[(D,seqObj "list" #[] e1)]) Y H { s with heap:=h2,toks:=s.toks }:=Inv.Ln (s:={ s with heap:=h2,toks:=s.toks }) I2 w1 n1 ho1 (λv h=>by cases h);exact J.NK (H':=H) (by show h2.objs.size<=_;rw[hk3,hs2];omega)
  have n2:H (h2.push { cls:=.type "tuple",data:=.seq Sf.toArray.toList.toArray }).objs.size=none:=I.hok.fresh (by rw[hk3];omega);generalize(h2.push { cls:=.type "tuple",data:=.seq Sf.toArray.toList.toArray }).push { cls:=.type "list",data:=.seq ([]:List Value).toArray }=h3 at I3 hoK hoD;generalize(h2.push { cls:=.type "tuple",data:=.seq Sf.toArray.toList.toArray }).objs.size=kS at hoK w2 n2;have I4:Inv X (Sa++[(D,seqObj "list" #[] e1)]++[(kS,seqObj "list" ([]:List Value).toArray 0)]) Y H { s with heap:=h3,toks:=s.toks }:=
   Inv.Ln (s:={ s with heap:=h3,toks:=s.toks }) (Inv.Ln (s:={ s with heap:=h3,toks:=s.toks }) I3 w1 n1 hoD (λv h=>by cases h)) w2 n2 hoK (λv h=>by cases h)
  unfold ksk_rest;refine f8 (a2S ?_)
  first
   |rw[List.forIn_toArray]
   | (rw[<- a3d];simp only[List.toList_toArray])
   |rw[<- a3d]
  refine f8 (Tg (mE (Sa:=Sa++[(D,seqObj "list" #[] e1)]) (Y:=Y) (A:=X.A.in1.in1) (E:=E) F hr.in1.in1 rfl hb w2 (λx s' C hx=>?_) (ys:=ys) (Sf:=Sf) (acc:=[]) (us:=[]) (e:=0) (H:=H) (by rw[a1M];omega) ry .nil I4 h) (λ_ s' hd=>?_) λ_ _ x=>x)
  .refine f8 (a1n (Tg hx (λz s'' hz=>?_) λ_ _ hF=>hF.elim))
   try dsimp only
   exact f8 (Tg hz (λ_ s3 h3=>O5 ⟨rfl,h3⟩) λ_ _ hF=>hF.elim)
  .obtain⟨zs,us,e2,H',hzl,rz,I5,kz,hkl,hk3,hq⟩:=hd;have aK:=I5.at1;have aD:=I5.wm.at1
   try dsimp only
   refine f8 (listItems_at aK.1 rfl ?_);exact AB w1 w2 hy ry rz hk3 hkl I5 (λq srt=>hq q D srt aD.2) λs3 he=>⟨_,rfl,O5 ⟨_,rfl,he⟩⟩
def de(g:Pd):List PV->Option (List bY)
 |[]=>some []
 |x::xs=>match g [x]with
  |.ok (.t [.i a,.i b,.s c])=>(de g xs).map ((a,b,c)::·)
  |_=>none
def fK{g:Pd}:∀{xs:Pe}{kz:List bY},de g xs=some kz->kz.length=xs.length
 |[],_,h=>by cases h;rfl
 |x::xs,kz,h=>by
  unfold de at h;split at h
  .obtain⟨ks,e,rfl⟩:=v4.mp h;rw[v0,v0,fK e]
  .cases h
def tq{α:Type}{P:P_}{f:PY}{Q:α->Prop}:∀{t:KasT α},XX P f t Q->∃a,Q a
 |.ret a,h=>⟨a,h⟩
 |.ask _ _ _,h=>tq h.2.2
def Cm(kz:List bY):∃q,Ο kz q:=by
 by_cases h:0<kz.length
 .obtain⟨p,a,b⟩:=tq (s_ (O:=HD) (key:=λi=>kz.getD i (0,0,"")) h);exact⟨p.toList,Ck a b⟩
 .refine⟨[],?_,List.Pairwise.nil⟩;rw[show kz.length=0 by omega];exact List.Perm.refl _
def En(kz:List bY):List Nat:=Classical.choose (Cm kz)
def df(kz:List bY):Ο kz (En kz):=T2 (Cm kz)
def Eo(nd:kz.Nodup)(h:Ο kz q)(h':Ο kz q'):q=q':=by
 refine List.Perm.eq_of_pairwise (λa b ha hb h1 h2=>?_) h.2 h'.2 (h.1.trans h'.1.symm);have a1:=Λ.mp (h.1.mem_iff.mp ha);have b1:=Λ.mp (h'.1.mem_iff.mp hb);have e:=KeyOrd.kle_antisymm h1 h2;have ga:kz.getD a (0,0,"")=kz[a]:=by simp[a1]
 have gb:kz.getD b (0,0,"")=kz[b]:=by simp[b1]
 rw[ga,gb]at e;exact(List.getElem_inj nd).mp e
open Classical in
def AD(g:Pd)(xs:Pe):Out PV:=if xs.length<64 then match de g xs with
 |some kz=>if kz.Nodup then .ok (.l ((En kz).map λi=>xs.getD i .n))else .wall
 |none=>.wall else .wall
def mF(g:Pd)(ms:MA):ME:=λU=>(ms U).bind λxs=>match xs with
 |[.l xs]=>AD g xs
 |_=>.wall
def SN.same{K:Pw}{H H':Hp}{p:Addr}{xs:Pa}(h:SN K H p xs)(s:zH H H'):SN K H' p xs:=by
 rcases h with h|h
 .rcases h with h|⟨o,h⟩
  .exact .inl (.inl (s _ _ h))
  .exact .inl (.inr ⟨o,s _ _ h⟩)
 .exact .inr h
def tw{W:RC}{M:OU}{wk:Bool}{g:Pd}{Q:List V->Hp->Prop}:∀{xs:Pe}{vs acc:Pa}{H:Hp}{kz:List bY},yq W M H xs vs->de g xs=some kz->(∀H' zs,zH H H'->aR W.K H' zs kz->Q (acc++zs) H')->tf (Sw W false [wk] g) vs acc H Q
 |[],_,acc,H,kz,hr,hk,q=>by cases(show _=_ from hr);cases hk;have:=q H [] (zH.refl _) trivial;rw[P7]at this;exact this
 |x::xs,_,acc,H,kz,hr,hk,q=>by
  obtain⟨v,r,rfl,h1,h2⟩:=hr;unfold de at hk;split at hk
  .rename_i a b c hg;obtain⟨ks,e,rfl⟩:=v4.mp hk;refine⟨M,[x],⟨x,v,[],[],rfl,rfl,?_,rfl,rfl⟩,?_⟩
   .cases wk with
    |true=>rw[if_pos rfl];exact h1.weak
    |false=>rw[if_neg P5];exact yZ.iff.mpr h1
   .rw[hg];intro z H2 s hz;unfold RtV at hz;rw[if_neg P5]at hz;obtain⟨p,ws,rfl,hq,hws⟩:=hz;obtain⟨v1,r1,rfl,e1,hws⟩:=hws;obtain⟨v2,r2,rfl,e2,hws⟩:=hws;obtain⟨v3,r3,rfl,e3,hws⟩:=hws;cases(show _=_ from hws);cases(show _=_ from e1);cases(show _=_ from e2);cases(show _=_ from e3);refine tw (acc:=acc++[.ref p]) (h2.same s) e λH' zs s' hz=>?_;have:=q H' (.ref p::zs) (s.trans s') ⟨⟨p,rfl,hq.same s'⟩,hz⟩;rw[S0];exact this
  .cases hk
def yq.Cn{W:RC}{M:OU}{H:Hp}{xs:Pe}{vs:Pa}(h:yq W M H xs vs):∀q:List Nat,yq W M H (q.map λi=>xs.getD i .n) (q.map λi=>vs.getD i .non)
 |[]=>rfl
 |i::q=>by
  refine⟨_,_,rfl,?_,h.Cn q⟩;show Rep W M H (xs.getD i .n) (vs.getD i .non);simp only[List.getD_eq_getElem?_getD];cases hx:xs[i]? with
  |some x=>obtain⟨v,e,r⟩:=h.get hx;rw[e];exact r
  |none=>
   cases hv:vs[i]? with
   |none=>exact rfl
   |some v=>obtain⟨x,e,_⟩:=h.Fv hv;rw[hx]at e;cases e
def AE(F:yW X.prog X.w X.K X.mg X.base (Sj X.prog X.w) k f fd ps sp)(hr:vf (k+2) X.A)(hb:Binds X.K fd ps [])(hg:Gl X "sorted")(hm:X.mg "sorted"=none)(hgf:Gl X fn)(hmf:X.mg fn=some (.ref f))(ha:PA X [e] t)(hdb:(fn==("__debug__":Str))=false:=by decide)(he1:backTo pos (starEach [e] X.env)=(false,eval e X.env)::backTo pos (starEach [] X.env):=by rfl)(hpl:(backTo pos (starEach [e] X.env)).any (·.1)=false:=by rfl):
  PE X (.Call (.Name "sorted" p) [e] [⟨some "key",.Name fn p2,kpos⟩] pos) (λY H Q=>t Y H λvs H1=>∃l ys,vs=[.ref l]/\Sq X.K H1 l ys/\Cj sp X.K ys H1 Q):=by
 intro Sa s Y H Q I h;refine ϯ (bL I hg hm boot_sorted ?_ (by decide) (by decide));refine callWith_kw (Sk (ha pos Sa s Y H _ I h) λus s1 ⟨vs,H1,I1,r1,l,ys,hv,hl,hq⟩=>?_) he1 hpl;subst hv;obtain⟨u,rfl,ru⟩:=vals1 r1;cases ru;refine Sk (Dc (nm:=some "key") (kpos:=kpos) (zC (v:=.ref f) hgf hmf rfl hdb) F0 pos Sa s1 Y H1 (λzs H2=>zs=[.ref f]/\H2=H1) I1 ⟨rfl,rfl⟩) λws s2 ⟨zs,H2,I2,rz,e1,e2⟩=>?_;subst e1;subst e2;obtain⟨u2,rfl,ru2⟩:=vals1 rz;cases ru2;exact ou F hr hb I2 hl hq
def AF(F:yW X.prog X.w X.K X.mg X.base (Sj X.prog X.w) k f fd ps (Sw C.W false [wk] g))(hr:vf (k+2) X.A)(hb:Binds X.K fd ps [])(hg:Gl X "sorted")(hm:X.mg "sorted"=none)(hgf:Gl X fn)(hmf:X.mg fn=some (.ref f))(ha:AM X C S ws [e] ms)(hdb:(fn==("__debug__":Str))=false:=by decide)(he1:backTo pos (starEach [e] X.env)=(false,eval e X.env)::backTo pos (starEach [] X.env):=by rfl)(hpl:(backTo pos (starEach [e] X.env)).any (·.1)=false:=by rfl):
  FM X C S (.Call (.Name "sorted" p) [e] [⟨some "key",.Name fn p2,kpos⟩] pos) (mF g ms):=λhK=>by
 obtain⟨ta,a1,a2⟩:=ha hK;refine⟨_,AE F hr hb hg hm hgf hmf a1 hdb he1 hpl,λB P H Y U R Q q=>a2 B P H Y U R _ (ZZ q λxs vs H1 s1 r1 q1=>?_)⟩;have r1:=r1.weak;split at q1
 .rename_i ys _;obtain⟨v,r,rfl,⟨l,us,rfl,_,hl,rr⟩,hr'⟩:=r1;cases(show _=_ from hr');unfold AD at q1;split at q1
  .rename_i h64;split at q1
   .rename_i kz hk;split at q1
    .rename_i nd;have hlen:us.length=ys.length:=(yq.len rr).symm▸rfl;rw[hK];refine⟨l,us,rfl,Sq.of hl,by omega,tw rr hk λH' zs s hz=>⟨kz,by rw[fK hk,hlen],by rw[a1L];exact hz,λq' a srt ha=>?_⟩⟩;rw[Eo nd srt (df kz)];have q2:=ZY q1 s;exact q2 _ _ (zH.upd ha) (Uo ((rr.same s).Cn _) ha)
    .exact q1.elim
   .exact q1.elim
  .exact q1.elim
 .exact q1.elim
def UA(f:Str)(x:HV):List (Str×HV)->List (Str×HV)
 |[]=>[(f,x)]
 |kx::r=>if kx.1=f then(kx.1,x)::r else kx::UA f x r
def qx.KH{R:HV->V->Prop}{f:Str}{x:HV}{v:V}(hx:R x v):∀{fs:List (Str×HV)}{es:Pp},qx R fs es->qx R (UA f x fs) (KH f v es)
 |[],_,h=>by cases(show _=_ from h);exact⟨v,[],rfl,hx,rfl⟩
 |kx::r,_,⟨u,q,e,h1,h2⟩=>by
  subst e;unfold UA L2.KH;by_cases c:kx.1=f
  .rw[if_pos c,if_pos (by simpa using c)];exact⟨v,q,rfl,hx,h2⟩
  .rw[if_neg c,if_neg (by simpa using c)];exact⟨u,_,rfl,h1,qx.KH hx h2⟩
def dg(cs:OS)(f:Str)(mo mv:SD):Su:=λU G=>(mv U G).fw λy G1=>(mo U G1).fw λx G2=>match x with
 |.g k=>match G2[k]? with
  |some (.o c fs)=>if c∈cs/\fs.length<1000 then .nx U (G2.set k (.o c (UA f y fs)))else .wall
  |_=>.wall
 |_=>.wall
def tD(ho:HE X W E o m1)(hv:HE X W E e m2)(hc:∀c∈cs,TL X.K (W.cls c)/\ve X.K (W.cls c) fn)(hs:swapsWith e (some (.Attribute o fn pos')) pos.line X.env=pure false:=by rfl):
  HS X W E (.Assign [.Attribute o fn pos'] e pos) (dg cs fn m1 m2):=λhK=>by
 obtain⟨to,o1,o2⟩:=ho hK;obtain⟨te,a1,a2⟩:=hv hK;refine⟨_,BE o1 a1 hs,λZ hZ A H Y U G R D q=>a2 Z hZ A H Y U G R _ (Sz.bind q λy A1 H1 G1 h1 g1 q1 u ry=>?_)⟩;have R1:=R.gro h1 g1;refine o2 Z hZ A1 H1 Y U G1 R1 _ (Sz.bind q1 λx A2 H2 G2 h2 g2 q2 v rx=>?_);subst hZ;split at q2
 .rename_i k;obtain⟨hk,rfl⟩:=rx;split at q2
  .rename_i c fs hG;split at q2
   .rename_i hcs;obtain⟨dx,vs,hp,r⟩:=h2.cell k _ hG;have hl:=qx.len r;have g3:=h2.frw (o:=.ins (Z.W.cls c) dx (KH fn u vs)) hk hp id;refine⟨_,_,dx,vs,rfl,hp,(hc c hcs.1).1,(hc c hcs.1).2,by rw[hl];exact hcs.2,Hr (c:=.o c (UA fn y fs)) (R1.gro h2 g2) hk hp id ⟨dx,_,zh,?_⟩ q2⟩;exact qx.KH ((ry.gro g2).gro g3) (r.imp λ_ _ z=>z.gro g3)
   .exact q2.elim
  .exact q2.elim
 .exact q2.elim
def Ep(c:Nat)(g:List HV->AH->HX HV)(ms:TK):SD:=λU G=>(ms U G).bind λxs G1=>match g (.g G1.length::xs) (G1++[.o c []])with
 |.ok (.v .n) G2=>.ok (.g G1.length) G2
 |.exc c fs G2=>.exc c fs G2
 |_=>.wall
def mG(M:Mk X.K (W.cls c) f)(F:yW X.prog X.w X.K X.mg X.base (Sj X.prog X.w) k f fd ps (Ts W n g))(hr:vf (k+1) X.A)(hg:Gl X x)(hm:X.mg x=some (.ref (W.cls c)))(hb:Binds X.K fd ps [])(hx:Passes (Sj X.prog X.w) X E)(ha:HA X W E (e::es) ms)(hn:∀U G xs G',ms U G=.ok xs G'->xs.length+1=n)(hdb:Rn x:=by decide)(he:starEach (e::es) X.env=(false,eval e X.env)::starEach es X.env:=by rfl)(hpl:(backTo pos (starEach es X.env)).any (·.1)=false:=by rfl):HE X W E (.Call (.Name x p) (e::es) [] pos) (Ep c g ms):=λhK=>by
 obtain⟨ta,a1,a2⟩:=ha hK;refine⟨_,pE M F hr hg hm hb .nil hx a1 hdb he hpl,λZ hZ A H Y U G R Q q=>a2 Z hZ A H Y U G R _ ?_⟩;subst hZ;unfold Ep at q;revert q;cases hq:ms U G with
 |wall=>exact id
 |exc c fs G'=>exact id
 |ok xs G1=>
  intro q A1 H1 h1 g1 vs rs x dx hx hd hne;rw[P7];have s1:zH H1 (upd (upd H1 dx (.own x)) x (.ins (Z.W.cls c) dx [])):=λb o hb=>by rw[zl (zQ hb hx),zl (zQ hb hd)];exact hb
  have h2:=h1.alloc (p:=x) (c:=.o c []) s1 hx ⟨dx,[],zh,rfl⟩;have g2:Sn Z A1 G1.length H1 (η A1 G1.length x) (G1.length+1) _:=Sn.ext s1 hx;have ex:η A1 G1.length x G1.length=x:=by unfold η;rw[if_pos rfl]
  have hl1:(G1++[Cell.o c []]).length=G1.length+1:=by rw[O1];rfl
  refine⟨Z,η A1 G1.length x,G1++[.o c []],.g G1.length::xs,rfl,hn _ _ _ _ hq,h2,?_,?_⟩
  .rw[hl1];exact⟨.ref x,vs,rfl,⟨ϋ _,by rw[ex]⟩,rs.gro g2⟩
  .have q:SJ Z E A G.length H (ϓ Z Q) (match g (.g G1.length::xs) (G1++[.o c []])with
    |.ok (.v .n) G2=>.ok (.g G1.length) G2
    |.exc c fs G2=>.exc c fs G2
    |_=>.wall):=q
   have gg:=g1.trans g2;revert q;cases g (.g G1.length::xs) (G1++[.o c []])with
   |wall=>exact id
   |exc c fs G2=>exact λq=>Aj.gro q (by rw[hl1];exact gg)
   |ok y G2=>
    intro q;cases y with
    |v z=>
     cases z with
     |n=>intro A2 H2 h3 g3 v rv;rw[hl1]at g3;refine⟨rv,q A2 H2 h3 (gg.trans g3) (.ref x) ⟨P4 (ϋ _) g3.le,?_⟩⟩;rw[g3.agr _ (ϋ _),ex]
     |_=>exact q.elim
    |_=>exact q.elim
section
variable {X:Cx}{C:LC}{S:OS}{o f:Pc}{es:OX}{ws:OW}{w1 w2:Bool}{m1 m2:ME}{ms:MA}{Y1 jW p:Pos}{x1:Nat}
end
section
open PySem.SeqAt
open PySem.AutoSeq1 (wpAny_loadPart')
open PySem.MeetsSeq PySem.MeetsSeq2 PySem.MeetsSeq3
end
section
variable {X:Cx}
end
section
variable {X:Cx}{C:LC}{S:OS}{o f:Pc}{es:OX}{ws:OW}{w1 w2:Bool}{m1 m2:ME}{ms:MA}{Y1 jW p:Pos}{x1:Nat}
end
end L2
namespace L2
open PySem PySem.Spec PyProof.Rows PySem.W
section
variable {X:Cx}{W:RC}{E:XK}{o a e:Pc}{m m1 m2:SD}{pos tpos:Pos}
end
section
variable {Z:HC}{E:XK}{A A':O_}{H H':Hp}{G G':AH}{Y Y':St}{U U':ZJ}{es:Pb}{k n:Nat}{D:Ends}{kvs:List (Key×HV)}{o:Obj}
end
section
variable {X:Cx}{W:RC}{E:XK}{tg jD:Pc}{body:Pt}{mg:Tz}{mb:Su}{pos:Pos}{i:Nat}
end
section
variable {X:Cx}{Sa:OR}{Y:St}{H:Hp}{s:OV}{a b:Addr}{kvs more:Pb}{A:Po}{E:OT}
end
section
variable {X:Cx}{C:LC}{S Sb Sc:OS}{o e:Pc}{m:ME}{w:Bool}{pos p:Pos}
end
section
variable {X:Cx}{o:Pc}{to:TE}{p pos jW Y1:Pos}
end
section
variable {X:Cx}{C:LC}{S:OS}{w:Bool}{o:Pc}{m:ME}{p pos jW Y1:Pos}
end
section
variable {X:Cx}{W:RC}{E:XK}{tg a0 b0:Pc}{body:Pt}{mg:Tz}{mb:Su}{pos ipos:Pos}{i:Nat}{n:Int}
end
section
variable {prog:Pg}{w:Pk}{A:Po}{E:OT}{s:OV}
end
section
variable {X:Cx}{Sa:OR}{Y:St}{H:Hp}{s:OV}{W:RC}
end
section
variable {X:Cx}{C:LC}{S:OS}{e a b:Pc}{m m1 m2:ME}{pos:Pos}
end
section
variable {X:Cx}{o:Pc}{to:TE}{p pos jW Y1:Pos}
end
section
variable {X:Cx}{C:LC}{S:OS}{w:Bool}{o:Pc}{m:ME}{p pos jW Y1:Pos}
end
section
variable {prog:Pg}{w:Pk}{A:Po}{R:Result->Shared->Prop}{I S:Addr}{fp wr:PD}{n:Nat}{P:Nat->Value->Prop}{St:Nat->Heap->Prop}{d:Value}
end
section
variable {X:Cx}{C:LC}{S:OS}{e:Pc}{ws:OW}{ms:MA}{p pos kpos pk:Pos}{jk:Nat}{n:Int}{t:TA}
end
section
variable {X:Cx}{C:LC}{S:OS}{mi:MI}{mg:MG}{mc:MT}{me:ME}
end
section
variable {X:Cx}{W:RC}{E:XK}
variable {fr':Bool}{S:OS}{jD tg elt:Pc}{ifs:OX}{me:ME}{mc:MT}{mg:MG}{mi:MI}{pos ny py:Pos}{i j:Nat}{scope:Scope}{y:Str}
end
section
variable {X:Cx}
def Er:V->List V->Hp->VK->Prop:=λx vs H Q=>∃l xs i y,x=.ref l/\vs=[.int i,y]/\H l=some (.lst xs)/\0<=i/\i.toNat<=xs.length/\xs.length<sizeLine/\Q .non (upd H l (.lst (xs.take i.toNat++y::xs.drop i.toNat)))
def tE:MtM X "list.insert" Er:=by
 intro Sa s Y H x vs v us Q I rx rv h;obtain⟨l,xs,i,y,rfl,rfl,hH,h0,h1,hz,q⟩:=h;cases rx;obtain⟨u,w,rfl,ru,rw'⟩:=rv.two;obtain⟨t,rfl⟩:=ru;obtain⟨z,Sf,n,r,hl,e⟩:=I.BK hH;have hi:i<2 ^ 63:=by
  have:xs.length<2 ^ 40:=by rw[TC]at hz;omega
  omega
 have hf:¬(!Builtin.List.listFitsIndex i)=true:=by
  unfold Builtin.List.listFitsIndex;rw[O9 (show -(2 ^ 63:Int)<=i by omega),O9 (show i<2 ^ 63 from hi)]
  decide
 refine a1K a2r ⟨_,e,rfl⟩ PySem.F.entry_list_insert (PySem.F.args_list_insert_3 _ _ _) (AutoSeq1.list_insert_list_int_val_1 l Sf.toArray n i t w hf (by rw[P0];omega)) ⟨e,?_⟩;refine⟨.non,_,I.I0 (its':=Sf.take i.toNat++w::Sf.drop i.toNat) hH e ?_ ((r.take _).append (.cons rw' (r.drop _))) ?_,rfl,q⟩
 .have hk:(if i<0 then(i+(Sf.toArray.size:Int)).toNat else min i.toNat Sf.toArray.size)=i.toNat:=by rw[if_neg (by omega),P0];omega
  show(Sf.toArray.extract 0 (if i<0 then(i+(Sf.toArray.size:Int)).toNat else min i.toNat Sf.toArray.size)).push w++Sf.toArray.extract (if i<0 then(i+(Sf.toArray.size:Int)).toNat else min i.toNat Sf.toArray.size)=_;rw[hk];apply a2q.mp;simp[List.extract_eq_drop_take];apply a0E;rw[Ϛ];exact O2 _
 .rw[O1,v0,ϭ,Ϛ];omega
end
def Es(mo:SD)(ma:TK):Su:=λU G=>(mo U G).fw λx G1=>match x with
 |.g k=>match G1[k]? with
  |some (.l _)=>(ma U G1).fw λys G2=>match ys with
   |[.v (.i i),y]=>match G2[k]? with
    |some (.l xs)=>if 0<=i/\i.toNat<=xs.length/\xs.length<sizeLine then .nx U (G2.set k (.l (xs.take i.toNat++y::xs.drop i.toNat)))else .wall
    |_=>.wall
   |_=>.wall
  |_=>.wall
 |_=>.wall
def yd.take{W:RC}{M:OU}{A:O_}{n:Nat}{H:Hp}:∀{xs:List HV}{vs:Pa}(k:Nat),yd W M A n H xs vs->yd W M A n H (xs.take k) (vs.take k)
 |[],vs,k,h=>by unfold yd at h;subst h;rw[List.take_nil,List.take_nil];unfold yd;rfl
 |x::xs,vs,0,h=>by rw[List.take_zero,List.take_zero];unfold yd;rfl
 |x::xs,vs,k+1,h=>by unfold yd at h;obtain⟨v,r,rfl,h1,h2⟩:=h;rw[a20,a20];unfold yd;exact⟨v,_,rfl,h1,h2.take k⟩
def yd.drop{W:RC}{M:OU}{A:O_}{n:Nat}{H:Hp}:∀{xs:List HV}{vs:Pa}(k:Nat),yd W M A n H xs vs->yd W M A n H (xs.drop k) (vs.drop k)
 |[],vs,k,h=>by unfold yd at h;subst h;rw[List.drop_nil,List.drop_nil];unfold yd;rfl
 |x::xs,vs,0,h=>h
 |x::xs,vs,k+1,h=>by unfold yd at h;obtain⟨v,r,rfl,h1,h2⟩:=h;rw[a21,a21];exact h2.drop k
def fL(ho:HE X W E o m1)(h:HA X W E [e,f] ma)(Wv:attributeBase o "insert" X.env (eval o X.env)=eval o X.env:=by rfl)(Bu:((backTo p (starEach [e,f] X.env)).all (λx=>!x.1)&&(backToKw p (keywordEach [] X.env)).all (λx=>x.1.isSome)&&decide ([e,f].length+([]:List Keyword).length+(if([]:List Keyword).isEmpty then 0 else 1)<30))=true:=by rfl)(Wu:(jW.endLine==p.line)=true:=by rfl)(hs:starEach [e,f] X.env=(false,eval e X.env)::starEach [f] X.env:=by rfl)(hpl:(backTo p (starEach [f] X.env)).any (·.1)=false:=by rfl)(hsw:swapsWith (.Call (.Attribute o "insert" jW) [e,f] [] p) none pos.line X.env=pure false:=by rfl):
  HS X W E (.Expr (.Call (.Attribute o "insert" jW) [e,f] [] p) pos) (Es m1 ma):=λhK=>by
 obtain⟨to,o1,o2⟩:=ho hK;obtain⟨te,a1,a2⟩:=h hK;refine⟨_,J3 (xn a0N a2r PySem.F.type_list_insert tE o1 a1 Wv Bu Wu hs hpl) hsw,λZ hZ A H Y U G R D q=>o2 Z hZ A H Y U G R _ (Sz.bind q λx A1 H1 G1 h1 g1 q1 v rx=>?_)⟩;split at q1
 .rename_i k;obtain⟨hk,rfl⟩:=rx;split at q1
  .rename_i xs0 hc0;obtain⟨vs0,hp0,_⟩:=h1.cell k _ hc0;have R1:=R.gro h1 g1;refine⟨.inl ⟨rfl,_,Sq.of hp0⟩,a2 Z hZ A1 H1 Y U G1 R1 _ (Sz.bind q1 λys A2 H2 G2 h2 g2 q2 us ry=>?_)⟩;split at q2
   .rename_i i y;unfold yd at ry;obtain⟨v1,r1,rfl,e1,ry⟩:=ry;unfold yd at ry;obtain⟨u,r2,rfl,e2,ry⟩:=ry;unfold yd at ry;subst ry;cases(show _=_ from e1);split at q2
    .rename_i xs hc;split at q2
     .rename_i hl;obtain⟨vs,hp,r⟩:=h2.cell k _ hc;have hk2:k<G2.length:=P4 hk g2.le;rw[<- g2.agr k hk];have g3:=h2.frw (o:=.lst (vs.take i.toNat++u::vs.drop i.toNat)) hk2 hp id;have one:yd Z.W (HM Z A2 G2.length) A2 G2.length H2 (y::xs.drop i.toNat) (u::vs.drop i.toNat):=by unfold yd;exact⟨u,_,rfl,e2,r.drop _⟩
      exact⟨_,vs,i,u,rfl,rfl,hp,hl.1,by rw[r.len];exact hl.2.1,by rw[r.len];exact hl.2.2,Hr (c:=.l (xs.take i.toNat++y::xs.drop i.toNat)) (R1.gro h2 g2) hk2 hp id ⟨_,zh,((r.take _).append one).gro g3⟩ q2⟩
     .exact q2.elim
    .exact q2.elim
   .exact q2.elim
  .exact q1.elim
 .exact q1.elim
def Lo:PV->Option Int->Option Int->Out PV
 |.t xs,lo,hi=>if HT.sIx xs.length 0 lo=0/\HT.sIx xs.length xs.length hi=xs.length then .wall else .ok (.t (l7 xs lo hi))
 |_,_,_=>.wall
section
variable {X:Cx}{C:LC}{S:OS}{w:Bool}{e:Pc}{lo hi:Rb}{m:ME}{ml mh:MO}{p2 pos:Pos}
def tF(h:EM X C S w e m)(hl:OM X C S lo ml)(hh:OM X C S hi mh):EM X C S false (.Subscript e (.Slice lo hi none p2) pos) (Ϡ Lo m ml mh):=λhK=>by
 obtain⟨te,a1,a2⟩:=h hK;obtain⟨tl,b1,b2⟩:=hl hK;obtain⟨th,c1,c2⟩:=hh hK;refine⟨_,lK F3 a1 b1 c1,λB P H Y U R Q q=>a2 B P H Y U R _ (yr q λx v H1 s1 r1 q1=>b2 B P H1 Y U (R.keep s1) _ ?_)⟩;revert q1;cases ml U with
 |exc c fs=>exact id
 |wall=>exact id
 |ok l=>
  intro q1 H2 s2;refine c2 B P H2 Y U ((R.keep s1).keep s2) _ ?_;have q1:zV C B H1 (RV C B S P false) Q ((mh U).bind λh=>Lo x l h):=q1;have q1:=j0 q1 s2;revert q1;cases mh U with
  |exc c fs=>exact id
  |wall=>exact id
  |ok h=>
   intro q1 H3 s3;have q1:=j0 (o:=Lo x l h) q1 s3;have r3:=(r1.same s2).same s3;cases x with
   |t xs=>
    obtain⟨p,vs,rfl,hp,rr⟩:=r3;have hlen:vs.length=xs.length:=(yq.len rr).symm▸rfl;have q1:zV C B H3 (RV C B S P false) Q (if HT.sIx xs.length 0 l=0/\HT.sIx xs.length xs.length h=xs.length then .wall else .ok (.t (l7 xs l h))):=q1;split at q1
    .exact q1.elim
    .rename_i hn;exact⟨p,vs,rfl,hK▸hp,by rw[hlen];exact hn,λz hz=>q1 _ _ (zH.upd hz) (RV.of (iq hz rr.cut))⟩
   |_=>exact q1.elim
end
section
variable {X:Cx}{Sa:OR}{Y:St}{H:Hp}{s:OV}{h':Heap}{ch:PD}{T:Addr}{o:HO}{t':Nat}
def Inv.MX(I:Inv X Sa Y H s)(hf:∀b∈ch,nE X Sa H b)(k:∀b u,b∉ch->s.heap.get? b=some u->h'.get? b=some u)(hp:s.heap.objs.size<=T)(new:ql X.prog X.w (upd H T o) h' T o):Inv X Sa Y (upd H T o) { s with heap:=h',toks:=t' }:=by
 have hn:H T=none:=I.hok.fresh hp;have neT:∀b u,s.heap.get? b=some u->b≠T:=λb u e=>P6 (P4 (O7 e) hp);refine I.step (g':=s.gens) (d':=s.drawn) (ch:=ch) (λb hb=>⟨(hf b hb).2.2.2.1,(hf b hb).2.1,(hf b hb).2.2.2.2.1,(hf b hb).2.2.2.2.2⟩) (λb o _ _ hc e _=>k b o hc e) (λb o _ _ hc e _=>⟨o.slots,k b o hc e⟩) (λb o _ e n=>by rw[zl (neT b o e)];exact n)
  (λb o hc e=>⟨o,k b o hc e⟩) (λb xs e=>by rw[zl (zQ e hn)];exact e) (λb o u e=>by rw[zl (zQ e hn)];exact e) (λb ps e=>⟨#[],by rw[zl (zQ e hn),e];simp⟩) (λm hm=>?_) (λb u e=>?_) I.bare
 .obtain⟨o,es,ep,ho,r⟩:=hm;exact⟨o,es,ep,k _ o (λz=>(hf _ z).2.1 rfl) ho,r⟩
 .by_cases hb:b=T
  .subst hb;rw[zh]at e;cases e;exact new
  .rw[zl hb]at e;refine(I.hok b u e).oP (λc v hc q=>k c v (λz=>?_) q) (λc q=>by rw[zl (zQ q hn)];exact q) λc xs q=>by rw[zl (zQ q hn)];exact q
   rcases hc with hc|hc
   .subst hc;rw[(hf _ z).1]at e;cases e
   .rw[(hf _ z).1]at hc;cases hc
def Inv.MY(I:Inv X Sa Y H s)(hf:∀b∈ch,nE X Sa H b)(k:∀b u,b∉ch->s.heap.get? b=some u->h'.get? b=some u):Inv X Sa Y H { s with heap:=h',toks:=t' }:=by
 refine I.step (g':=s.gens) (d':=s.drawn) (ch:=ch) (λb hb=>⟨(hf b hb).2.2.2.1,(hf b hb).2.1,(hf b hb).2.2.2.2.1,(hf b hb).2.2.2.2.2⟩) (λb o _ _ hc e _=>k b o hc e) (λb o _ _ hc e _=>⟨o.slots,k b o hc e⟩) (λb o _ e n=>n)
  (λb o hc e=>⟨o,k b o hc e⟩) (λb xs e=>e) (λb o u e=>e) (λb ps e=>⟨#[],by rw[e];simp⟩) (λm hm=>?_) (λb u e=>?_) I.bare
 .obtain⟨o,es,ep,ho,r⟩:=hm;exact⟨o,es,ep,k _ o (λz=>(hf _ z).2.1 rfl) ho,r⟩
 .refine(I.hok b u e).oP (λc v hc q=>k c v (λz=>?_) q) (λc q=>q) λc xs q=>q;rcases hc with hc|hc
  .subst hc;rw[(hf _ z).1]at e;cases e
  .rw[(hf _ z).1]at hc;cases hc
end
def Itw(n:Nat)(ok:Hp->Prop)(row:Nat->List V):It:=
 ⟨λi H=>i<n/\ok H,λi H x H'=>∃T,x=.ref T/\H T=none/\H'=upd H T (.tup (row i)),λi H=>i=n/\ok H⟩
def Lp(xs ys:Pa)(i:Nat):List V:=[xs[i]?.getD .non,ys[i]?.getD .non]
def Et(hl:row.length<=sizeLine)(r:Vals row vals.toList)(ht:h.IsTuple T vals):ql P w (upd H T (.tup row)) h T (.tup row):=⟨hl,vals.toList,r,ht⟩
section
variable {P:Pg}{w:Pk}{K:Pw}{elts:OX}{kk:Nat}{tp:Pos}
def AG(z TI TO i1 i2 a b:Addr)(xs ys:Pa)(D:ZipApart z TI TO i1 i2 a b):Turn P w K (.Tuple elts kk tp) (Itw (min xs.length ys.length) (λH=>Sq K H a xs/\Sq K H b ys) (Lp xs ys)) [z,TI,TO,i1,i2] z (λi h=>i<=min xs.length ys.length/\IsZip h z TI TO .none/\IsPair h TI (.ref i1) (.ref i2)/\(∃a b,IsPair h TO a b)/\h.IsListIter i1 a i/\h.IsListIter i2 b i)where
 mem:=by simp
 obj:=λi h st c hc=>by
  obtain⟨_,q1,q2,⟨_,_,q3⟩,⟨o4,q4,_,d4⟩,⟨o5,q5,_,d5⟩⟩:=st;simp only[List.mem_cons,List.not_mem_nil,or_false]at hc;rcases hc with r|r|r|r|r<;>subst r
  .exact⟨_,q1,λv z=>by cases z⟩
  .exact⟨_,q2,λv z=>by cases z⟩
  .exact⟨_,q3,λv z=>by cases z⟩
  .exact⟨o4,q4,λv z=>by rw[d4]at z;cases z⟩
  .exact⟨o5,q5,λv z=>by rw[d5]at z;cases z⟩
 keep:=λi h h' ⟨hi,q1,q2,⟨x,y,q3⟩,q4,q5⟩ k=>⟨hi,k z (by simp) _ q1,k TI (by simp) _ q2,⟨x,y,k TO (by simp) _ q3⟩,q4.at λo e=>k i1 (by simp) o e,q5.at λo e=>k i2 (by simp) o e⟩
 item:=by
  intro X hP hw hK hc i Sa s Y H E I hf st hg;subst hP hw hK;obtain⟨hi,hq1,hq2⟩:=hg;obtain⟨Sf,rv,p,_⟩:=I.list hq1;obtain⟨jts,rw',p',_⟩:=I.list hq2;have hn:=rv.length;have hm:=rw'.length;have W:=WalksT.zip2 (prog:=X.prog) (w:=X.w) (I.ok.hd hc) z TI TO i1 i2 a b D Sf.toArray jts.toArray;refine W.item i s _ _ (by rw[P0,P0];omega) ⟨st.2.1,st.2.2.1,st.2.2.2.1,st.2.2.2.2.1,st.2.2.2.2.2,p.isList,p'.isList⟩ λT vals h' tk hv hT isT mid kp=>?_;obtain⟨x,y,hx,hy,rfl⟩:=hv;refine⟨_,rfl,W.go elts kk tp i T { s with heap:=h',toks:=tk } _ _ mid λh2' st2 k2=>?_⟩;have nT:T∉[z,TO,i1,i2]:=W.apart i T h' mid;have nT':∀c∈[z,TI,TO,i1,i2],c≠T:=λc hc q=>by
   subst q;obtain⟨o,ho⟩:∃o,s.heap.get? c=some o:=by
    obtain⟨_,q1,q2,⟨_,_,q3⟩,⟨o4,q4,_,d4⟩,⟨o5,q5,_,d5⟩⟩:=st;simp only[List.mem_cons,List.not_mem_nil,or_false]at hc;rcases hc with r|r|r|r|r<;>subst r
    .exact⟨_,q1⟩
    .exact⟨_,q2⟩
    .exact⟨_,q3⟩
    .exact⟨_,q4⟩
    .exact⟨_,q5⟩
   exact absurd (O7 ho) (Nat.not_lt.mpr hT)
  have l1:i<xs.length:=by omega
  have l2:i<ys.length:=by omega
  obtain⟨u,hu,ru⟩:=rv.get (P1 l1);obtain⟨v,hv,rv'⟩:=rw'.get (P1 l2);rw[a2L,hu]at hx;cases hx;rw[a2L,hv]at hy;cases hy;refine⟨.ref T,upd H T (.tup (Lp xs ys i)),I.MX (ch:=[z,TO,i1,i2]) (λc hc=>hf c (W.sub c hc |> λ_=>by simp only[List.mem_cons,List.not_mem_nil,or_false]at hc ⊢;rcases hc with r|r|r|r<;>simp[r])) (λb u hb q=>k2 b u hb (kp b u hb q)) hT (Et (show 2<=sizeLine by decide) (vals:=#[x,y]) (.cons ?_ (.cons ?_ .nil)) (isT.at λo q=>k2 T o nT q)),rfl,⟨T,rfl,I.hok.fresh hT,rfl⟩,⟨by omega,st2.1,st2.2.1,st2.2.2.1,st2.2.2.2.1,st2.2.2.2.2.1⟩,λc hc=>by rw[zl (nT' c hc)];exact(hf c hc).1⟩
  .rw[P1 l1];exact ru
  .rw[P1 l2];exact rv'
 done:=by
  intro X hP hw hK hc i Sa s Y H E I hf st hg;subst hP hw hK;obtain⟨rfl,hq1,hq2⟩:=hg;obtain⟨Sf,rv,p,_⟩:=I.list hq1;obtain⟨jts,rw',p',_⟩:=I.list hq2;have hn:=rv.length;have hm:=rw'.length;have W:=WalksT.zip2 (prog:=X.prog) (w:=X.w) (I.ok.hd hc) z TI TO i1 i2 a b D Sf.toArray jts.toArray;have hs:min Sf.toArray.size jts.toArray.size=min xs.length ys.length:=by rw[P0,P0];omega
  refine W.done s _ _ (by rw[hs];exact⟨st.2.1,st.2.2.1,st.2.2.2.1,st.2.2.2.2.1,st.2.2.2.2.2,p.isList,p'.isList⟩) λh' tk kp=>⟨rfl,I.MY (ch:=[z,TO,i1,i2]) (λc hc=>hf c (by simp only[List.mem_cons,List.not_mem_nil,or_false]at hc ⊢;rcases hc with r|r|r|r<;>simp[r])) kp⟩
 self:=λ_ _ _ _ _ st h=>wpAny_pyIter_zip st.2.1 h
end
def OC(K:Pw)(ta:TA):TI:=λY H R=>ta Y H λvs H1=>∃a b xs ys,vs=[.ref a,.ref b]/\Sq K H1 a xs/\Sq K H1 b ys/\R (Itw (min xs.length ys.length) (λH=>Sq K H a xs/\Sq K H b ys) (Lp xs ys)) H1
section
variable {X:Cx}{C:LC}{S:OS}{elts:OX}{kk:Nat}{tp p pos:Pos}{e a b:Pc}{m:ME}{ms:MA}{cc:Bool}
def HF(hg:Gl X "zip")(hm:X.mg "zip"=none)(ha:PA X [a,b] ta)(hs:starEach [a,b] X.env=[(false,eval a X.env),(false,eval b X.env)]:=by rfl)(hs2:starEach [b] X.env=[(false,eval b X.env)]:=by rfl):PI X (.Tuple elts kk tp) (.Call (.Name "zip" p) [a,b] [] pos) (OC X.K ta):=by
 intro Sa s Y H R I h;refine Call_ (bL I hg hm PyProof.Rows.boot_zip (a1j (Sk (ha pos Sa s Y H _ I h) λus s1 ⟨vs,H1,I1,r1,q1⟩=>?_) (by rw[hs,hs2]) (by rw[hs2];rfl)));obtain⟨l1,l2,xs,ys,rfl,hq1,hq2,q⟩:=q1;cases r1 with
 |cons r rr=>
  cases rr with
  |cons r' rr=>
   cases rr;cases r;cases r';obtain⟨Sf,rv,pl,_⟩:=I1.list hq1;obtain⟨jts,rv',pl',_⟩:=I1.list hq2;have t1:l1<s1.heap.objs.size:=by obtain⟨o,ho,_⟩:=pl.isList;exact O7 ho
   have t2:l2<s1.heap.objs.size:=by obtain⟨o,ho,_⟩:=pl'.isList;exact O7 ho
   refine call_zip_2 pl.isList pl'.isList λh' hz hTI hTO hit1 hit2 hsz kp=>?_;refine wpAny_pyIter_zip hz ?_;refine⟨s1.heap.objs.size+4,[s1.heap.objs.size+4,s1.heap.objs.size+2,s1.heap.objs.size+3,s1.heap.objs.size,s1.heap.objs.size+1],_,_,H1,rfl,I1.kept (t':=s1.toks) kp,AG _ _ _ _ _ l1 l2 xs ys (zipApart_new t1 t2),⟨Tx _,hz,hTI,⟨_,_,hTO⟩,hit1,hit2⟩,λc hc=>?_,q⟩;have ok:∀k,nE X Sa H1 (s1.heap.objs.size+k):=λk=>I1.Fs (a2s _ _) (I1.hok.fresh (a2s _ _));simp only[List.mem_cons,List.not_mem_nil,or_false]at hc;rcases hc with r|r|r|r|r<;>subst r
   .exact ok 4
   .exact ok 2
   .exact ok 3
   .exact ok 0
   .exact ok 1
def HI(xs ys:Pe):List PV:=List.zipWith (λx y=>.t [x,y]) xs ys
def NL:List PV->Out (List PV)
 |[.l xs,.l ys]=>.ok (HI xs ys)
 |_=>.wall
def Lq(ms:MA):MI:=λU=>(ms U).bind NL
def fO(h:H T=none):zH H (upd H T o):=λa u e=>by rw[zl (zQ e h)];exact e
def OD(hn:xs.length=n)(hMN:∀a,M a->N a)(h:∀H',Fr N H2 H'->ok H')(r:∀i x,xs[i]?=some x->∃ys,x=.t ys/\yq W M H2 ys (row i)):DT W M N H2 (Itw n ok row) xs:=λH' f=>by refine⟨λi x hx=>?_,hn,h H' f⟩;obtain⟨ys,rfl,rr⟩:=r i x hx;refine⟨⟨by have:=(P8.mp hx).1;omega,h H' f⟩,λv H'' hy=>?_⟩;obtain⟨T,rfl,hT,rfl⟩:=hy;refine⟨fO hT,λM' sM=>⟨T,row i,rfl,.inl (.inl (zh ..)),?_⟩⟩;exact yq.gen (λa o h m=>fO hT _ _ (f a o h (m.imp (hMN a) id))) (λa m n=>sM a m n) rr
end
section
variable {X:Cx}{C:LC}{S:OS}{o e f:Pc}{w1 w2:Bool}{m1 m2 m3:ME}{Y1 jW:Pos}
end
section
variable {X:Cx}{C:LC}{S:OS}{elts:OX}{kk:Nat}{tp p pos:Pos}{a b:Pc}{m1 m2:ME}
def Eu(hg:Gl X "zip")(hm:X.mg "zip"=none)(h1:EN X C S a m1)(h2:EN X C S b m2)(hs:starEach [a,b] X.env=[(false,eval a X.env),(false,eval b X.env)]:=by rfl)(hs2:starEach [b] X.env=[(false,eval b X.env)]:=by rfl):IM X C S false (.Tuple elts kk tp) (.Call (.Name "zip" p) [a,b] [] pos) (Lq (zb m1 (zb m2 zm))):=λhK=>by
 obtain⟨ta,a1,a2⟩:=h1 hK;obtain⟨tb,b1,b2⟩:=h2 hK;refine⟨_,HF hg hm (ZW a1 (ZW b1 Ub (by rw[hs2];rfl)) (by rw[hs,hs2])) hs hs2,λB P H Y U R Q q=>a2 B P H Y U R _ ?_⟩;unfold Lq zb at q;revert q;cases m1 U with
 |exc c fs=>exact id
 |wall=>exact id
 |ok y1=>
  intro q v1 H1 s1 r1;refine b2 B P H1 Y U (R.keep s1) _ ?_;revert q;cases m2 U with
  |exc c fs=>exact id
  |wall=>exact id
  |ok y2=>
   intro q0 v2 H2 s2 r2;have q:sf C B S P false H Q (NL [y1,y2]):=q0;clear q0;cases y1 with
   |l xs=>
    cases y2 with
    |l ys=>
     obtain⟨p1,vs1,rfl,n1,hp1,rr1⟩:=r1;obtain⟨p2,vs2,rfl,n2,hp2,rr2⟩:=r2;have hp1:=s2 _ _ hp1;have rr1:=rr1.same s2;have l1:=rr1.len;have l2:=rr2.len;refine⟨p1,p2,vs1,vs2,rfl,Sq.of hp1,Sq.of hp2,q _ H2 (s1.trans s2) (OD (by unfold HI;rw[List.length_zipWith,l1,l2]) (λa m=>Sl.nac m) (λH' f=>⟨Sq.of (f _ _ hp1 (.inl n1)),Sq.of (f _ _ hp2 (.inl n2))⟩) λi x hx=>?_)⟩;unfold HI at hx;rw[List.getElem?_zipWith]at hx;cases e1:xs[i]? with
     |none=>rw[e1]at hx;cases hx
     |some x1=>
      cases e2:ys[i]? with
      |none=>rw[e1,e2]at hx;cases hx
      |some x2=>rw[e1,e2]at hx;cases hx;obtain⟨u1,hu1,ru1⟩:=rr1.get e1;obtain⟨u2,hu2,ru2⟩:=rr2.get e2;exact⟨_,rfl,u1,_,by unfold Lp;rw[hu1,hu2];rfl,ru1,u2,[],rfl,ru2,rfl⟩
    |_=>exact q.elim
   |_=>exact q.elim
end
section
variable {X:Cx}{W:RC}{E:XK}{e:Pc}{es:OX}{pos p:Pos}{ms:TK}{x:Str}{k:Nat}{f:Addr}{fd:Pl}{ps:OP}{g:Pd}{ws:OW}
end
section
variable {X:Cx}{W:RC}{E:XK}{a b:Pc}{rest:OX}{pos:Pos}{m1 m2:SD}
end
def ϝ.le(h:ϝ C S te m):LE C S false te m:=λB P H Y U R Q q=>h B P H Y U R Q (KQ q λx v H2 s hr=>RV.of (hr.rep R.new))
section
variable {X:Cx}{W:RC}{E:XK}{fr' fr:Bool}{S:OS}{jD tg elt:Pc}{ifs:OX}{m me:ME}{mc:MT}{mg:MG}{mi:MI}{pos ny py:Pos}{i j:Nat}{scope:Scope}{y:Str}
def OE(bs:OW)(a2:LE ⟨W,E,fr⟩ S false te m)(hS:S.all (·==0)=true:=by rfl):∀(Z:HC),Z.W=W->∀A H Y U G,HR Z A H Y U G->∀Q,SJ Z E A G.length H (ϓ Z Q) (hP bs m U G)->te Y H Q:=λZ hZ A H Y U G R Q q=>by
 subst hZ;unfold hP at q;split at q
 .rename_i r hr;refine a2 _ _ H Y r (Al R hr hS) Q ?_;revert q;cases m r with
  |ok x=>exact λq v H2 s rx=>q A H2 (R.toHH.keep s) (Sn.same s) v (rx.rep.sub λa m _=>An R.toHH a m)
  |exc c fs=>exact λq=>c5 R.toHH q λH2 es h=>h.sub λa m _=>m.elim id λn=>R.toHH.new a n
  |wall=>exact id
 .split at q
  .rename_i r hr;refine a2 _ _ H Y r (Am R hr hS) Q ?_;revert q;cases m r with
   |ok x=>
    intro q v H2 s rx;dsimp only at q;split at q
    .rename_i hi;exact q A H2 (R.toHH.keep s) (Sn.same s) v (V8 hi rx.rep)
    .exact q.elim
   |exc c fs=>
    intro q;dsimp only at q;split at q
    .rename_i hi;exact c5 R.toHH q λH2 es h=>Z5 hi h
    .exact q.elim
   |wall=>exact id
  .exact q.elim
def Co(bs:OW)(N:OP)(fr:Pf)(Si:OS)(hN:X.N.Nodup)(hy:X.N[j]?=some y)(hl:X.env.scope.names.lookup y=some .local)(hc:X.calm=true)(hok:pX X scope N fr=true)(hi:IM X ⟨W,E,fr'⟩ S true tg jD mi)(hg:∀z:CI,GM (ψ X scope N z) ⟨W,E0,false⟩ Si Si tg mg)(ht:∀z:CI,ϴ (ψ X scope N z) ⟨W,E0,false⟩ Si ifs mc)(he:∀z:CI,EM (ψ X scope N z) ⟨W,E0,false⟩ Si false elt me)(hS:Si=Tr S fr:=by rfl)(h0:S.all (·==0)=true:=by rfl)(hsw:swapsWith (.ListComp elt [⟨tg,jD,ifs,0⟩] scope pos) (some (.Name y py)) ny.line X.env=pure true:=by rfl)(hs:∀x,foldedSetIterable jD X.env x=pure x:=by intro _;rfl):HS X W E (.Assign [.Name y py] (.ListComp elt [⟨tg,jD,ifs,0⟩] scope pos) ny) (qF j (hP bs (SO mi fr mg mc me))):=λhK=>by
 obtain⟨wi,a1,a2⟩:=hi hK;obtain⟨g,b1,b2⟩:=cU hg λ_=>hK;obtain⟨tc,c1,c2⟩:=cT ht λ_=>hK;obtain⟨te,d1,d2⟩:=cS he λ_=>hK;exact⟨_,DC N fr hN hy hl hc hok a1 (λfp pn s H L=>b1 ⟨fp,pn,s,H,L⟩) (λfp pn s H L=>c1 ⟨fp,pn,s,H,L⟩) (λfp pn s H L=>d1 ⟨fp,pn,s,H,L⟩) hsw hs,mx (OE bs (fr:=fr') (Ab a2 rfl hS b2 c2 d2).le h0)⟩
end
def MZ(K:Pw)(F F2:Addr)(tb:TSx)(i:Nat)(ts ts2:Addr->TS):TS:=λD Y H=>
 tb D (λv o H'=>∃e C dx,v=.ref e/\o=some dx/\H' e=some (XC e C dx)/\(Catch K C F true/\ts e { nx:=λ_ _=>False,rt:=D.rt } (Y.set i (some (.ref e))) H'\/Catch K C F false/\Catch K C F2 true/\ts2 e { nx:=λ_ _=>False,rt:=D.rt } (Y.set i (some (.ref e))) H')) Y H
def Ew(own:Own X)(hb:Mj X body tb)(hg:Gl X cx)(hm:X.mg cx=some (.ref F))(hg2:Gl X cx2)(hm2:X.mg cx2=some (.ref F2))(hN:X.N.Nodup)(hi:X.N[i]?=some n)(hx:Loc X.env.scope n)(hl:X.env.kindOf n=some .local)(hs:∀e,TR (X.held (.ref e)) (b₀::suite) (ts e))(hs2:∀e,TR (X.held (.ref e)) (b₂::suite2) (ts2 e))(hdb:(cx==("__debug__":Str))=false:=by decide)(hdb2:(cx2==("__debug__":Str))=false:=by decide)(hf:X.fn n=true\/X.env.scope.names.lookup n=some .local:=by first|exact .inl rfl|exact .inr rfl|assumption):
  PS X (.Try body [.ExceptHandler (some (.Name cx np)) (some n) (b₀::suite) hp,.ExceptHandler (some (.Name cx2 np2)) (some n) (b₂::suite2) hp2] [] [] pos) (MZ X.K F F2 tb i ts ts2):=by
 intro Sa s Y H D I h;refine wpAny_Try_except (Tg (hb Sa s Y H D _ I h) (λf s1 q=>?_) λv s1 q=>?_)
 .cases f with
  |next=>exact a06 q
  |ret u=>exact q
  |brk=>exact q
  |cont=>exact q
 .obtain⟨H',e,C,dx,rfl,I1,fl,e',C',dx',ee,ed,hC,q⟩:=q;cases ee;cases ed;refine cH own I1.ok.frames I1 fl λTn h2 I2 b2=>?_;refine Uj I2 zh b2 λh3 I3 b3=>?_;rw[vw]at I3 b3;have fA:∀(h:Heap),Inv X Sa Y (upd H' e (XO e C (some dx) (.ref Tn))) { s1 with heap:=h }->∃o,h.get? e=some o/\o.cls=.ref C':=λh I'=>by have J:=I'.ie zh;rw[vw]at J;obtain⟨t,T,sl,ho⟩:=XC.get (J.hok e _ hC);exact⟨_,ho,rfl⟩
  obtain⟨o,ho,hoc⟩:=fA _ I3;refine a22 (a2M ?_) (λz=>by cases z);refine JZ (X:=X.held (.ref e)) (I3.held _) hg hm ?_ hdb;rcases q with⟨kc,q⟩|⟨kn,kc,q⟩
  .refine(J_ I3.kIn ho hoc kc).here ?_;refine a2a ?_;refine Uj I3 zh b3 λh4 I4 b4=>?_;rw[vw]at I4 b4;refine Q2 (X:=X) I4 hN hi hx (v:=.ref e) rfl (λs5 I5=>?_) hf;have J5:=(I5.ie zh).held (.ref e);rw[vw]at J5;refine Tg (hs e Sa s5 _ _ _ J5 q) (λf s6 z=>?_) λ_ _ z=>False.elim z;cases f with
   |ret u=>obtain⟨v,Y',H6,I6,rv,q6⟩:=z;exact name_goes (X:=X) (I6.BR I.ok) hl λs7 I7=>⟨v,_,H6,I7,rv,q6⟩
   |next=>obtain⟨_,_,_,z⟩:=z;exact False.elim z
   |brk=>obtain⟨_,_,_,z⟩:=z;exact False.elim z
   |cont=>obtain⟨_,_,_,z⟩:=z;exact False.elim z
  .refine(J_ I3.kIn ho hoc kn).here ?_;refine a22 (a2M ?_) (λz=>by cases z);refine JZ (X:=X.held (.ref e)) (I3.held _) hg2 hm2 ?_ hdb2;refine(J_ I3.kIn ho hoc kc).here ?_;refine a2a ?_;refine Uj I3 zh b3 λh4 I4 b4=>?_;rw[vw]at I4 b4;refine Q2 (X:=X) I4 hN hi hx (v:=.ref e) rfl (λs5 I5=>?_) hf;have J5:=(I5.ie zh).held (.ref e);rw[vw]at J5;refine Tg (hs2 e Sa s5 _ _ _ J5 q) (λf s6 z=>?_) λ_ _ z=>False.elim z;cases f with
   |ret u=>obtain⟨v,Y',H6,I6,rv,q6⟩:=z;exact name_goes (X:=X) (I6.BR I.ok) hl λs7 I7=>⟨v,_,H6,I7,rv,q6⟩
   |next=>obtain⟨_,_,_,z⟩:=z;exact False.elim z
   |brk=>obtain⟨_,_,_,z⟩:=z;exact False.elim z
   |cont=>obtain⟨_,_,_,z⟩:=z;exact False.elim z
section
variable {X:Cx}{C:LC}{S S' S1 S2 S3 Sb Sc:OS}{j:Nat}{pos:Pos}{m1 m2 m3:MS}
end
def HEX(X:Cx)(W:RC)(e:Pc)(m:SD):Prop:=X.K=W.K->∃te:TEx,PEx X e te/\∀(Z:HC),Z.W=W->∀A H Y U G,HR Z A H Y U G->∀Q Zx,SJ Z Zx A G.length H (ϓ Z Q) (m U G)->te Y H Q Zx
def HXS(X:Cx)(W:RC)(st:Pt)(m:Su):Prop:=X.K=W.K->∃t:TSx,Mj X st t/\∀(Z:HC),Z.W=W->∀A H Y U G,HR Z A H Y U G->∀D Zx,Sz Z Zx A G.length H D (m U G)->t D Zx Y H
section
variable {X:Cx}{W:RC}{E:XK}{e:Pc}{es:OX}{pos p pos':Pos}{ms:TK}{m:SD}{x y:Str}{k n i j:Nat}{f:Addr}{fd:Pl}{ps:OP}{g:List HV->AH->HX HV}{m1 m2 m3:Su}
def HJ(hN:X.N.Nodup)(hi:X.N[i]?=some x)(hx:Loc X.env.scope x)(h:HEX X W e m)(hs:Ro X e x pos' pos:=by rfl)(hf:Rm X x:=by first|exact .inl rfl|exact .inr rfl|assumption):
  HXS X W [.Assign [.Name x pos'] e pos] (qF i m):=λhK=>by
 obtain⟨te,a1,a2⟩:=h hK;refine⟨_,xH (Dx hN hi hx a1 hs hf),λZ hZ A H Y U G R D Zx q=>a2 Z hZ A H Y U G R _ Zx ?_⟩;exact Sz.bind (show Sz Z Zx A G.length H D ((m U G).fw λv G'=>.nx (U.set i (some v)) G')from q) λx A1 H1 G1 h1 g1 q1 v rx=>q1 A1 H1 _ ((R.gro h1 g1).set rx) Sn.refl
def dh(cs cs2:OS)(m1:Su)(j:Nat)(m2 m3:Su):Su:=λU G=>match m1 U G with
 |.nx U' G'=>.nx U' G'
 |.rt x G'=>.rt x G'
 |.exc c fs G'=>if c∈cs then(match m2 (U.set j (some (.v (.x c fs)))) G' with
  |.rt x G2=>.rt x G2
  |_=>.wall)else if c∈cs2 then(match m3 (U.set j (some (.v (.x c fs)))) G' with
  |.rt x G2=>.rt x G2
  |_=>.wall)else .wall
 |_=>.wall
def Ex{body suite suite2:Pt}{b₀ b₂:PB}{cx cx2 n:Str}{np hp np2 hp2:Pos}{F F2:Addr}{cs cs2:OS}(own:Own X)(hb:HXS X W body m1)(hg:Gl X cx)(hm:X.mg cx=some (.ref F))(hg2:Gl X cx2)(hm2:X.mg cx2=some (.ref F2))(hN:X.N.Nodup)(hi:X.N[j]?=some n)(hx:Loc X.env.scope n)(hs:∀e,Τ (X.held (.ref e)) W E (b₀::suite) m2)(hs2:∀e,Τ (X.held (.ref e)) W E (b₂::suite2) m3)(hcs:∀c∈cs,Catch X.K (W.cls c) F true)(hcs2:∀c∈cs2,Catch X.K (W.cls c) F false/\Catch X.K (W.cls c) F2 true)(hl:X.env.kindOf n=some .local:=by rfl)(hdb:(cx==("__debug__":Str))=false:=by decide)(hdb2:(cx2==("__debug__":Str))=false:=by decide)(hf:X.fn n=true\/X.env.scope.names.lookup n=some .local:=by first|exact .inl rfl|exact .inr rfl|assumption):
  HS X W E (.Try body [.ExceptHandler (some (.Name cx np)) (some n) (b₀::suite) hp,.ExceptHandler (some (.Name cx2 np2)) (some n) (b₂::suite2) hp2] [] [] pos) (dh cs cs2 m1 j m2 m3):=λhK=>by
 obtain⟨tb,a1,a2⟩:=hb hK;have hs':=λe=>hs e hK;have hs2':=λe=>hs2 e hK;refine⟨_,Ew own a1 hg hm hg2 hm2 hN hi hx hl (ts:=λe=>Classical.choose (hs' e)) (ts2:=λe=>Classical.choose (hs2' e)) (λe=>(T2 (hs' e)).1) (λe=>(T2 (hs2' e)).1) hdb hdb2 hf,λZ hZ A H Y U G R D q=>a2 Z hZ A H Y U G R D _ ?_⟩;unfold dh at q;revert q;cases m1 U G with
 |wall=>exact id
 |nx U' G'=>exact id
 |rt x G'=>exact id
 |bk U' G'=>exact λq=>q.elim
 |ct U' G'=>exact λq=>q.elim
 |exc c fs G'=>
  intro q A' H' e dx es h g h1 h2 h3;have q:Sz Z E A G.length H D (if c∈cs then(match m2 (U.set j (some (.v (.x c fs)))) G' with
   |.rt x G2=>.rt x G2
   |_=>.wall)else if c∈cs2 then(match m3 (U.set j (some (.v (.x c fs)))) G' with
   |.rt x G2=>.rt x G2
   |_=>.wall)else .wall):=q
  have R':=(R.gro h g).set (i:=j) (x:=.v (.x c fs)) (v:=.ref e) (show Rep Z.W _ H' (.x c fs) _ from⟨e,dx,es,rfl,h1,h2,h3⟩);subst hZ;split at q
  .rename_i hc;refine⟨e,_,dx,rfl,rfl,h1,.inl ⟨hcs c hc,(T2 (hs' e)).2 Z rfl A' H' _ _ G' R' _ ?_⟩⟩;split at q
   .rename_i x G2 hx;rw[hx];exact λA2 H2 v hh gg rr=>q A2 H2 v hh (g.trans gg) rr
   .exact q.elim
  .split at q
   .rename_i hc;refine⟨e,_,dx,rfl,rfl,h1,.inr ⟨(hcs2 c hc).1,(hcs2 c hc).2,(T2 (hs2' e)).2 Z rfl A' H' _ _ G' R' _ ?_⟩⟩;split at q
    .rename_i x G2 hx;rw[hx];exact λA2 H2 v hh gg rr=>q A2 H2 v hh (g.trans gg) rr
    .exact q.elim
   .exact q.elim
end
section
variable {X:Cx}{W:RC}{E:XK}{a b:Pc}{pos:Pos}{m1 m2:SD}
end
section
variable {X:Cx}{W:RC}{E:XK}{e:Pc}{es:OX}{pos p:Pos}{ms:MA}{x:Str}{k:Nat}{f:Addr}{fd:Pl}{ps:OP}{g:Pd}{ws:OW}{S:OS}{fr:Bool}
def OF(bs:OW)(F:yW X.prog X.w X.K X.mg X.base (Sj X.prog X.w) k f fd ps (Sw W true ws g))(hr:vf k X.A)(hg:Gl X x)(hm:X.mg x=some (.ref f))(hk:keepIn X.K (.ref f)=true)(hb:Binds X.K fd ps [])(ha:AM X.nox ⟨W,E0,fr⟩ S ws (e::es) ms)(hS:S.all (·==0)=true:=by rfl)(hdb:Rn x:=by decide)(he:starEach (e::es) X.env=(false,eval e X.env)::starEach es X.env:=by rfl)(hpl:(backTo pos (starEach es X.env)).any (·.1)=false:=by rfl):HEX X W (.Call (.Name x p) (e::es) [] pos) (hF bs (fq g ms)):=λhK=>by
 obtain⟨ta,a1,a2⟩:=ha hK;refine⟨_,xG F hr hg hm hk hb a1 hdb he hpl,λZ hZ A H Y U G R Q Zx q=>MH (E:=Zx) (fr:=fr) (te:=λY H Q=>ta Y H λvs H1=>Sw W true ws g vs H1 Q Zx) bs ?_ hS Z hZ A H Y U G R Q q⟩;intro B P H Y U R Q q;refine a2 B P H Y U R _ ?_;unfold fq at q;revert q;cases ms U with
 |exc c fs=>exact λq=>q.elim
 |wall=>exact id
 |ok xs=>intro q vs H1 s1 r1;refine⟨_,xs,r1.args,?_⟩;have q:zV ⟨W,Zx,fr⟩ B H (SW W (Sl B S P) H) Q (g xs):=q;exact iB (C:=⟨W,Zx,fr⟩) (R.keep s1) (ZY (C:=⟨W,Zx,fr⟩) (o:=g xs) q s1)
end
def Ϣ(bs:OW)(m:ME):SD:=λU G=>match WD G bs U with
 |some r=>match m r with
  |.ok x=>match iH x with
   |some c=>.ok (.g G.length) (G++[c])
   |none=>.wall
  |.exc c fs=>.exc c fs G
  |.wall=>.wall
 |none=>.wall
section
variable {X:Cx}{W:RC}{E:XK}{fr' fr:Bool}{S:OS}{jD tg elt:Pc}{ifs:OX}{m me:ME}{mc:MT}{mg:MG}{mi:MI}{pos ny py:Pos}{i j:Nat}{scope:Scope}{y:Str}
def M3(bs:OW)(a2:ϝ ⟨W,E,fr⟩ S te m)(hS:S.all (·==1)=true:=by rfl)(hb:bs.length<=S.length:=by decide):∀(Z:HC),Z.W=W->∀A H Y U G,HR Z A H Y U G->∀Q,SJ Z E A G.length H (ϓ Z Q) (Ϣ bs m U G)->te Y H Q:=λZ hZ A H Y U G R Q q=>by
 subst hZ;unfold Ϣ at q;split at q
 .rename_i r hr;refine a2 _ _ H Y r (MN R hr hS hb) Q ?_;revert q;cases m r with
  |ok x=>
   intro q v H2 s rx;dsimp only at q;split at q
   .rename_i c hc;obtain⟨p,rfl,hp,ra⟩:=rx;exact c6 R.toHH s hp (D_ (ra.gen rfl Fr.refl λa m _=>B_ (An R.toHH a m.1) m.2) hc) q
   .exact q.elim
  |exc c fs=>exact λq=>c5 R.toHH q λH2 es h=>h.sub λa m _=>m.elim id λn=>R.toHH.new a n
  |wall=>exact id
 .exact q.elim
def HK(bs:OW)(N:OP)(fr:Pf)(Si:OS)(hN:X.N.Nodup)(hy:X.N[j]?=some y)(hl:X.env.scope.names.lookup y=some .local)(hc:X.calm=true)(hok:pX X scope N fr=true)(hi:IM X ⟨W,E,fr'⟩ S true tg jD mi)(hg:∀z:CI,GM (ψ X scope N z) ⟨W,E0,false⟩ Si Si tg mg)(ht:∀z:CI,ϴ (ψ X scope N z) ⟨W,E0,false⟩ Si ifs mc)(he:∀z:CI,EM (ψ X scope N z) ⟨W,E0,false⟩ Si false elt me)(hS:Si=Tr S fr:=by rfl)(h0:S.all (·==1)=true:=by rfl)(hb:bs.length<=S.length:=by decide)(hsw:swapsWith (.ListComp elt [⟨tg,jD,ifs,0⟩] scope pos) (some (.Name y py)) ny.line X.env=pure true:=by rfl)(hs:∀x,foldedSetIterable jD X.env x=pure x:=by intro _;rfl):HS X W E (.Assign [.Name y py] (.ListComp elt [⟨tg,jD,ifs,0⟩] scope pos) ny) (qF j (Ϣ bs (SO mi fr mg mc me))):=λhK=>by
 obtain⟨wi,a1,a2⟩:=hi hK;obtain⟨g,b1,b2⟩:=cU hg λ_=>hK;obtain⟨tc,c1,c2⟩:=cT ht λ_=>hK;obtain⟨te,d1,d2⟩:=cS he λ_=>hK;exact⟨_,DC N fr hN hy hl hc hok a1 (λfp pn s H L=>b1 ⟨fp,pn,s,H,L⟩) (λfp pn s H L=>c1 ⟨fp,pn,s,H,L⟩) (λfp pn s H L=>d1 ⟨fp,pn,s,H,L⟩) hsw hs,mx (M3 bs (fr:=fr') (Ab a2 rfl hS b2 c2 d2) h0 hb)⟩
end
def Ey:PV->PV->Out PV
 |.t (a::r),.t (b::q)=>if(a::r).length+(b::q).length<=sizeLine then .ok (.t ((a::r)++(b::q)))else .wall
 |_,_=>.wall
def Ez:Th W (F4 W.K) Ey:=λM C B H x y v u Q n hx hy q=>by
 unfold Ey at q;split at q
 .split at q
  .rename_i h;obtain⟨p,vs,rfl,e,r⟩:=hx;obtain⟨p',vs',rfl,e',r'⟩:=hy;have l1:=r.len;have l2:=r'.len;exact⟨p,p',vs,vs',rfl,rfl,e,e',(λz=>by rw[z]at l1;cases l1),by rw[l1,l2];exact h,(λz=>by rw[z]at l2;cases l2),λ_ z hz=>q _ _ (zH.upd hz) (iq hz (r.append r'))⟩
  .exact q.elim
 .exact q.elim
end L2
namespace L2
section
variable {κ α:Type}[DecidableEq κ]
def AI{k:κ}:zM ([]:List (κ×α)) k=none:=rfl
def ye{k j:κ}{v:α}{r:List (κ×α)}:zM ((j,v)::r) k=if j=k then some v else zM r k:=by
 unfold zM;rw[a1a];by_cases h:j=k
 .simp[h]
 .simp[h]
def ko:∀{kvs:List (κ×α)}{k:κ},kvs.any (λkv=>decide (kv.1=k))=(zM kvs k).isSome
 |[],_=>rfl
 | (j,v)::r,k=>by
  rw[π,ye,ko];by_cases h:j=k
  .simp[h]
  .simp[h]
def mH:∀{a:List (κ×α)}{k j:κ}{v:α},zM (a++[(k,v)]) j=(zM a j).or (if k=j then some v else none)
 |[],k,j,v=>by rw[a1L,ye,AI];rfl
 | (i,u)::a,k,j,v=>by
  rw[List.cons_append,ye,ye,mH];by_cases h:i=j
  .rw[if_pos h,if_pos h];rfl
  .rw[if_neg h,if_neg h]
def di:∀{a:List (κ×α)}{k j:κ}{v:α},zM (a.map λkv=>if kv.1=k then(kv.1,v)else kv) j=if k=j then(zM a j).map (λ_=>v)else zM a j
 |[],k,j,v=>by split<;>rfl
 | (i,u)::a,k,j,v=>by
  rw[O6];by_cases h:i=k
  .subst h;rw[if_pos rfl,ye,ye,di];by_cases h:i=j
   .rw[if_pos h,if_pos h,if_pos h];rfl
   .rw[if_neg h,if_neg h,if_neg h,if_neg h]
  .rw[if_neg (show ¬((i,u):κ×α).1=k from h),ye,ye,di];by_cases hj:i=j
   .rw[if_pos hj,if_pos hj,if_neg λz=>h (hj.trans z.symm)]
   .rw[if_neg hj,if_neg hj]
def wy{a:List (κ×α)}{k j:κ}{v:α}:zM (dput a k v) j=if k=j then some v else zM a j:=by
 unfold dput;rw[ko];split
 .rename_i h;rw[di];split
  .rename_i e;subst e;obtain⟨x,hx⟩:=a0u.mp h;rw[hx];rfl
  .rfl
 .rename_i h;rw[mH];by_cases e:k=j
  .subst e;have:zM a k=none:=by cases q:zM a k with|none=>rfl|some x=>rw[q]at h;exact absurd rfl h
   rw[this,if_pos rfl];rfl
  .rw[if_neg e,if_neg e];cases zM a j<;>rfl
def K7{a:List (κ×α)}{k:κ}{v:α}:(dput a k v).map (·.1)=if(zM a k).isSome=true then a.map (·.1)else a.map (·.1)++[k]:=by
 unfold dput;rw[ko];split
 .rw[γ];refine a03 λkv _=>?_;show(if kv.1=k then(kv.1,v)else kv).1=kv.1;split<;>rfl
 .rw[R7];rfl
def Q8:∀{a:List (κ×α)}{k:κ}{v:α},zM a k=some v->(k,v)∈a
 |[],_,_,e=>by cases e
 | (j,u)::a,k,v,e=>by
  rw[ye]at e;split at e
  .rename_i h;subst h;cases e;exact O0
  .exact O4 _ (Q8 e)
def AJ{a:List (κ×α)}{k:κ}:(zM a k).isSome=true↔k∈a.map (·.1):=by
 rw[<- ko,List.any_eq_true];constructor
 .rintro ⟨kv,h,e⟩;exact T7.mpr ⟨kv,h,ϗ e⟩
 .intro h;obtain⟨kv,h,e⟩:=T7.mp h;exact⟨kv,h,O9 e⟩
def bZ{a:List (κ×α)}{k:κ}{v:α}(h:(a.map (·.1)).Nodup):((dput a k v).map (·.1)).Nodup:=by
 rw[K7];split
 .exact h
 .rename_i n;refine a1f.mpr ⟨h,by simp,λx hx y hy z=>?_⟩;obtain rfl:y=k:=by simpa using hy
  subst z;exact n (AJ.mpr hx)
end
end L2
namespace K45
open PySem L2
noncomputable section NCS
def top(i:Nat):Stmt:=PySem.Challenge.pw_fleetpath_k45_legs_are_trips.main.body.getD i (.Pass ⟨0,0,0,0⟩)
abbrev V_:Stmt:=top 55
abbrev Wa:Stmt:=top 57
abbrev Z6:Stmt:=top 58
abbrev Ke:Stmt:=top 60
abbrev wX:Stmt:=inClass (top 6) 0
abbrev Qa:Stmt:=top 18
abbrev wY:Stmt:=inClass (top 4) 0
abbrev wZ:Stmt:=top 14
abbrev Qb:Stmt:=inClass (top 7) 0
abbrev jI:Stmt:=top 16
abbrev w4:Stmt:=top 40
abbrev w6:Stmt:=inClass (top 8) 0
abbrev Z7:Stmt:=top 39
abbrev kW:Stmt:=inClass (top 5) 0
abbrev kX:Stmt:=top 15
abbrev Qc:Stmt:=top 41
abbrev w8:Stmt:=top 42
abbrev Qd:Stmt:=inClass (top 43) 0
abbrev w_:Stmt:=inClass (top 43) 2
abbrev vC:Stmt:=inClass (top 27) 0
abbrev Qe:Stmt:=inClass (top 9) 0
abbrev Za:Stmt:=inClass (top 28) 0
abbrev Qf:Stmt:=top 29
abbrev kY:Stmt:=top 30
abbrev Qg:Stmt:=inClass (top 31) 0
abbrev Qh:Stmt:=top 65
abbrev Qi:Stmt:=top 62
abbrev Qj:Stmt:=top 17
abbrev Z8:Stmt:=inClass (top 10) 0
abbrev Qk:Stmt:=inClass (top 31) 2
abbrev Z9:Stmt:=top 32
abbrev EA:Stmt:=top 34
abbrev dj:Stmt:=top 35
abbrev vD:Stmt:=inClass (top 45) 0
abbrev Zb:Stmt:=top 47
abbrev Z_:Stmt:=inClass (top 43) 1
abbrev Kf:Stmt:=top 48
abbrev Kg:Stmt:=top 49
abbrev Ya:Stmt:=top 50
abbrev UB:Stmt:=top 52
abbrev tH:Stmt:=top 53
abbrev Kh:Stmt:=top 63
abbrev UC:Stmt:=top 61
abbrev Wb:Stmt:=top 56
abbrev Ki:Stmt:=top 59
abbrev Kj:Stmt:=top 64
abbrev Zc:Stmt:=top 51
abbrev Kk:Stmt:=top 66
abbrev EB:Stmt:=top 67
def scB(N P:OP)(sc:Scope):Bool:=(match sc.kind with | .function=>true|_=>false)&&(!sc.isCoroutine&&(!sc.isGenerator&&(decide N.Nodup&&(decide (N.take P.length=P)&&(P.all (λx=>match sc.names.lookup x with|some .local=>true|some .cell=>true|_=>false)&&sc.names.all λy=>match y.2 with | .free=>false|_=>true)))))
def vj(h:scB N P sc=true):zy N P sc:=by
 unfold scB at h;simp only[Bool.and_eq_true,decide_eq_true_eq,List.all_eq_true]at h;obtain⟨h1,h2,h3,h4,h5,h6,h7⟩:=h;refine⟨?_,by simpa using h2,by simpa using h3,h4,h5,λx hx=>?_,λy hy e=>?_⟩
 .revert h1;cases sc.kind<;>simp
 .have:=h6 x hx;split at this<;>simp_all
 .have:=h7 y hy;rw[e]at this;cases this
def Kl:zy ["_law_script","_law_k","_law_many","_law_cell"] ["_law_script","_law_k","_law_many"] (zk V_):=vj (by decide +kernel)
def j4:zy ["_law_script","_law_places","_law_scale","_law_ring","_law_many","_law_ways_here","_law_k","_law_pair"] ["_law_script","_law_places","_law_scale","_law_ring"] (zk Wa):=vj (by decide +kernel)
def zY:zy ["_law_places","_law_ways_here","_law_far","_law_place","_law_origin","_law_goal","_law_minutes","_law_amid","_law_total"] ["_law_places","_law_ways_here"] (zk Z6):=vj (by decide +kernel)
def wz:zy ["_law_script","_law_trips_here","_law_scale","_law_way","_law_shift"] ["_law_script","_law_trips_here","_law_scale"] (zk Ke):=vj (by decide +kernel)
def UD:zy ["self","most"] ["self","most"] (zk wX):=vj (by decide +kernel)
def dk:zy ["things","most"] ["things","most"] (zk Qa):=vj (by decide +kernel)
def UE:zy ["self","name"] ["self","name"] (zk wY):=vj (by decide +kernel)
def Ql:zy ["name","sign"] ["name"] (zk wZ):=vj (by decide +kernel)
def dm:zy ["self","name"] ["self","name"] (zk Qb):=vj (by decide +kernel)
def Km:zy ["name","had"] ["name","had"] (zk jI):=vj (by decide +kernel)
def vE:zy ["places","had","name"] ["places"] (zk w4):=vj (by decide +kernel)
def UG:zy ["self","name"] ["self","name"] (zk w6):=vj (by decide +kernel)
def aT:zy ["name","places"] ["name","places"] (zk Z7):=vj (by decide +kernel)
def Wc:zy ["self","value"] ["self","value"] (zk kW):=vj (by decide +kernel)
def Wd:zy ["value","least"] ["value","least"] (zk kX):=vj (by decide +kernel)
def vk:zy ["places","ways","origin","goal","minutes"] ["places","ways"] (zk Qc):=vj (by decide +kernel)
def z0:zy ["origin","ways","heights","changed","start","goal","minutes","height"] ["origin","ways"] (zk w8):=vj (by decide +kernel)
def dq:zy ["self","places","ways"] ["self","places","ways"] (zk Qd):=vj (by decide +kernel)
def UH:zy ["self","origin","goal"] ["self","origin","goal"] (zk w_):=vj (by decide +kernel)
def Xl:zy ["self","name"] ["self","name"] (zk vC):=vj (by decide +kernel)
def dr:zy ["self","origin","goal"] ["self","origin","goal"] (zk Qe):=vj (by decide +kernel)
def UI:zy ["self","name"] ["self","name"] (zk Za):=vj (by decide +kernel)
def K8:zy ["roads","trip","had","length"] ["roads","trip","had"] (zk Qf):=vj (by decide +kernel)
def We:zy ["trip"] ["trip"] (zk kY):=vj (by decide +kernel)
def K9:zy ["self","roads","trips","trip"] ["self","roads","trips"] (zk Qg):=vj (by decide +kernel)
def qH:zy ["_law_script","_law_trips_here","_law_blocks_here","_law_k","_law_which","_law_trip"] ["_law_script","_law_trips_here"] (zk Qh):=vj (by decide +kernel)
def vm:zy ["_law_blocks_here","_law_seen","_law_block","_law_trip"] ["_law_blocks_here"] (zk Qi):=vj (by decide +kernel)
def Yb:zy ["names","had","name"] ["names"] (zk Qj):=vj (by decide +kernel)
def aU:zy ["self","name"] ["self","name"] (zk Z8):=vj (by decide +kernel)
def du:zy ["self","name"] ["self","name"] (zk Qk):=vj (by decide +kernel)
def Jg:zy ["table","names","name"] ["table","names"] (zk Z9):=vj (by decide +kernel)
def mI:zy ["table","one","other","ahead","behind","length"] ["table","one","other"] (zk EA):=vj (by decide +kernel)
def fP:zy ["table","one","other","minutes"] ["table","one","other"] (zk dj):=vj (by decide +kernel)
def Xm:zy ["self","first","second"] ["self","first","second"] (zk vD):=vj (by decide +kernel)
def vF:zy ["table","names","one","other"] ["table","names"] (zk Zb):=vj (by decide +kernel)
def aV:zy ["self"] ["self"] (zk Z_):=vj (by decide +kernel)
def fQ:zy ["table","home","names"] ["table","home","names"] (zk Kf):=vj (by decide +kernel)
def fR:zy ["roads","origin","goal"] ["roads","origin","goal"] (zk Kg):=vj (by decide +kernel)
def aW:zy ["table","home","names"] ["table","home","names"] (zk Ya):=vj (by decide +kernel)
def qI:zy ["table","home","names","told","origin","name","trip","goal","start","finish"] ["table","home","names"] (zk UB):=vj (by decide +kernel)
def iL:zy ["table","home","blocks","told","names"] ["table","home","blocks"] (zk tH):=vj (by decide +kernel)
def kL:zy ["_law_table","_law_home","_law_blocks_here","_law_made","e","_law_others"] ["_law_table","_law_home","_law_blocks_here"] (zk Kh):=vj (by decide +kernel)
def yj:zy ["_law_far","_law_home","_law_blocks_here","_law_made","_law_block","_law_at","_law_k","_law_name_here","_law_origin","_law_goal","_law_start","_law_finish","_law_seats"] ["_law_far","_law_home","_law_blocks_here"] (zk UC):=vj (by decide +kernel)
def Ko:zy ["_law_script","_law_k","_law_number","_law_ahead","_law_behind"] ["_law_script","_law_k","_law_number"] (zk Wb):=vj (by decide +kernel)
def zR:zy ["_law_script","_law_places","_law_far","_law_scale","_law_many","_law_trips_here","_law_at","_law_time","_law_k","_law_origin","_law_goal","_law_spare","_law_more","_law_start"] ["_law_script","_law_places","_law_far","_law_scale","_law_many"] (zk Ki):=vj (by decide +kernel)
def Qm:zy ["_law_made","_law_due_here","_law_leg","_law_k"] ["_law_made","_law_due_here"] (zk Kj):=vj (by decide +kernel)
def yA:zy ["table","home","names","place","minutes","name","trip"] ["table","home","names"] (zk Zc):=vj (by decide +kernel)
def yI:zy ["_law_roads","_law_table","_law_home","_law_blocks_here","_law_made","_law_board","_law_at","_law_block","_law_names","_law_minutes","_law_k"] ["_law_roads","_law_table","_law_home","_law_blocks_here","_law_made"] (zk Kk):=vj (by decide +kernel)
def js:zy ["_law_script","_law_scale","_law_places","_law_ways_here","_law_far","_law_trips_here","_law_roads","_law_table","_law_home","_law_blocks_here","_law_named","_law_due_here","_law_handed","_law_word","_law_made","_law_within","_law_there","_law_other"] ["_law_script"] (zk EB):=vj (by decide +kernel)
abbrev Ε(K:Pq)(x:Str):Prop:=W.nsIn K mainGlobals x=some none
abbrev ξ(K:Pq)(x:Str)(c:Addr):Prop:=W.nsIn K mainGlobals x=some (some (.ref c))
abbrev NM(K:Pq)(x y:Addr):Prop:=W.kitOne K (.ref x) (.ref y)=some true
abbrev Cp(K:Pq)(x y:Addr):Prop:=W.kitOne K (.ref x) (.ref y)=some false
def ev(i:Nat)(hN:X.N[i]?=some x:=by rfl)(hv:Vis X.env.scope x:=by first|exact Or.inl rfl|exact Or.inr (Or.inl rfl)|exact Or.inr (Or.inr rfl))(hd:Rn x:=by decide)(hcd:(x==("__classdict__":Str))=false:=by decide):EM X C S true (.Name x pos) (zc i):=Gu (pv i hN hv hd hcd)
def ei{j}:EM X C S false (.Constant (.int i) j pos) (mC (.i i)):=zT FL
def rm(hr:vf k A)(h:j<=k:=by decide):vf j A:=hr.mono h
def HL(h1:W.findIn K (.ref C) "__init__"=some (some (.ref f)))(h2:K.lookup C=some (excClassObj nm q C N bs bm true sn sub ab col dd k0 k1 k2 k3 k5 "ValueError.__new__"))(h3:eY K bm=true)(h4:W.typeIn K (.ref f)=some (.type "function"))(h5:W.keepIn K (.ref C)=true):SY K C f:=⟨⟨_,_,_,_,_,_,_,_,_,_,_,_,_,_,_,h2,h3⟩,h1,h4,h5⟩
abbrev Ι(st:PB)(sh q:Str)(kV dc pm:Value)(an:PC)(cd ct:Value):FuncData:=W.fnOf sh q (Ui st) (ZX st) (zk st) .none kV dc pm an cd ct
abbrev SH(K:Pq)(x:Str)(st:PB)(f:Addr)(fd:Pl):Prop:=W.nsIn K mainGlobals x=some (some (.ref f))/\SA K x x st f fd
structure Def(K:Pq)(mg:OQ)(x:Str)(st:PB)(ps:OP)(f:Addr)(fd:Pl):Prop where
 g:mg x=some (.ref f)
 F:SA K x x st f fd
 b:Binds K fd ps []
def Def.k{K:Pq}{mg:OQ}{x:Str}{st:PB}{ps:OP}{f:Addr}{fd:Pl}(D:Def K mg x st ps f fd):W.keepIn K (.ref f)=true:=D.F.kp
abbrev BN(x q:Str)(st:PB)(ps:OP):Prop:=∀(kV dc pm:Value)(an:PC)(cd ct:Value)(us:OZ),us.length=ps.length->bindArgs (Ι st x q kV dc pm an cd ct) ⟨us,[]⟩=pure (ps.zip us)
def yk{K:Pq}{h:Heap}{mg:OQ}{x:Str}{st:PB}{ps:OP}{f:Addr}{fd:Pl}(X:K.In h)(G:h.Ns mainGlobals mg)(D:SH K x st f fd)(b:BN x x st ps):Def K mg x st ps f fd:=⟨SR X G D.1,D.2,D.2.binds b⟩
def fz{P:P_}:∀c∈([]:List Nat),P c:=λ_ h=>nomatch h
def fa{P:P_}{a:Nat}{l:OS}(h:P a)(t:∀c∈l,P c):∀c∈a::l,P c:=λc hc=>(P9.mp hc).elim (λe=>e▸h) (t c)
def al{X:Cx}{W:RC}{fr:Bool}{ws:OW}{mn:Str}{c:Nat}{f:Pd}(h:Fu X.prog X.w X.K X.mg X.base X.A mn (W.cls c) (Sw W fr (true::ws) f)):∀K sp,Lg W fr ws [(c,f)] K sp->Fu X.prog X.w X.K X.mg X.base X.A mn K sp:=λK sp ⟨q,hq,e1,e2⟩=>by cases R9.mp hq;subst e1 e2;exact h
def ec{X:Cx}{C:LC}{S:OS}{k j:Nat}{f:Addr}{fd:Pl}{ps:OP}{fr:Bool}{ws:OW}{g:Pd}{x:Str}{st:PB}{e:Pc}{es:OX}{ms:MA}{p pos:Pos}(F:yW X.prog X.w X.K X.mg X.base (Sj X.prog X.w) k f fd ps (Sw C.W fr ws g))(hr:vf j X.A)(D:Def X.K X.mg x st ps f fd)(hx:Passes (Sj X.prog X.w) X C.E)(ha:AM X C S ws (e::es) ms)(hj:k<=j:=by decide)(hg:Gl X x:=by rfl)(hdb:Rn x:=by decide)(he:starEach (e::es) X.env=(false,eval e X.env)::starEach es X.env:=by rfl)(hpl:(backTo pos (starEach es X.env)).any (·.1)=false:=by rfl):EM X C S false (.Call (.Name x p) (e::es) [] pos) (zg g ms):=rK F (hr.mono hj) hg D.g D.k D.b hx ha hdb he hpl
def gn(i:Nat)(hN:X.N.Nodup)(hi:X.N[i]?=some x:=by rfl)(hx:Loc X.env.scope x:=by exact .inl rfl)(hf:Rm X x:=by first|exact .inl rfl|exact .inr rfl|assumption):GM X C S (S.set i 0) (.Name x pos) (Sr i):=vy hN hi hx hf
def se(i:Nat)(hN:X.N.Nodup)(h:EM X C S false e m)(hi:X.N[i]?=some x:=by rfl)(hx:Loc X.env.scope x:=by exact .inl rfl)(hs:Ro X e x pos' pos:=by rfl)(hf:Rm X x:=by first|exact .inl rfl|exact .inr rfl|assumption):SM X C S (S.set i 0) Sb Sc (.Assign [.Name x pos'] e pos) (qb i m):=rX hN hi hx h hs hf
def ix(hr:vf k X.A)(h1:EM X C S w1 a m1)(h2:EM X C S w2 b m2)(hs:Ud b:=by intro _ _;rfl):EM X C S false (.Subscript a b pos) (Se Sg m1 m2):=Mq (qR hr) h1 h2 hs
def Td(i:Nat)(hN:X.N.Nodup)(h:HE X W E e m)(hi:X.N[i]?=some x:=by rfl)(hx:Loc X.env.scope x:=by exact .inl rfl)(hs:Ro X e x pos' pos:=by rfl)(hf:Rm X x:=by first|exact .inl rfl|exact .inr rfl|assumption):HS X W E (.Assign [.Name x pos'] e pos) (qF i m):=Ho hN hi hx h hs hf
def hp(h:EM X ⟨W,E,false⟩ (List.replicate 30 0) false e m):HE X W E e (hP bs m):=OA bs h (a0Y.mpr λ_ h=>by rw[a2t h];rfl)
def hf(h:FM X ⟨W,E,false⟩ (List.replicate 30 0) e m):HE X W E e (hF bs m):=OB bs h (a0Y.mpr λ_ h=>by rw[a2t h];rfl)
def Ϥ(h:∀kV dc pm an cd ct u0,bindArgs (Ι st x q kV dc pm an cd ct) ⟨[u0],[]⟩=pure (ps.zip [u0]):=by intros;rfl)(hp:ps.length=1:=by rfl):BN x q st ps:=λkV dc pm an cd ct us hl=>Mz (P:=λus=>bindArgs (Ι st x q kV dc pm an cd ct) ⟨us,[]⟩=pure (ps.zip us)) (hl.trans hp) λu0=>h kV dc pm an cd ct u0
def Tt(h:∀kV dc pm an cd ct u0 u1,bindArgs (Ι st x q kV dc pm an cd ct) ⟨[u0,u1],[]⟩=pure (ps.zip [u0,u1]):=by intros;rfl)(hp:ps.length=2:=by rfl):BN x q st ps:=λkV dc pm an cd ct us hl=>MB (P:=λus=>bindArgs (Ι st x q kV dc pm an cd ct) ⟨us,[]⟩=pure (ps.zip us)) (hl.trans hp) λu0 u1=>h kV dc pm an cd ct u0 u1
def Tw(h:∀kV dc pm an cd ct u0 u1 u2,bindArgs (Ι st x q kV dc pm an cd ct) ⟨[u0,u1,u2],[]⟩=pure (ps.zip [u0,u1,u2]):=by intros;rfl)(hp:ps.length=3:=by rfl):BN x q st ps:=λkV dc pm an cd ct us hl=>MC (P:=λus=>bindArgs (Ι st x q kV dc pm an cd ct) ⟨us,[]⟩=pure (ps.zip us)) (hl.trans hp) λu0 u1 u2=>h kV dc pm an cd ct u0 u1 u2
def bn4(h:∀kV dc pm an cd ct u0 u1 u2 u3,bindArgs (Ι st x q kV dc pm an cd ct) ⟨[u0,u1,u2,u3],[]⟩=pure (ps.zip [u0,u1,u2,u3]):=by intros;rfl)(hp:ps.length=4:=by rfl):BN x q st ps:=λkV dc pm an cd ct us hl=>MD (P:=λus=>bindArgs (Ι st x q kV dc pm an cd ct) ⟨us,[]⟩=pure (ps.zip us)) (hl.trans hp) λu0 u1 u2 u3=>h kV dc pm an cd ct u0 u1 u2 u3
def bn5(h:∀kV dc pm an cd ct u0 u1 u2 u3 u4,bindArgs (Ι st x q kV dc pm an cd ct) ⟨[u0,u1,u2,u3,u4],[]⟩=pure (ps.zip [u0,u1,u2,u3,u4]):=by intros;rfl)(hp:ps.length=5:=by rfl):BN x q st ps:=λkV dc pm an cd ct us hl=>MF (P:=λus=>bindArgs (Ι st x q kV dc pm an cd ct) ⟨us,[]⟩=pure (ps.zip us)) (hl.trans hp) λu0 u1 u2 u3 u4=>h kV dc pm an cd ct u0 u1 u2 u3 u4
structure SX where
 (QD kM jo v8 qB jR Zl jS jx kN QE Yn qk aj zi vv qK j9 Zm y6 Zn qi QF zS qj Zo z_ k7 zP jw yo qA zt v9 QG Zp qz zI QH W2 y4 jv Yo zr qa oz wI v_ yS yM jm jj yb ZO qP ao yf qL j_ y_ yc aq IT:Addr)
 (ck cn VH ar Zq W3 Zr Jx QI wL Jy Zs VI k8 YE W4 Jz QJ Zt wa QK Zu W5 YF QL W6 W7 W8 Yp QM VJ IU nq wb JA Yq au aw VL gG C2 ax gH cq ay az JB aA IV:Pl)
 (Fn gI bB gJ IW Bo IX Fo Bp Fp dZ la:Tok)
abbrev NO(K:Pq)(mg:OQ)(a:SX):Prop:=
 (mg "LIMIT"=some (.int 1000000000 a.Fn))/\
 (mg "NAME_SIGNS"=some (.str "abcdefghijklmnopqrstuvwxyz0123456789" a.gI))/\
 (mg "LONGEST_NAME"=some (.int 12 a.bB))/\
 (mg "MOST_TRIPS"=some (.int 40 a.gJ))/\
 (mg "NAME"=some (.int 0 a.IW))/\
 (mg "ORIGIN"=some (.int 1 a.Bo))/\
 (mg "GOAL"=some (.int 2 a.IX))/\
 (mg "START"=some (.int 3 a.Fo))
abbrev NP(K:Pq)(mg:OQ)(a:SX):Prop:=
 (mg "FINISH"=some (.int 4 a.Bp))/\
 (mg "SEATS"=some (.int 5 a.Fp))/\
 (mg "MOST_PLACES"=some (.int 12 a.dZ))/\
 (mg "MOST_WAYS"=some (.int 60 a.la))/\
 (mg "FleetError"=some (.ref a.QD))/\
 (mg "BadName"=some (.ref a.kM))/\
 (mg "BadNumber"=some (.ref a.jo))/\
 (mg "TooMany"=some (.ref a.v8))
abbrev Txt2(K:Pq)(mg:OQ)(a:SX):Prop:=
 (mg "Twice"=some (.ref a.qB))/\
 (mg "NoPlace"=some (.ref a.jR))/\
 (mg "NoWay"=some (.ref a.Zl))/\
 (mg "NoTrip"=some (.ref a.jS))/\
 (mg "Backward"=some (.ref a.jx))/\
 (mg "TooFast"=some (.ref a.kN))/\
 (mg "Table"=some (.ref a.QE))/\
 (mg "Roads"=some (.ref a.Yn))
abbrev NQ(K:Pq)(mg:OQ)(a:SX):Prop:=
 (mg "Unlinked"=some (.ref a.qk))/\
 (mg "TooLong"=some (.ref a.aj))/\
 (mg "bool"=none)/\
 (mg "dict"=none)/\
 (mg "int"=none)/\
 (mg "isinstance"=none)/\
 (mg "len"=none)/\
 (mg "list"=none)
abbrev NR(K:Pq)(mg:OQ)(a:SX):Prop:=
 (mg "max"=none)/\
 (mg "range"=none)/\
 (mg "sorted"=none)/\
 (mg "str"=none)/\
 (mg "tuple"=none)/\
 (mg "zip"=none)/\
 (Def K mg "_law_draw" V_ ["_law_script","_law_k","_law_many"] a.zi a.ck)/\
 (Def K mg "_law_ways" Wa ["_law_script","_law_places","_law_scale","_law_ring"] a.vv a.cn)
abbrev NS(K:Pq)(mg:OQ)(a:SX):Prop:=
 (Def K mg "_law_lengths" Z6 ["_law_places","_law_ways_here"] a.qK a.VH)/\
 (Def K mg "_law_moved" Ke ["_law_script","_law_trips_here","_law_scale"] a.j9 a.ar)/\
 (SA K "__init__" "TooMany.__init__" wX a.Zm a.Zq)/\
 (Binds K a.Zq ["self","most"] [])/\
 (Def K mg "check_most" Qa ["things","most"] a.y6 a.W3)/\
 (SA K "__init__" "BadName.__init__" wY a.Zn a.Zr)/\
 (Binds K a.Zr ["self","name"] [])/\
 (Def K mg "checked_name" wZ ["name"] a.qi a.Jx)
abbrev NT(K:Pq)(mg:OQ)(a:SX):Prop:=
 (SA K "__init__" "Twice.__init__" Qb a.QF a.QI)/\
 (Binds K a.QI ["self","name"] [])/\
 (Def K mg "checked_new_name" jI ["name","had"] a.zS a.wL)/\
 (Def K mg "check_places" w4 ["places"] a.qj a.Jy)/\
 (SA K "__init__" "NoPlace.__init__" w6 a.Zo a.Zs)/\
 (Binds K a.Zs ["self","name"] [])/\
 (Def K mg "check_place" Z7 ["name","places"] a.z_ a.VI)/\
 (SA K "__init__" "BadNumber.__init__" kW a.k7 a.k8)
abbrev NU(K:Pq)(mg:OQ)(a:SX):Prop:=
 (Binds K a.k8 ["self","value"] [])/\
 (Def K mg "checked_number" kX ["value","least"] a.zP a.YE)/\
 (Def K mg "check_ways" Qc ["places","ways"] a.jw a.W4)/\
 (Def K mg "heights_from" w8 ["origin","ways"] a.yo a.Jz)/\
 (SA K "__init__" "Roads.__init__" Qd a.qA a.QJ)/\
 (Binds K a.QJ ["self","places","ways"] [])/\
 (SA K "length" "Roads.length" w_ a.zt a.Zt)/\
 (Binds K a.Zt ["self","origin","goal"] [])
abbrev NV(K:Pq)(mg:OQ)(a:SX):Prop:=
 (SA K "__init__" "Backward.__init__" vC a.v9 a.wa)/\
 (Binds K a.wa ["self","name"] [])/\
 (SA K "__init__" "NoWay.__init__" Qe a.QG a.QK)/\
 (Binds K a.QK ["self","origin","goal"] [])/\
 (SA K "__init__" "TooFast.__init__" Za a.Zp a.Zu)/\
 (Binds K a.Zu ["self","name"] [])/\
 (Def K mg "check_trip" Qf ["roads","trip","had"] a.qz a.W5)/\
 (Def K mg "place_in_order" kY ["trip"] a.zI a.YF)
abbrev NW(K:Pq)(mg:OQ)(a:SX):Prop:=
 (SA K "__init__" "Table.__init__" Qg a.QH a.QL)/\
 (Binds K a.QL ["self","roads","trips"] [])/\
 (Def K mg "_law_blocks" Qh ["_law_script","_law_trips_here"] a.W2 a.W6)/\
 (Def K mg "_law_second" Qi ["_law_blocks_here"] a.y4 a.W7)/\
 (Def K mg "check_once" Qj ["names"] a.jv a.W8)/\
 (SA K "__init__" "NoTrip.__init__" Z8 a.Yo a.Yp)/\
 (Binds K a.Yp ["self","name"] [])/\
 (SA K "trip" "Table.trip" Qk a.zr a.QM)
abbrev HN(K:Pq)(mg:OQ)(a:SX):Prop:=
 (Binds K a.QM ["self","name"] [])/\
 (Def K mg "check_trips" Z9 ["table","names"] a.qa a.VJ)/\
 (Def K mg "gap" EA ["table","one","other"] a.oz a.IU)/\
 (Def K mg "linked" dj ["table","one","other"] a.wI a.nq)/\
 (SA K "__init__" "Unlinked.__init__" vD a.v_ a.wb)/\
 (Binds K a.wb ["self","first","second"] [])/\
 (Def K mg "check_linked" Zb ["table","names"] a.yS a.JA)/\
 (SA K "names" "Roads.names" Z_ a.yM a.Yq)
abbrev HP(K:Pq)(mg:OQ)(a:SX):Prop:=
 (Binds K a.Yq ["self"] [])/\
 (Def K mg "check_row" Kf ["table","home","names"] a.jm a.au)/\
 (Def K mg "check_way" Kg ["roads","origin","goal"] a.jj a.aw)/\
 (Def K mg "check_block" Ya ["table","home","names"] a.yb a.VL)/\
 (Def K mg "legs_of" UB ["table","home","names"] a.ZO a.gG)/\
 (Def K mg "legs" tH ["table","home","blocks"] a.qP a.C2)/\
 (Def K mg "_law_asked" Kh ["_law_table","_law_home","_law_blocks_here"] a.ao a.ax)/\
 (Def K mg "_law_due" UC ["_law_far","_law_home","_law_blocks_here"] a.yf a.gH)
abbrev HQ(K:Pq)(mg:OQ)(a:SX):Prop:=
 (Def K mg "_law_name" Wb ["_law_script","_law_k","_law_number"] a.qL a.cq)/\
 (Def K mg "_law_trips" Ki ["_law_script","_law_places","_law_far","_law_scale","_law_many"] a.j_ a.ay)/\
 (Def K mg "_law_alike" Kj ["_law_made","_law_due_here"] a.y_ a.az)/\
 (Def K mg "block_length" Zc ["table","home","names"] a.yc a.JB)/\
 (Def K mg "_law_taken" Kk ["_law_roads","_law_table","_law_home","_law_blocks_here","_law_made"] a.aq a.aA)/\
 (Def K mg "law" EB ["_law_script"] a.IT a.IV)/\
 (YY K a.kM)/\
 (SY K a.kM a.Zn)
abbrev HU(K:Pq)(mg:OQ)(a:SX):Prop:=
 (W.takerIn K a.kM "name"=some none)/\
 (W.findIn K (.ref a.kM) "name"=some none)/\
 (YY K a.jo)/\
 (SY K a.jo a.k7)/\
 (W.takerIn K a.jo "value"=some none)/\
 (YY K a.v8)/\
 (SY K a.v8 a.Zm)/\
 (W.takerIn K a.v8 "most"=some none)
abbrev HW(K:Pq)(mg:OQ)(a:SX):Prop:=
 (YY K a.qB)/\
 (XIs K a.qB)/\
 (SY K a.qB a.QF)/\
 (Catch K a.qB a.qB true)/\
 (Catch K a.qB a.jS false)/\
 (W.takerIn K a.qB "name"=some none)/\
 (W.findIn K (.ref a.qB) "name"=some none)/\
 (YY K a.jR)
abbrev HY(K:Pq)(mg:OQ)(a:SX):Prop:=
 (SY K a.jR a.Zo)/\
 (W.takerIn K a.jR "name"=some none)/\
 (W.findIn K (.ref a.jR) "name"=some none)/\
 (YY K a.Zl)/\
 (SY K a.Zl a.QG)/\
 (W.takerIn K a.Zl "origin"=some none)/\
 (W.takerIn K a.Zl "goal"=some none)/\
 (YY K a.jS)
abbrev HZ(K:Pq)(mg:OQ)(a:SX):Prop:=
 (SY K a.jS a.Yo)/\
 (Catch K a.jS a.jS true)/\
 (W.takerIn K a.jS "name"=some none)/\
 (W.findIn K (.ref a.jS) "name"=some none)/\
 (YY K a.jx)/\
 (SY K a.jx a.v9)/\
 (W.takerIn K a.jx "name"=some none)/\
 (W.findIn K (.ref a.jx) "name"=some none)
abbrev H_(K:Pq)(mg:OQ)(a:SX):Prop:=
 (YY K a.kN)/\
 (SY K a.kN a.Zp)/\
 (W.takerIn K a.kN "name"=some none)/\
 (W.findIn K (.ref a.kN) "name"=some none)/\
 (YY K a.qk)/\
 (SY K a.qk a.v_)/\
 (W.takerIn K a.qk "first"=some none)/\
 (W.takerIn K a.qk "second"=some none)
abbrev Ia(K:Pq)(mg:OQ)(a:SX):Prop:=
 (TL K a.QE)/\
 (ve K a.QE "by_name")/\
 (ve K a.QE "order")/\
 (ve K a.QE "roads")/\
 (Meth K a.QE "trip" a.zr)/\
 (Mk K a.QE a.QH)/\
 (TL K a.Yn)/\
 (ve K a.Yn "lengths")
abbrev Ib(K:Pq)(mg:OQ)(a:SX):Prop:=
 (ve K a.Yn "places")/\
 (ve K a.Yn "ways")/\
 (Meth K a.Yn "length" a.zt)/\
 (Meth K a.Yn "names" a.yM)/\
 (Mk K a.Yn a.qA)/\
 (W.kitOne K (.type "list") (.type "list")=some true)/\
 (W.kitOne K (.type "tuple") (.type "tuple")=some true)/\
 (W.kitOne K (.type "bool") (.type "bool")=some true)
abbrev Ic(K:Pq)(mg:OQ)(a:SX):Prop:=
 (W.kitOne K (.type "int") (.type "bool")=some false)/\
 (W.kitOne K (.type "int") (.type "int")=some true)/\
 (W.kitOne K (.type "bool") (.type "int")=some true)/\
 (W.kitOne K (.type "str") (.type "str")=some true)/\
 (Cp K a.qB a.aj)/\
 (Cp K a.qB a.qk)/\
 (Cp K a.qB a.Zl)/\
 (Cp K a.qB a.jR)
abbrev Ie(K:Pq)(mg:OQ)(a:SX):Prop:=
 (NM K a.qB a.QD)
abbrev Txt(K:Pq)(mg:OQ)(a:SX):Prop:=NO K mg a/\NP K mg a/\Txt2 K mg a/\NQ K mg a/\NR K mg a/\NS K mg a/\NT K mg a/\NU K mg a/\NV K mg a/\NW K mg a/\HN K mg a/\HP K mg a/\HQ K mg a/\HU K mg a/\HW K mg a/\HY K mg a/\HZ K mg a/\H_ K mg a/\Ia K mg a/\Ib K mg a/\Ic K mg a/\Ie K mg a
section
variable {K:Pq}{mg:OQ}{a:SX}(T:Txt K mg a)
include T
def Txt.cc0:NO K mg a:=T.1
def Txt.iN:=T.cc0.1
def Txt.Qn:=T.cc0.2.1
def Txt.Zd:=T.cc0.2.2.1
def Txt.Qo:=T.cc0.2.2.2.1
def Txt.K_:=T.cc0.2.2.2.2.1
def Txt.wA:=T.cc0.2.2.2.2.2.1
def Txt.Jh:=T.cc0.2.2.2.2.2.2.1
def Txt.Yc:=T.cc0.2.2.2.2.2.2.2
def Txt.cc1:NP K mg a:=T.2.1
def Txt.vn:=T.cc1.1
def Txt.dv:=T.cc1.2.1
def Txt.Yd:=T.cc1.2.2.1
def Txt.Kp:=T.cc1.2.2.2.1
def Txt.Qp:=T.cc1.2.2.2.2.1
def Txt.Va:=T.cc1.2.2.2.2.2.1
def Txt.Kq:=T.cc1.2.2.2.2.2.2.1
def Txt.UJ:=T.cc1.2.2.2.2.2.2.2
def Txt.cc2:Txt2 K mg a:=T.2.2.1
def Txt.UK:=T.cc2.1
def Txt.Vb:=T.cc2.2.1
def Txt.UL:=T.cc2.2.2.1
def Txt.XY:=T.cc2.2.2.2.1
def Txt.Wf:=T.cc2.2.2.2.2.1
def Txt.UM:=T.cc2.2.2.2.2.2.1
def Txt.dw:=T.cc2.2.2.2.2.2.2.1
def Txt.iO:=T.cc2.2.2.2.2.2.2.2
def Txt.cc3:NQ K mg a:=T.2.2.2.1
def Txt.Q9:=T.cc3.1
def Txt.UN:=T.cc3.2.1
def Txt.tI:=T.cc3.2.2.1
def Txt.tJ:=T.cc3.2.2.2.1
def Txt.AK:=T.cc3.2.2.2.2.1
def Txt.z6:=T.cc3.2.2.2.2.2.1
def Txt.j5:=T.cc3.2.2.2.2.2.2.1
def Txt.Qq:=T.cc3.2.2.2.2.2.2.2
def Txt.cc4:NR K mg a:=T.2.2.2.2.1
def Txt.EC:=T.cc4.1
def Txt.vG:=T.cc4.2.1
def Txt.dy:=T.cc4.2.2.1
def Txt.ED:=T.cc4.2.2.2.1
def Txt.iP:=T.cc4.2.2.2.2.1
def Txt.EE:=T.cc4.2.2.2.2.2.1
def Txt.zx:=T.cc4.2.2.2.2.2.2.1
def Txt.vt:=T.cc4.2.2.2.2.2.2.2
def Txt.cc5:NS K mg a:=T.2.2.2.2.2.1
def Txt.qJ:=T.cc5.1
def Txt.Ye:=T.cc5.2.1
def Txt.aX:=T.cc5.2.2.1
def Txt.aY:=T.cc5.2.2.2.1
def Txt.jt:=T.cc5.2.2.2.2.1
def Txt.aZ:=T.cc5.2.2.2.2.2.1
def Txt.Ji:=T.cc5.2.2.2.2.2.2.1
def Txt.kr:=T.cc5.2.2.2.2.2.2.2
def Txt.cc6:NT K mg a:=T.2.2.2.2.2.2.1
def Txt.fS:=T.cc6.1
def Txt.WG:=T.cc6.2.1
def Txt.yJ:=T.cc6.2.2.1
def Txt.ky:=T.cc6.2.2.2.1
def Txt.a8:=T.cc6.2.2.2.2.1
def Txt.a9:=T.cc6.2.2.2.2.2.1
def Txt.yK:=T.cc6.2.2.2.2.2.2.1
def Txt.Xn:=T.cc6.2.2.2.2.2.2.2
def Txt.cc7:NU K mg a:=T.2.2.2.2.2.2.2.1
def Txt.Xo:=T.cc7.1
def Txt.yn:=T.cc7.2.1
def Txt.wB:=T.cc7.2.2.1
def Txt.qh:=T.cc7.2.2.2.1
def Txt.fT:=T.cc7.2.2.2.2.1
def Txt.fU:=T.cc7.2.2.2.2.2.1
def Txt.a_:=T.cc7.2.2.2.2.2.2.1
def Txt.yR:=T.cc7.2.2.2.2.2.2.2
def Txt.cc8:NV K mg a:=T.2.2.2.2.2.2.2.2.1
def Txt.UO:=T.cc8.1
def Txt.UP:=T.cc8.2.1
def Txt.fV:=T.cc8.2.2.1
def Txt.WH:=T.cc8.2.2.2.1
def Txt.ba:=T.cc8.2.2.2.2.1
def Txt.bb:=T.cc8.2.2.2.2.2.1
def Txt.wC:=T.cc8.2.2.2.2.2.2.1
def Txt.qe:=T.cc8.2.2.2.2.2.2.2
def Txt.cc9:NW K mg a:=T.2.2.2.2.2.2.2.2.2.1
def Txt.fW:=T.cc9.1
def Txt.WI:=T.cc9.2.1
def Txt.ju:=T.cc9.2.2.1
def Txt.wD:=T.cc9.2.2.2.1
def Txt.wF:=T.cc9.2.2.2.2.1
def Txt.dz:=T.cc9.2.2.2.2.2.1
def Txt.dA:=T.cc9.2.2.2.2.2.2.1
def Txt.fX:=T.cc9.2.2.2.2.2.2.2
def Txt.Cq:HN K mg a:=T.2.2.2.2.2.2.2.2.2.2.1
def Txt.y3:=T.Cq.1
def Txt.vo:=T.Cq.2.1
def Txt.AL:=T.Cq.2.2.1
def Txt.Vc:=T.Cq.2.2.2.1
def Txt.UQ:=T.Cq.2.2.2.2.1
def Txt.UR:=T.Cq.2.2.2.2.2.1
def Txt.kA:=T.Cq.2.2.2.2.2.2.1
def Txt.dB:=T.Cq.2.2.2.2.2.2.2
def Txt.Cr:HP K mg a:=T.2.2.2.2.2.2.2.2.2.2.2.1
def Txt.dC:=T.Cr.1
def Txt.Yf:=T.Cr.2.1
def Txt.vH:=T.Cr.2.2.1
def Txt.jJ:=T.Cr.2.2.2.1
def Txt.ZM:=T.Cr.2.2.2.2.1
def Txt.Yt:=T.Cr.2.2.2.2.2.1
def Txt.j6:=T.Cr.2.2.2.2.2.2.1
def Txt.qf:=T.Cr.2.2.2.2.2.2.2
def Txt.Cs:HQ K mg a:=T.2.2.2.2.2.2.2.2.2.2.2.2.1
def Txt.ZN:=T.Cs.1
def Txt.j7:=T.Cs.2.1
def Txt.Yg:=T.Cs.2.2.1
def Txt.kB:=T.Cs.2.2.2.1
def Txt.j8:=T.Cs.2.2.2.2.1
def Txt.tK:=T.Cs.2.2.2.2.2.1
def Txt.Qr:=T.Cs.2.2.2.2.2.2.1
def Txt.fY:=T.Cs.2.2.2.2.2.2.2
def Txt.Ct:HU K mg a:=T.2.2.2.2.2.2.2.2.2.2.2.2.2.1
def Txt.US:=T.Ct.1
def Txt.Qs:=T.Ct.2.1
def Txt.UT:=T.Ct.2.2.1
def Txt.iQ:=T.Ct.2.2.2.1
def Txt.Vd:=T.Ct.2.2.2.2.1
def Txt.fZ:=T.Ct.2.2.2.2.2.1
def Txt.tL:=T.Ct.2.2.2.2.2.2.1
def Txt.UU:=T.Ct.2.2.2.2.2.2.2
def Txt.Cu:HW K mg a:=T.2.2.2.2.2.2.2.2.2.2.2.2.2.2.1
def Txt.Ze:=T.Cu.1
def Txt.Ve:=T.Cu.2.1
def Txt.tM:=T.Cu.2.2.1
def Txt.bc:=T.Cu.2.2.2.1
def Txt.UW:=T.Cu.2.2.2.2.1
def Txt.dD:=T.Cu.2.2.2.2.2.1
def Txt.Vf:=T.Cu.2.2.2.2.2.2.1
def Txt.Vg:=T.Cu.2.2.2.2.2.2.2
def Txt.Cv:HY K mg a:=T.2.2.2.2.2.2.2.2.2.2.2.2.2.2.2.1
def Txt.tN:=T.Cv.1
def Txt.UX:=T.Cv.2.1
def Txt.Qt:=T.Cv.2.2.1
def Txt.dE:=T.Cv.2.2.2.1
def Txt.tO:=T.Cv.2.2.2.2.1
def Txt.UY:=T.Cv.2.2.2.2.2.1
def Txt.dF:=T.Cv.2.2.2.2.2.2.1
def Txt.XZ:=T.Cv.2.2.2.2.2.2.2
def Txt.Cw:HZ K mg a:=T.2.2.2.2.2.2.2.2.2.2.2.2.2.2.2.2.1
def Txt.AN:=T.Cw.1
def Txt.Xp:=T.Cw.2.1
def Txt.bf:=T.Cw.2.2.1
def Txt.Jj:=T.Cw.2.2.2.1
def Txt.Q_:=T.Cw.2.2.2.2.1
def Txt.ow:=T.Cw.2.2.2.2.2.1
def Txt.Xq:=T.Cw.2.2.2.2.2.2.1
def Txt.Yu:=T.Cw.2.2.2.2.2.2.2
def Txt.Cy:H_ K mg a:=T.2.2.2.2.2.2.2.2.2.2.2.2.2.2.2.2.2.1
def Txt.Vh:=T.Cy.1
def Txt.tR:=T.Cy.2.1
def Txt.UZ:=T.Cy.2.2.1
def Txt.Qu:=T.Cy.2.2.2.1
def Txt.Wg:=T.Cy.2.2.2.2.1
def Txt.oy:=T.Cy.2.2.2.2.2.1
def Txt.Wh:=T.Cy.2.2.2.2.2.2.1
def Txt.Vi:=T.Cy.2.2.2.2.2.2.2
def Txt.Cz:Ia K mg a:=T.2.2.2.2.2.2.2.2.2.2.2.2.2.2.2.2.2.2.1
def Txt.z4:=T.Cz.1
def Txt.qg:=T.Cz.2.1
def Txt.bg:=T.Cz.2.2.1
def Txt.z7:=T.Cz.2.2.2.1
def Txt.yL:=T.Cz.2.2.2.2.1
def Txt.mJ:=T.Cz.2.2.2.2.2.1
def Txt.y9:=T.Cz.2.2.2.2.2.2.1
def Txt.Yv:=T.Cz.2.2.2.2.2.2.2
def Txt.CA:Ib K mg a:=T.2.2.2.2.2.2.2.2.2.2.2.2.2.2.2.2.2.2.2.1
def Txt.jK:=T.CA.1
def Txt.dG:=T.CA.2.1
def Txt.yB:=T.CA.2.2.1
def Txt.bh:=T.CA.2.2.2.1
def Txt.AO:=T.CA.2.2.2.2.1
def Txt.Qv:=T.CA.2.2.2.2.2.1
def Txt.Zf:=T.CA.2.2.2.2.2.2.1
def Txt.Qw:=T.CA.2.2.2.2.2.2.2
def Txt.CB:Ic K mg a:=T.2.2.2.2.2.2.2.2.2.2.2.2.2.2.2.2.2.2.2.2.1
def Txt.Kr:=T.CB.1
def Txt.Wi:=T.CB.2.1
def Txt.Ks:=T.CB.2.2.1
def Txt.Wj:=T.CB.2.2.2.1
def Txt.vI:=T.CB.2.2.2.2.1
def Txt.kZ:=T.CB.2.2.2.2.2.1
def Txt.Yh:=T.CB.2.2.2.2.2.2.1
def Txt.vJ:=T.CB.2.2.2.2.2.2.2
def Txt.OG:Ie K mg a:=T.2.2.2.2.2.2.2.2.2.2.2.2.2.2.2.2.2.2.2.2.2
def Txt.jL:=T.OG
end
def cls(a:SX):Nat->Addr
 |0=>a.QD
 |1=>a.kM
 |2=>a.jo
 |3=>a.v8
 |4=>a.qB
 |5=>a.jR
 |6=>a.Zl
 |7=>a.jS
 |8=>a.jx
 |9=>a.kN
 |10=>a.QE
 |11=>a.Yn
 |12=>a.qk
 |13=>a.aj
 |_=>0
abbrev WW(K:Pq)(a:SX):RC:=⟨K,cls a⟩
abbrev b5:MS:=
  (zX (qb 3 (mC (.i 5))) (zX (Sy (zW (Se TU (zg jC (zb (zc 0) zm)) (mC (.i 0)))) (qb 3 (Se KP (Se Sg (zc 0) (Se KP (zc 1) (zg jC (zb (zc 0) zm)))) (mC (.i 1000000007)))) yH) (Z0 (Se KP (Se nY (Se KP (Se qS (Se zU (Se zU (zc 3) (Se qS (mC (.i 37)) (zc 1))) (mC (.i 1))) (Se zU (mC (.i 48271)) (Se qS (zc 1) (zc 1)))) (mC (.i 2147483647))) (mC (.i 7))) (zc 2)))))
def zi:List PV->Out PV:=ZH false 4 b5
abbrev vL:MG:=
  (Sr 3)
abbrev vM:MS:=
  (fH 2 (zb (zc 3) (zb (zc 3) zm)) (mC (.i 0)))
abbrev vN:MG:=
  (ϣ 3 (qr (Sr 4) (qr (Sr 5) (qr (Sr 6) iD))))
abbrev vO:MS:=
  (Sy (Te (zW (ot true (zb (zc 4) (zb (zc 5) zm)) (zc 2))) (zW (Se ζ (zc 6) (mB (zc 2) (zb (zc 4) (zb (zc 5) zm)))))) (fH 2 (zb (zc 4) (zb (zc 5) zm)) (zc 6)) yH)
abbrev vP:MG:=
  (Sr 5)
abbrev jM:MS:=
  (Sy (BU (zW (ot false (zb (zc 4) (zb (zc 7) zm)) (zc 2))) (zW (ot false (zb (zc 7) (zb (zc 5) zm)) (zc 2)))) (zX (qb 8 (Se zU (mB (zc 2) (zb (zc 4) (zb (zc 7) zm))) (mB (zc 2) (zb (zc 7) (zb (zc 5) zm))))) (Sy (Te (zW (ot true (zb (zc 4) (zb (zc 5) zm)) (zc 2))) (zW (Se ζ (zc 8) (mB (zc 2) (zb (zc 4) (zb (zc 5) zm)))))) (fH 2 (zb (zc 4) (zb (zc 5) zm)) (zc 8)) yH)) yH)
abbrev vQ:MG:=
  (Sr 4)
abbrev vR:MS:=
  (KC (zN (zc 0)) vP jM)
abbrev vT:MG:=
  (Sr 7)
abbrev vU:MS:=
  (KC (zN (zc 0)) vQ vR)
abbrev Vj:MS:=
  (zX (qb 2 Ce) (zX (KC (zN (zc 0)) vL vM) (zX (KC (zN (zc 1)) vN vO) (zX (KC (zN (zc 0)) vT vU) (Z0 (zc 2))))))
def qK:List PV->Out PV:=ZH true 9 Vj
abbrev Yw:MG:=
  (ϣ 3 (qr (Sr 4) (qr (Sr 5) (qr (Sr 6) iD))))
abbrev qX:MS:=
  (Sy (zW (Se (TN false) (zc 4) (zc 2))) (zX (qb 7 (Se zU (Se Sg (zc 2) (zc 4)) (zc 6))) (Sy (Te (zW (Se (TN true) (zc 5) (zc 2))) (zW (Se ζ (zc 7) (Se Sg (zc 2) (zc 5))))) (zX (B2 2 (zc 5) (zc 7)) (qb 3 (mC (.b true)))) yH)) yH)
abbrev qY:MT:=
  (zW (zc 3))
abbrev yG:MS:=
  (zX (qb 3 (mC (.b false))) (KC (zN (zc 1)) Yw qX))
abbrev Jk:MS:=
  (zX (qb 2 (mD1 (zc 0) (mC (.i 0)))) (zX (qb 3 (mC (.b true))) (zX (bS qY yG) (Z0 (zc 2)))))
def yo:List PV->Out PV:=ZH true 8 Jk
abbrev Yx:MS:=
  (Z0 (V5 (zb (Se Sg (zc 0) (mC (.i 3))) (zb (Se Sg (zc 0) (mC (.i 4))) (zb (Se Sg (zc 0) (mC (.i 0))) zm)))))
def zI:List PV->Out PV:=ZH false 1 Yx
abbrev qT:MG:=
  (Sr 3)
abbrev z8:MS:=
  (zX (Sy (zW (Se (TN false) (Se Sg (zc 3) (mC (.i 0))) (zc 1))) (Z0 (V5 (zb (mC (.s "twice")) (zb (Se Sg (zc 3) (mC (.i 0))) zm)))) yH) (rY 1 (Se Sg (zc 3) (mC (.i 0)))))
abbrev qU:MG:=
  (Sr 2)
abbrev z9:MS:=
  (KC (zN (zc 2)) qT z8)
abbrev WJ:MS:=
  (zX (qb 1 (KA zm)) (zX (KC (zN (zc 0)) qU z9) (Z0 (V5 (zb (mC (.s "right")) zm)))))
def y4:List PV->Out PV:=ZH false 4 WJ
abbrev Vk:MS:=
  (Z0 (zg wu (zb (Y9 [11] "places" (zc 0)) zm)))
def yM:List PV->Out PV:=ZH true 1 Vk
abbrev Kt:MG:=
  (Sr 6)
abbrev Yi:MS:=
  (zX (GZ (ϣ 6 (qr (Sr 7) (qr (Sr 8) (qr (Sr 9) (qr (Sr 10) (qr (Sr 11) (qr (Sr 12) iD))))))) (Se Sg (zc 4) (zc 6))) (zX (Sy (zW (Se (qE false) (zc 6) (Se XJ (zg jC (zb (zc 4) zm)) (mC (.i 1))))) (zX (qb 11 (Se zU (zc 11) (mB (zc 0) (zb (zc 9) (zb (zc 1) zm))))) (qb 9 (zc 1))) yH) (zX (rY 3 (V5 (zb (zc 7) (zb (zc 5) (zb (zc 9) (zb (Se XJ (zc 10) (mB (zc 0) (zb (zc 5) (zb (zc 8) zm)))) (zb (zc 11) (zb (zc 12) zm)))))))) (qb 5 (Se Sg (Se Sg (zc 4) (zc 6)) (mC (.i 2)))))))
abbrev Ku:MG:=
  (Sr 4)
abbrev Kv:MS:=
  (zX (qb 5 (zc 1)) (KC (YZ (zb (zg jC (zb (zc 4) zm)) zm)) Kt Yi))
abbrev f6:MS:=
  (zX (qb 3 (KA zm)) (zX (KC (zN (zc 2)) Ku Kv) (Z0 (zc 3))))
def yf:List PV->Out PV:=ZH true 13 f6
abbrev Vl:MG:=
  (Sr 3)
abbrev Vm:MS:=
  (Sy (Te (iu (zW (To (rV [(.str,true)]) (Se Sg (zc 2) (zc 3))))) (Te (iu (zW (To (rV [(.int,true),(.bool,true)]) (Se Sg (zc 2) (Se zU (mC (.i 3)) (zc 3)))))) (zW (To (rV [(.bool,true),(.int,false)]) (Se Sg (zc 2) (Se zU (mC (.i 3)) (zc 3))))))) (Z0 (mC (.b false))) yH)
abbrev Vn:MG:=
  (Sr 2)
abbrev Vo:MS:=
  (zX (Sy (Te (iu (zW (To (rV [(.tuple,true)]) (zc 2)))) (zW (Se (qE true) (zg jC (zb (zc 2) zm)) (mC (.i 6))))) (Z0 (mC (.b false))) yH) (KC (YZ (zb (mC (.i 3)) zm)) Vl Vm))
abbrev U0:MS:=
  (zX (Sy (Te (iu (zW (To (rV [(.list,true)]) (zc 0)))) (zW (Se (qE true) (zg jC (zb (zc 0) zm)) (zg jC (zb (zc 1) zm))))) (Z0 (mC (.b false))) yH) (zX (KC (zN (zc 0)) Vn Vo) (Z0 (Se (qE false) (zc 0) (zc 1)))))
def y_:List PV->Out PV:=ZH false 4 U0
abbrev WK:MG:=
  (Sr 6)
abbrev WL:MS:=
  (Sy (zW (zc 3)) (rY 5 (V5 (zb (Se Sg (zc 1) (zc 6)) (zb (Se Sg (zc 1) (Se KP (Se zU (zc 6) (mC (.i 1))) (zc 4))) (zb (Se zU (mC (.i 1)) (zg zi (zb (zc 0) (zb (Se zU (mC (.i 10)) (zc 6)) (zb (Se qS (mC (.i 30)) (zc 2)) zm))))) zm))))) yH)
abbrev WM:MG:=
  (Sr 6)
abbrev WN:MS:=
  (zX (qb 7 (zg zi (zb (zc 0) (zb (Se zU (mC (.i 20)) (zc 6)) (zb (Se qS (zc 4) (zc 4)) zm))))) (rY 5 (V5 (zb (Se Sg (zc 1) (Se KP (zc 7) (zc 4))) (zb (Se Sg (zc 1) (Se nY (zc 7) (zc 4))) (zb (Se zU (mC (.i 1)) (zg zi (zb (zc 0) (zb (Se zU (mC (.i 30)) (zc 6)) (zb (Se qS (mC (.i 30)) (zc 2)) zm))))) zm))))))
abbrev b6:MS:=
  (zX (qb 4 (zg jC (zb (zc 1) zm))) (zX (qb 5 (KA zm)) (zX (KC (YZ (zb (zc 4) zm)) WK WL) (zX (KC (YZ (zb (zg zi (zb (zc 0) (zb (mC (.i 4)) (zb (mC (.i 9)) zm)))) zm)) WM WN) (Z0 (zc 5))))))
def vv:List PV->Out PV:=ZH true 8 b6
abbrev Jl:MG:=
  (Sr 0)
abbrev Jm:MT:=
  oV
abbrev Jo:ME:=
  (Se Ey (Ϡ Lo (zc 0) oU (V7 (mC (.i 3)))) (V5 (zb (Se zU (Se Sg (zc 0) (mC (.i 3))) (zc 1)) (zb (Se zU (Se Sg (zc 0) (mC (.i 4))) (zc 1)) (zb (Se Sg (zc 0) (mC (.i 5))) zm)))))
abbrev U1:MS:=
  (zX (qb 3 (zg zi (zb (zc 0) (zb (mC (.i 137)) (zb (mC (.i 4)) zm))))) (zX (Sy (Te (zW (Se (qE false) (zc 1) (KA zm))) (zW (Se TU (zc 3) (mC (.i 1))))) (Z0 (zc 1)) yH) (zX (qb 4 (Se XJ (zg zi (zb (zc 0) (zb (mC (.i 138)) (zb (Se qS (mC (.i 30)) (zc 2)) zm)))) (Se Sg (Se Sg (zc 1) (mC (.i 0))) (mC (.i 3))))) (zX (Sy (zW (Se (qE false) (zc 3) (mC (.i 1)))) (qb 4 (Se XJ (Se XJ (Se nZ (mC (.i 10)) (mC (.i 9))) (zg zi (zb (zc 0) (zb (mC (.i 138)) (zb (mC (.i 3)) zm))))) (Se Sg (Se Sg (zc 1) (To xN (mC (.i 1)))) (mC (.i 4))))) yH) (Z0 (SO (zN (zc 1)) [none,some 4] Jl Jm Jo))))))
def j9:List PV->Out PV:=ZH false 5 U1
abbrev vV:Tz:=
  (χ 3)
abbrev qy:Su:=
  (yF (qF 4 (hP RY (zg zi (zb (zc 0) (zb (Se zU (mC (.i 110)) (zc 3)) (zb (mC (.i 4)) zm)))))) (TX (Tf Rr (zW (Se ζ (zc 4) (mC (.i 3))))) (Hq (hIx (qo 2) (qo 4)) (hP RT (Se Sg (zc 1) (zc 3)))) kK))
abbrev vW:Tz:=
  (χ 3)
abbrev jN:Su:=
  (yF (qF 5 (hP RO (Se Sg (zc 1) (zg zi (zb (zc 0) (zb (Se zU (mC (.i 131)) (zc 3)) (zb (zg jC (zb (zc 1) zm)) zm))))))) (Es (qo 2) (zL (hP RU (zg zi (zb (zc 0) (zb (Se zU (mC (.i 133)) (zc 3)) (zb (Se zU (zg jC (zb (zc 2) zm)) (mC (.i 1))) zm))))) (zL (hF RF (KA (zb (zc 5) zm))) WB))))
abbrev Vp:Su:=
  (yF (qF 2 (Lk (zL (hF [] (KA zm)) (zL (hF [] (KA zm)) (zL (hF [] (KA zm)) WB))))) (yF (fE RP (YZ (zb (zg jC (zb (zc 1) zm)) zm)) vV qy) (yF (fE RK (YZ (zb (Se qS (zg zi (zb (zc 0) (zb (mC (.i 130)) (zb (mC (.i 3)) zm)))) (zg oi (zb (Se TU (zg jC (zb (zc 1) zm)) (mC (.i 0))) zm))) zm)) vW jN) (Q6 (qo 2)))))
def Yj:List HV->AH->HX HV:=As 6 Vp
abbrev b7:MS:=
  (zX (qb 3 (zg zi (zb (zc 0) (zb (zc 1) (zb (mC (.i 11)) zm))))) (zX (qb 4 (Se zU (zg zi (zb (zc 0) (zb (Se zU (zc 1) (mC (.i 1))) (zb (Se XJ (mC (.i 11)) (zc 3)) zm)))) (Se KP (zc 2) (mC (.i 2))))) (Z0 (Se zU (Se zU (Se qS (mC (.s "x")) (zc 3)) (Se Sg (mC (.s "abcdefghijklmnopqrstuvwyz0123456789")) (zc 2))) (Se qS (mC (.s "x")) (zc 4))))))
def qL:List PV->Out PV:=ZH false 5 b7
abbrev WO:MS:=
  (Sy (zW (Se TU (zg jC (zb (zc 0) zm)) (zc 1))) (vz 3 ["most"] (zb (zc 1) zm)) yH)
def y6:List PV->Out PV:=ZH false 2 WO
abbrev Yy:MG:=
  (Sr 1)
abbrev qZ:MS:=
  (Sy (zW (Se (TN true) (zc 1) (mC (.s "abcdefghijklmnopqrstuvwxyz0123456789")))) (vz 1 ["name"] (zb (zc 0) zm)) yH)
abbrev Jp:MS:=
  (zX (Sy (Te (zW (Se ζ (zg jC (zb (zc 0) zm)) (mC (.i 1)))) (zW (Se TU (zg jC (zb (zc 0) zm)) (mC (.i 12))))) (vz 1 ["name"] (zb (zc 0) zm)) yH) (zX (KC (fG (zc 0)) Yy qZ) (Z0 (zc 0))))
def qi:List PV->Out PV:=ZH false 2 Jp
abbrev Vq:MS:=
  (Sy (zW (Se (TN true) (zc 0) (zc 1))) (vz 5 ["name"] (zb (zc 0) zm)) yH)
def z_:List PV->Out PV:=ZH false 2 Vq
abbrev Yz:MS:=
  (zX (Sy (Te (zW (Se ζ (zc 0) (zc 1))) (zW (Se TU (zc 0) (mC (.i 1000000000))))) (vz 2 ["value"] (zb (zc 0) zm)) yH) (Z0 (zc 0)))
def zP:List PV->Out PV:=ZH false 2 Yz
abbrev qV:MG:=
  (Sr 2)
abbrev ya:MS:=
  (zX (Sy (zW (Se (TN false) (zc 2) (zc 1))) (vz 4 ["name"] (zb (zc 2) zm)) yH) (B2 1 (zc 2) (mC (.b true))))
abbrev WQ:MS:=
  (zX (qb 1 sC) (KC (zN (zc 0)) qV ya))
def jv:List PV->Out PV:=ZH false 3 WQ
abbrev WR:MS:=
  (zX (Sy (zW (Se (TN true) (zc 1) (Y9 [10] "by_name" (zc 0)))) (vz 7 ["name"] (zb (zc 1) zm)) yH) (Z0 (Se Sg (Y9 [10] "by_name" (zc 0)) (zc 1))))
def zr:List PV->Out PV:=ZH false 2 WR
abbrev Vr:MG:=
  (Sr 8)
abbrev Yk:MS:=
  (zX (qb 9 (Se Sg (zc 1) (zg zi (zb (zc 0) (zb (Se zU (mC (.i 40)) (Se qS (mC (.i 5)) (zc 8))) (zb (zg jC (zb (zc 1) zm)) zm)))))) (zX (Sy (zW (ot true (zb (zc 6) (zb (zc 9) zm)) (zc 2))) (qb 9 (zc 6)) yH) (zX (qb 10 (Se Sg (zc 1) (zg zi (zb (zc 0) (zb (Se zU (mC (.i 41)) (Se qS (mC (.i 5)) (zc 8))) (zb (zg jC (zb (zc 1) zm)) zm)))))) (zX (Sy (zW (ot true (zb (zc 9) (zb (zc 10) zm)) (zc 2))) (qb 10 (zc 9)) yH) (zX (qb 11 (Se qS (zg zi (zb (zc 0) (zb (Se zU (mC (.i 42)) (Se qS (mC (.i 5)) (zc 8))) (zb (mC (.i 2)) zm)))) (zg zi (zb (zc 0) (zb (Se zU (mC (.i 43)) (Se qS (mC (.i 5)) (zc 8))) (zb (Se qS (mC (.i 30)) (zc 3)) zm)))))) (zX (qb 12 (Se qS (Se KP (zg zi (zb (zc 0) (zb (Se zU (mC (.i 44)) (Se qS (mC (.i 5)) (zc 8))) (zb (mC (.i 3)) zm)))) (mC (.i 2))) (zg zi (zb (zc 0) (zb (Se zU (mC (.i 45)) (Se qS (mC (.i 5)) (zc 8))) (zb (Se qS (mC (.i 30)) (zc 3)) zm)))))) (zX (qb 13 (Se zU (Se zU (zc 7) (mB (zc 2) (zb (zc 6) (zb (zc 9) zm)))) (zc 11))) (zX (qb 7 (zg Lf (zb (Se zU (zc 13) (mC (.i 1))) (zb (Se zU (Se zU (zc 13) (mB (zc 2) (zb (zc 9) (zb (zc 10) zm)))) (zc 12)) zm)))) (zX (rY 5 (V5 (zb (zg qL (zb (zc 0) (zb (mC (.i 7)) (zb (zc 8) zm)))) (zb (zc 9) (zb (zc 10) (zb (zc 13) (zb (zc 7) (zb (zg zi (zb (zc 0) (zb (Se zU (mC (.i 46)) (Se qS (mC (.i 5)) (zc 8))) (zb (mC (.i 7)) zm)))) zm)))))))) (qb 6 (zc 10)))))))))))
abbrev U2:MS:=
  (zX (qb 5 (KA zm)) (zX (qb 6 (Se Sg (zc 1) (zg zi (zb (zc 0) (zb (mC (.i 5)) (zb (zg jC (zb (zc 1) zm)) zm)))))) (zX (qb 7 (Se zU (Se qS (mC (.i 150)) (zc 3)) (zg zi (zb (zc 0) (zb (mC (.i 6)) (zb (Se qS (mC (.i 1440)) (zc 3)) zm)))))) (zX (KC (YZ (zb (zc 4) zm)) Vr Yk) (Z0 (zc 5))))))
def j_:List PV->Out PV:=ZH true 14 U2
abbrev wG:MS:=
  (zX (jg (zg qi (zb (zc 0) zm))) (zX (Sy (zW (Se (TN false) (zc 0) (zc 1))) (vz 4 ["name"] (zb (zc 0) zm)) yH) (Z0 (zc 0))))
def zS:List PV->Out PV:=ZH false 2 wG
abbrev Jq:MG:=
  (ϣ 3 (qr (Sr 2) (qr (Sr 3) (qr (Sr 4) iD))))
abbrev kC:MS:=
  (zX (jg (zg z_ (zb (zc 2) (zb (zc 0) zm)))) (zX (jg (zg z_ (zb (zc 3) (zb (zc 0) zm)))) (jg (zg zP (zb (zc 4) (zb (mC (.i 1)) zm))))))
abbrev WT:MS:=
  (KC (zN (zc 1)) Jq kC)
def jw:List PV->Out PV:=ZH false 5 WT
abbrev Jr:MS:=
  (zX (jg (zg z_ (zb (zc 1) (zb (Y9 [11] "places" (zc 0)) zm)))) (zX (jg (zg z_ (zb (zc 2) (zb (Y9 [11] "places" (zc 0)) zm)))) (Z0 (Ll (Se Sg (Y9 [11] "lengths" (zc 0)) (zc 1)) (zc 2)))))
def zt:List PV->Out PV:=ZH false 3 Jr
abbrev Qx:MG:=
  (Sr 2)
abbrev jO:MS:=
  (jg (jB [(10,zr)] "trip" (zc 0) (zb (zc 2) zm)))
abbrev Vs:MS:=
  (KC (zN (zc 1)) Qx jO)
def qa:List PV->Out PV:=ZH false 3 Vs
abbrev YA:MG:=
  (Sr 2)
abbrev q_:MS:=
  (zX (jg (zg zS (zb (zc 2) (zb (zc 1) zm)))) (B2 1 (zc 2) (mC (.b true))))
abbrev Js:MS:=
  (zX (qb 1 sC) (KC (zN (zc 0)) YA q_))
def qj:List PV->Out PV:=ZH false 3 Js
abbrev WU:MS:=
  (zX (jg (zg zS (zb (Se Sg (zc 1) (mC (.i 0))) (zb (zc 2) zm)))) (zX (qb 3 (jB [(11,zt)] "length" (zc 0) (zb (Se Sg (zc 1) (mC (.i 1))) (zb (Se Sg (zc 1) (mC (.i 2))) zm)))) (zX (jg (zg zP (zb (Se Sg (zc 1) (mC (.i 3))) (zb (mC (.i 0)) zm)))) (zX (jg (zg zP (zb (Se Sg (zc 1) (mC (.i 4))) (zb (mC (.i 0)) zm)))) (zX (jg (zg zP (zb (Se Sg (zc 1) (mC (.i 5))) (zb (mC (.i 0)) zm)))) (zX (Sy (zW (Se pLe (Se Sg (zc 1) (mC (.i 4))) (Se Sg (zc 1) (mC (.i 3))))) (vz 8 ["name"] (zb (Se Sg (zc 1) (mC (.i 0))) zm)) yH) (zX (Sy (zW (Se (xO false) (zc 3) (mC .n))) (vz 6 ["origin","goal"] (zb (Se Sg (zc 1) (mC (.i 1))) (zb (Se Sg (zc 1) (mC (.i 2))) zm))) yH) (Sy (zW (Se ζ (Se XJ (Se Sg (zc 1) (mC (.i 4))) (Se Sg (zc 1) (mC (.i 3)))) (zc 3))) (vz 9 ["name"] (zb (Se Sg (zc 1) (mC (.i 0))) zm)) yH))))))))
def qz:List PV->Out PV:=ZH false 4 WU
abbrev EF:MS:=
  (zX (qb 3 (jB [(10,zr)] "trip" (zc 0) (zb (zc 1) zm))) (zX (qb 4 (jB [(10,zr)] "trip" (zc 0) (zb (zc 2) zm))) (zX (qb 5 (jB [(11,zt)] "length" (Y9 [10] "roads" (zc 0)) (zb (Se Sg (zc 3) (mC (.i 2))) (zb (Se Sg (zc 4) (mC (.i 1))) zm)))) (zX (Sy (zW (Se (xO false) (zc 5) (mC .n))) (Z0 (mC .n)) yH) (Z0 (Se XJ (Se XJ (Se Sg (zc 4) (mC (.i 3))) (Se Sg (zc 3) (mC (.i 4)))) (zc 5)))))))
def oz:List PV->Out PV:=ZH false 6 EF
abbrev U3:MS:=
  (Sy (zW (Se (xO false) (jB [(11,zt)] "length" (zc 0) (zb (zc 1) (zb (zc 2) zm))) (mC .n))) (vz 6 ["origin","goal"] (zb (zc 1) (zb (zc 2) zm))) yH)
def jj:List PV->Out PV:=ZH false 3 U3
abbrev U4:MG:=
  (Sr 5)
abbrev Yl:MS:=
  (zX (qb 6 (jB [(10,zr)] "trip" (zc 0) (zb (zc 5) zm))) (zX (qb 7 (mIf (zW (Se (qE false) (zc 5) (Se Sg (zc 2) (To xN (mC (.i 1)))))) (zc 1) (Se Sg (zc 6) (mC (.i 2))))) (zX (qb 8 (Se XJ (Se Sg (zc 6) (mC (.i 3))) (jB [(11,zt)] "length" (Y9 [10] "roads" (zc 0)) (zb (zc 4) (zb (Se Sg (zc 6) (mC (.i 1))) zm))))) (zX (qb 9 (Se zU (Se Sg (zc 6) (mC (.i 4))) (jB [(11,zt)] "length" (Y9 [10] "roads" (zc 0)) (zb (Se Sg (zc 6) (mC (.i 2))) (zb (zc 7) zm))))) (zX (rY 3 (V5 (zb (zc 5) (zb (zc 4) (zb (zc 7) (zb (zc 8) (zb (zc 9) (zb (Se Sg (zc 6) (mC (.i 5))) zm)))))))) (qb 4 (Se Sg (zc 6) (mC (.i 2)))))))))
abbrev f7:MS:=
  (zX (qb 3 (KA zm)) (zX (qb 4 (zc 1)) (zX (KC (zN (zc 2)) U4 Yl) (Z0 (zc 3)))))
def ZO:List PV->Out PV:=ZH true 10 f7
abbrev Qy:MG:=
  (Sr 0)
abbrev Qz:MT:=
  oV
abbrev QA:ME:=
  (V5 (zb (zc 0) (zb (zg yo (zb (zc 0) (zb (zc 1) zm))) zm)))
abbrev wH:MS:=
  (zX (jg (zg y6 (zb (zc 1) (zb (mC (.i 12)) zm)))) (zX (jg (zg y6 (zb (zc 2) (zb (mC (.i 60)) zm)))) (zX (jg (zg qj (zb (zc 1) zm))) (zX (jg (zg jw (zb (zc 1) (zb (zc 2) zm)))) (zX (iC 0 [11] "places" (zg wu (zb (zc 1) zm))) (zX (iC 0 [11] "ways" (zg wu (zb (zc 2) zm))) (iC 0 [11] "lengths" (zg fC (zb (SO (zN (zc 1)) [none,some 2] Qy Qz QA) zm)))))))))
def qA:List PV->Out PV:=Mv 11 2 wH
abbrev yY:Tz:=
  (χ 3)
abbrev yg:Su:=
  (yF (sT (hP RO (zg qz (zb (zc 1) (zb (zc 3) (zb (Y9 [10] "by_name" (zc 0)) zm)))))) (Hs (Hl [10] "by_name" (qo 0)) (hP RL (Se Sg (zc 3) (mC (.i 0)))) (qo 3)))
abbrev vX:MG:=
  (Sr 0)
abbrev vY:MT:=
  oV
abbrev vZ:ME:=
  (Se Sg (zc 0) (mC (.i 0)))
abbrev vp:Su:=
  (yF (sT (hP RX (zg y6 (zb (zc 2) (zb (mC (.i 40)) zm))))) (yF (dg [10] "roads" (qo 0) (qo 1)) (yF (dg [10] "by_name" (qo 0) (hF [] sC)) (yF (Eh (qo 2) yY yg) (dg [10] "order" (qo 0) (hF RX (SO (zN (mF zI (zb (zc 2) zm))) [none] vX vY vZ)))))))
def qM:List HV->AH->HX HV:=As 4 vp
abbrev mK:MS:=
  (zX (qb 3 (zg oz (zb (zc 0) (zb (zc 1) (zb (zc 2) zm))))) (Z0 (fc (Se (xO true) (zc 3) (mC .n)) (Se pGe (zc 3) (mC (.i 0))))))
def wI:List PV->Out PV:=ZH false 4 mK
abbrev YB:MG:=
  (ϣ 2 (qr (Sr 2) (qr (Sr 3) iD)))
abbrev YC:MS:=
  (Sy (iu (zW (zg wI (zb (zc 0) (zb (zc 2) (zb (zc 3) zm)))))) (vz 12 ["first","second"] (zb (zc 2) (zb (zc 3) zm))) yH)
abbrev Jt:MS:=
  (zX (jg (zg qa (zb (zc 0) (zb (zc 1) zm)))) (KC (Lq (zb (zc 1) (zb (Ϡ Φ (zc 1) (V7 (mC (.i 1))) oU) zm))) YB YC))
def yS:List PV->Out PV:=ZH false 4 Jt
abbrev U5:MS:=
  (zX (jg (zg z_ (zb (zc 1) (zb (jB [(11,yM)] "names" (Y9 [10] "roads" (zc 0)) zm) zm)))) (jg (zg yS (zb (zc 0) (zb (zc 2) zm)))))
def jm:List PV->Out PV:=ZH false 3 U5
abbrev Vt:MS:=
  (zX (jg (zg jm (zb (zc 0) (zb (zc 1) (zb (zc 2) zm))))) (Sy (zW (Se TU (zg jC (zb (zc 2) zm)) (mC (.i 0)))) (zX (jg (zg jj (zb (Y9 [10] "roads" (zc 0)) (zb (zc 1) (zb (Se Sg (jB [(10,zr)] "trip" (zc 0) (zb (Se Sg (zc 2) (mC (.i 0))) zm)) (mC (.i 1))) zm))))) (jg (zg jj (zb (Y9 [10] "roads" (zc 0)) (zb (Se Sg (jB [(10,zr)] "trip" (zc 0) (zb (Se Sg (zc 2) (To xN (mC (.i 1)))) zm)) (mC (.i 2))) (zb (zc 1) zm)))))) yH))
def yb:List PV->Out PV:=ZH false 3 Vt
abbrev X0:MG:=
  (Sr 4)
abbrev wJ:MS:=
  (zX (jg (zg yb (zb (zc 0) (zb (zc 1) (zb (zc 4) zm))))) (GX 3 (zg ZO (zb (zc 0) (zb (zc 1) (zb (zc 4) zm))))))
abbrev f9:MG:=
  (Sr 0)
abbrev f_:MT:=
  oV
abbrev gc:ME:=
  (Se Sg (zc 0) (mC (.i 0)))
abbrev CC:MS:=
  (zX (qb 3 (KA zm)) (zX (KC (zN (zc 2)) X0 wJ) (zX (jg (zg jv (zb (SO (zN (zc 3)) [none] f9 f_ gc) zm))) (Z0 (zc 3)))))
def qP:List PV->Out PV:=ZH true 5 CC
abbrev YD:MG:=
  (Sr 5)
abbrev ja:MS:=
  (zX (qb 6 (jB [(10,zr)] "trip" (zc 0) (zb (zc 5) zm))) (zX (GY 4 (pI λa b=>.i (a+b)) (Se XJ (Se zU (jB [(11,zt)] "length" (Y9 [10] "roads" (zc 0)) (zb (zc 3) (zb (Se Sg (zc 6) (mC (.i 1))) zm))) (Se Sg (zc 6) (mC (.i 4)))) (Se Sg (zc 6) (mC (.i 3))))) (qb 3 (Se Sg (zc 6) (mC (.i 2))))))
abbrev Ju:MS:=
  (zX (jg (zg yb (zb (zc 0) (zb (zc 1) (zb (zc 2) zm))))) (zX (qb 3 (zc 1)) (zX (qb 4 (mC (.i 0))) (zX (KC (zN (zc 2)) YD ja) (Z0 (Se zU (zc 4) (jB [(11,zt)] "length" (Y9 [10] "roads" (zc 0)) (zb (zc 3) (zb (zc 1) zm)))))))))
def yc:List PV->Out PV:=ZH false 7 Ju
abbrev WV:Su:=
  (yF (qF 3 (hP [] (mC .n))) (yF (dh [7] [4] (qF 3 (hF RI (fq qP (zb (zc 0) (zb (zc 1) (zb (zc 2) zm)))))) 4 (Q6 (hP Rr (V5 (zb (V5 (zb (mC (.s "trip")) (zb (xT [1,4,5,7,8,9] "name" (zc 4)) zm))) (zb (mC .n) zm))))) (yF (qF 5 (hP Rr (Lc (To (rV [(.exc 4,false)]) (zc 4)) (Lc (To (rV [(.exc 4,false)]) (zc 4)) (Lc (To (rV [(.exc 4,false)]) (zc 4)) (To (rV [(.exc 4,false)]) (zc 4))))))) (yF (TX (Tf RS (Te (zW (zc 5)) (iu (zW (To (rV [(.exc 4,true)]) (zc 4)))))) (Q6 (hP [] (V5 (zb (V5 (zb (mC (.s "other")) zm)) (zb (mC .n) zm))))) kK) (Q6 (hP Rr (V5 (zb (V5 (zb (mC (.s "twice")) (zb (xT [1,4,5,7,8,9] "name" (zc 4)) zm))) (zb (mC .n) zm)))))))) (Q6 (NI (zL (hP [] (V5 (zb (mC (.s "right")) zm))) (zL (qo 3) WB))))))
def yp:List HV->AH->HX HV:=As 6 WV
abbrev Zg:MG:=
  (Sr 0)
abbrev Zh:MT:=
  oV
abbrev Zi:ME:=
  (Se Sg (zc 0) (mC (.i 0)))
abbrev Zj:Tz:=
  (χ 10)
abbrev kD:Su:=
  (yF (TX (Tf Rx (zW (Se (qE true) (jB [(10,zr)] "trip" (zc 5) (zb (Se Sg (zc 8) (zc 10)) zm)) (Se Sg (zc 4) (Se zU (zc 6) (zc 10)))))) (Q6 (hP [] (mC (.b false)))) kK) (yF (TX (Tf Rw (BU (zW (Se TU (zc 10) (mC (.i 0)))) (iu (zW (zg wI (zb (zc 5) (zb (Se Sg (zc 8) (Se XJ (zc 10) (mC (.i 1)))) (zb (Se Sg (zc 8) (zc 10)) zm)))))))) (Q6 (hP [] (mC (.b false)))) kK) (qF 9 (hP RJ (Se XJ (Se zU (zc 9) (Se Sg (Se Sg (zc 4) (Se zU (zc 6) (zc 10))) (mC (.i 4)))) (Se Sg (Se Sg (zc 4) (Se zU (zc 6) (zc 10))) (mC (.i 3))))))))
abbrev Jv:Tz:=
  (χ 7)
abbrev Zk:Su:=
  (yF (qF 8 (hP RG (SO (zN (zc 7)) [none] Zg Zh Zi))) (yF (qF 9 (hP [] (mC (.i 0)))) (yF (fE RD (YZ (zb (zg jC (zb (zc 8) zm)) zm)) Zj kD) (yF (TX (Tf RA (zW (Se (qE true) (zc 9) (zg yc (zb (zc 1) (zb (zc 2) (zb (zc 8) zm))))))) (Q6 (hP [] (mC (.b false)))) kK) (qF 6 (hP RM (Se zU (zc 6) (zg jC (zb (zc 8) zm)))))))))
abbrev WX:Su:=
  (yF (qF 5 (Ep 10 qM (zL (qo 0) (zL (hF Rr (zg wu (zb (zc 4) zm))) WB)))) (yF (qF 6 (hP [] (mC (.i 0)))) (yF (fE RL (zN (zc 3)) Jv Zk) (Q6 (hP [false,false,false,false,true,false,true] (Se (qE false) (zc 6) (zg jC (zb (zc 4) zm))))))))
def yN:List HV->AH->HX HV:=As 11 WX
abbrev dH:MG:=
  (Sr 0)
abbrev dI:MT:=
  oV
abbrev dJ:ME:=
  (zg qL (zb (zc 1) (zb (mC (.i 0)) (zb (zc 0) zm))))
abbrev AQ:MG:=
  (Sr 0)
abbrev AR:MT:=
  oV
abbrev AS:ME:=
  (Se Sg (zc 0) (mC (.i 0)))
abbrev X2:MG:=
  (Sr 0)
abbrev X3:MT:=
  oV
abbrev X4:ME:=
  (SO (zN (zc 0)) [none] AQ AR AS)
abbrev Vu:MG:=
  (Sr 0)
abbrev Vv:MT:=
  oV
abbrev Vw:ME:=
  (zg wu (zb (zc 0) zm))
abbrev Vx:MG:=
  (Sr 0)
abbrev Vy:MT:=
  (Te (zW (Se ζ (Se Sg (zc 0) (mC (.i 3))) (mC (.i 0)))) (zW (Se TU (Se Sg (zc 0) (mC (.i 4))) (Se nZ (mC (.i 10)) (mC (.i 9))))))
abbrev Vz:ME:=
  (zc 0)
abbrev Nq:Su:=(yF (qF 11 (hP [false,false,false,false,true,false,false,false,true,true] (zg yf (zb (zc 4) (zb (zc 8) (zb (zc 9) zm)))))) (yF (TX (Tf Rz (iu (zW (zg y_ (zb (zc 14) (zb (zc 11) zm)))))) (Q6 (hP [] (mC (.b false)))) kK) (yF (qF 15 (hP [false,false,false,false,false,false,false,false,false,false,false,true] (Se (qE false) (SO (zN (zc 11)) [none] Vx Vy Vz) (KA zm)))) (yF (TX (hAnd (Tf Rp (zW (zc 15))) (Ca (Cb (K3 yN (zL (qo 6) (zL (qo 7) (zL (qo 8) (zL (qo 9) (zL (qo 14) WB))))))))) (Q6 (hP [] (mC (.b false)))) kK) (yF (Cc (qo 12)) (yF (qF 16 (hP RE (Se Sg (zc 2) (zg zi (zb (zc 0) (zb (mC (.i 20)) (zb (zg jC (zb (zc 2) zm)) zm))))))) (yF (TX (Tf Rv (zW (Se (qE true) (zg qP (zb (zc 7) (zb (zc 16) (zb (zc 10) zm)))) (zg yf (zb (zc 4) (zb (zc 16) (zb (zc 9) zm))))))) (Q6 (hP [] (mC (.b false)))) kK) (yF (qF 17 (hF [false,false,false,false,false,false,false,true,true,false,true] (zg qP (zb (zc 7) (zb (zc 8) (zb (Ϡ Φ (zc 10) oU (V7 (mC (.i 1)))) zm)))))) (Q6 (hP [false,false,false,false,true,false,false,false,true,true,false,true,false,false,true,false,false,true] (fc (Se (qE false) (zc 17) (zg yf (zb (zc 4) (zb (zc 8) (zb (Ϡ Φ (zc 9) oU (V7 (mC (.i 1)))) zm))))) (Se (qE false) (zc 14) (zc 11)))))))))))))
abbrev Fg:Su:=(yF (qF 12 (Ϣ Rt (SO (zN (zc 10)) [none] Vu Vv Vw))) (yF (Ed (hgT 2 (Y_ (χ 13) (Y_ (χ 14) om))) (K3 yp (zL (qo 7) (zL (qo 8) (zL (qo 12) WB))))) (yF (TX (Tf Ru (Te (zW (Se (qE true) (zc 13) (zc 11))) (zW (Se (qE true) (zc 12) (zc 10))))) (Q6 (hP [] (mC (.b false)))) kK) (yF (TX (Tf RB (zW (Se (qE true) (zc 13) (V5 (zb (mC (.s "right")) zm))))) (Q6 (hP [] (mC (.b true)))) kK) Nq))))
abbrev uC:Su:=(yF (qF 10 (hF Rq (SO (zN (zc 9)) [none] X2 X3 X4))) (yF (qF 11 (hP Rq (zg y4 (zb (zc 9) zm)))) (yF (TX (Tf [true] (zW (Se (qE false) (zg zi (zb (zc 0) (zb (mC (.i 135)) (zb (mC (.i 5)) zm)))) (mC (.i 1))))) (yF (Es (qo 10) (zL (hP RH (zg zi (zb (zc 0) (zb (mC (.i 136)) (zb (Se zU (zg jC (zb (zc 10) zm)) (mC (.i 1))) zm))))) (zL (hP [] (KA (zb (mC (.s "none")) zm))) WB))) (qF 11 (hP [] (V5 (zb (mC (.s "trip")) (zb (mC (.s "none")) zm)))))) kK) Fg)))
abbrev CD:Su:=(yF (qF 1 (hP [true] (Se Sg (KA (zb (mC (.i 1)) (zb (mC (.i 40)) (zb (mC (.i 100000)) zm)))) (zg zi (zb (zc 0) (zb (mC (.i 3)) (zb (mC (.i 3)) zm))))))) (yF (qF 2 (hP [true] (SO (YZ (zb (Se zU (mC (.i 1)) (zg zi (zb (zc 0) (zb (mC (.i 2)) (zb (mC (.i 5)) zm))))) zm)) [none,some 0] dH dI dJ))) (yF (qF 3 (hP RI (zg vv (zb (zc 0) (zb (zc 2) (zb (zc 1) (zb (mC (.b true)) zm))))))) (yF (qF 4 (hP RZ (zg qK (zb (zc 2) (zb (zc 3) zm))))) (yF (qF 5 (hP [true,true,true,false,true] (zg j9 (zb (zc 0) (zb (zg j_ (zb (zc 0) (zb (zc 2) (zb (zc 4) (zb (zc 1) (zb (zg zi (zb (zc 0) (zb (mC (.i 8)) (zb (mC (.i 13)) zm)))) zm)))))) (zb (zc 1) zm)))))) (yF (qF 6 (hP RZ (zg qA (zb (zg wu (zb (zc 2) zm)) (zb (zg wu (zb (zc 3) zm)) zm))))) (yF (qF 7 (Ep 10 qM (zL (qo 6) (zL (hF RF (zg wu (zb (zc 5) zm))) WB)))) (yF (qF 8 (hP RE (Se Sg (zc 2) (zg zi (zb (zc 0) (zb (mC (.i 18)) (zb (zg jC (zb (zc 2) zm)) zm))))))) (yF (qF 9 (hP [true,false,false,false,false,true] (zg (ϸ Yj) (zb (zc 0) (zb (zc 5) zm))))) uC)))))))))
def tT:List HV->AH->HX HV:=As 18 CD
def zB(T:Txt K mg a):yW P w K mg base (Sj P w) 1 a.zi a.ck ["_law_script","_law_k","_law_many"] (Sw (WW K a) false RI zi):=
 zJ (ms:=b5) (S':=[1,1,1,0]) (Sb:=[]) (Sc:=[]) T.zx.F Kl rfl rfl rfl (by decide) λcdv A outer s H E hr=>
  (zf (se 3 Kl.nd ei) (zf (jh (qp cD cM (qc rfl T.j5 (za (ev 0) ze)) ei (qv _)) (zq (se 3 Kl.nd (zE Y7 Y8 (ix hr (ev 0) (zE Y7 Y8 (ev 1) (qc rfl T.j5 (za (ev 0) ze)))) ei))) yx) (zq (jr (zE Y7 Y8 (zE p_ rg (zE Y7 Y8 (zE yt yw (zE zF zG (zE zF zG (ev 3) (zE yt yw ei (ev 1))) ei) (zE zF zG ei (zE yt yw (ev 1) (ev 1)))) ei) ei) (ev 2))))))
def dM(T:Txt K mg a):yW P w K mg base (Sj P w) 1 a.qK a.VH ["_law_places","_law_ways_here"] (Sw (WW K a) true RK qK):=
 zJ (ms:=Vj) (S':=[1,1,0,0,0,0,0,0,0]) (Sb:=[]) (Sc:=[]) T.qJ.F zY rfl rfl rfl (by decide) λcdv A outer s H E hr=>
  (zf (wV (i:=2) zY.nd rfl (.inl rfl) Ax) (zf (qt (zA ⟨rfl,rfl⟩) rfl (jZ (kI (pv 0))) (gn 3 zY.nd) (zq (iJ (qR hr) (pv 2) (za (zj (pv 3)) (za (zj (pv 3)) ze)) ei))) (zf (qt (zA ⟨rfl,rfl⟩) rfl (jZ (kI (pv 1))) (fh (n:=3) rfl (qw (gn 4 zY.nd) (qw (gn 5 zY.nd) (qw (gn 6 zY.nd) fg kJ) kJ) kJ)) (zq (jh (TWM.tm (V6 (K5 (qR hr) (za (zj (pv 4)) (za (zj (pv 5)) ze)) (ev 2)) (Ys (qp er fb (ev 6) (WE (qR hr) (ev 2) (za (zj (pv 4)) (za (zj (pv 5)) ze))) (qv _))))) (zq (iJ (qR hr) (pv 2) (za (zj (pv 4)) (za (zj (pv 5)) ze)) (zj (pv 6)))) yx))) (zf (qt (zA ⟨rfl,rfl⟩) rfl (jZ (kI (pv 0))) (gn 7 zY.nd) (zq (qt (zA ⟨rfl,rfl⟩) rfl (jZ (kI (pv 0))) (gn 4 zY.nd) (zq (qt (zA ⟨rfl,rfl⟩) rfl (jZ (kI (pv 0))) (gn 5 zY.nd) (zq (jh (TWM.tm (BV (Cg (qR hr) (za (zj (pv 4)) (za (zj (pv 7)) ze)) (ev 2)) (rj (Cg (qR hr) (za (zj (pv 7)) (za (zj (pv 5)) ze)) (ev 2))))) (zf (se 8 zY.nd (zE zF zG (WE (qR hr) (ev 2) (za (zj (pv 4)) (za (zj (pv 7)) ze))) (WE (qR hr) (ev 2) (za (zj (pv 7)) (za (zj (pv 5)) ze))))) (zq (jh (TWM.tm (V6 (K5 (qR hr) (za (zj (pv 4)) (za (zj (pv 5)) ze)) (ev 2)) (Ys (qp er fb (ev 8) (WE (qR hr) (ev 2) (za (zj (pv 4)) (za (zj (pv 5)) ze))) (qv _))))) (zq (iJ (qR hr) (pv 2) (za (zj (pv 4)) (za (zj (pv 5)) ze)) (zj (pv 8)))) yx))) yx))))))) (zq (Kb (pv 2)))))))
def bj(T:Txt K mg a):yW P w K mg base (Sj P w) 1 a.Zm a.Zq ["self","most"] (sA a.v8 ["most"]):=by
 refine T.aX.okX UD (λvs H Q E h=>by obtain⟨e,us,rfl,hl,_⟩:=h;rw[v0,hl];rfl) λcdv A outer s H vs Q E hr h=>?_;obtain⟨e,us,rfl,hl,he,k⟩:=h
 match us,hl with
 |[v],_=>exact⟨_,kQ (kT (pv 0) (pv 1) rfl),_,rfl,_,rfl,e,a.v8,.none,rfl,T.fZ,T.UU,.inl ⟨he,k⟩⟩
def Jw(T:Txt K mg a):yW P w K mg base (Sj P w) 1 a.Zn a.Zr ["self","name"] (sA a.kM ["name"]):=by
 refine T.aZ.okX UE (λvs H Q E h=>by obtain⟨e,us,rfl,hl,_⟩:=h;rw[v0,hl];rfl) λcdv A outer s H vs Q E hr h=>?_;obtain⟨e,us,rfl,hl,he,k⟩:=h
 match us,hl with
 |[v],_=>exact⟨_,kQ (kT (pv 0) (pv 1) rfl),_,rfl,_,rfl,e,a.kM,.none,rfl,T.Qr,T.US,.inl ⟨he,k⟩⟩
def WY(T:Txt K mg a):yW P w K mg base (Sj P w) 1 a.QF a.QI ["self","name"] (sA a.qB ["name"]):=by
 refine T.fS.okX dm (λvs H Q E h=>by obtain⟨e,us,rfl,hl,_⟩:=h;rw[v0,hl];rfl) λcdv A outer s H vs Q E hr h=>?_;obtain⟨e,us,rfl,hl,he,k⟩:=h
 match us,hl with
 |[v],_=>exact⟨_,kQ (kT (pv 0) (pv 1) rfl),_,rfl,_,rfl,e,a.qB,.none,rfl,T.Ze,T.dD,.inl ⟨he,k⟩⟩
def bo(T:Txt K mg a):yW P w K mg base (Sj P w) 1 a.Zo a.Zs ["self","name"] (sA a.jR ["name"]):=by
 refine T.a8.okX UG (λvs H Q E h=>by obtain⟨e,us,rfl,hl,_⟩:=h;rw[v0,hl];rfl) λcdv A outer s H vs Q E hr h=>?_;obtain⟨e,us,rfl,hl,he,k⟩:=h
 match us,hl with
 |[v],_=>exact⟨_,kQ (kT (pv 0) (pv 1) rfl),_,rfl,_,rfl,e,a.jR,.none,rfl,T.Vg,T.UX,.inl ⟨he,k⟩⟩
def Xr(T:Txt K mg a):yW P w K mg base (Sj P w) 1 a.k7 a.k8 ["self","value"] (sA a.jo ["value"]):=by
 refine T.Xn.okX Wc (λvs H Q E h=>by obtain⟨e,us,rfl,hl,_⟩:=h;rw[v0,hl];rfl) λcdv A outer s H vs Q E hr h=>?_;obtain⟨e,us,rfl,hl,he,k⟩:=h
 match us,hl with
 |[v],_=>exact⟨_,kQ (kT (pv 0) (pv 1) rfl),_,rfl,_,rfl,e,a.jo,.none,rfl,T.UT,T.Vd,.inl ⟨he,k⟩⟩
def bp(T:Txt K mg a):yW P w K mg base (Sj P w) 1 a.yo a.Jz ["origin","ways"] (Sw (WW K a) true RK yo):=
 zJ (ms:=Jk) (S':=[1,1,0,0,0,0,0,0]) (Sb:=[]) (Sc:=[]) T.qh.F z0 rfl rfl rfl (by decide) λcdv A outer s H E hr=>
  (zf (wV (i:=2) z0.nd rfl (.inl rfl) (MP (ev 0) ei)) (zf (se 3 z0.nd (Y6 Y2)) (zf (Aa (zA ⟨rfl,rfl⟩) (ZE (ev 3)) (zf (se 3 z0.nd (Y6 Y2)) (zq (qt (zA ⟨rfl,rfl⟩) rfl (jZ (kI (pv 1))) (fh (n:=3) rfl (qw (gn 4 z0.nd) (qw (gn 5 z0.nd) (qw (gn 6 z0.nd) fg kJ) kJ) kJ)) (zq (jh (xP (qR hr) (ev 4) (ev 2)) (zf (se 7 z0.nd (zE zF zG (ix hr (ev 2) (ev 4)) (ev 6))) (zq (jh (TWM.tm (V6 (XM (qR hr) (ev 5) (ev 2)) (Ys (qp er fb (ev 7) (ix hr (ev 2) (ev 5)) (qv _))))) (zf (r_ (qR hr) (pv 2) (ev 5) (zj (pv 7))) (zq (se 3 z0.nd (Y6 Y2)))) yx))) yx)))))) (zq (Kb (pv 2))))))
def U6(T:Txt K mg a):yW P w K mg base (Sj P w) 1 a.v9 a.wa ["self","name"] (sA a.jx ["name"]):=by
 refine T.UO.okX Xl (λvs H Q E h=>by obtain⟨e,us,rfl,hl,_⟩:=h;rw[v0,hl];rfl) λcdv A outer s H vs Q E hr h=>?_;obtain⟨e,us,rfl,hl,he,k⟩:=h
 match us,hl with
 |[v],_=>exact⟨_,kQ (kT (pv 0) (pv 1) rfl),_,rfl,_,rfl,e,a.jx,.none,rfl,T.Q_,T.Xq,.inl ⟨he,k⟩⟩
def WZ(T:Txt K mg a):yW P w K mg base (Sj P w) 1 a.QG a.QK ["self","origin","goal"] (sA a.Zl ["origin","goal"]):=by
 refine T.fV.okX dr (λvs H Q E h=>by obtain⟨e,us,rfl,hl,_⟩:=h;rw[v0,hl];rfl) λcdv A outer s H vs Q E hr h=>?_;obtain⟨e,us,rfl,hl,he,k⟩:=h
 match us,hl with
 |[v,u],_=>
  have ne:∀{dx},H dx=none->dx≠e:=λh z=>by rw[z,he]at h;cases h
  exact⟨_,XG (kT (pv 0) (pv 1) rfl) (kQ (kT (pv 0) (pv 2) rfl)),_,rfl,_,rfl,e,a.Zl,.none,rfl,T.dE,T.UY,.inl ⟨he,λdx hd=>⟨_,rfl,_,rfl,e,a.Zl,.none,rfl,T.dE,T.dF,.inr ⟨dx,[(("origin":Str),v)],by rw[zh],by rw[zl (ne hd),zh],ne hd,(show 1<1000 by decide),by
   have q:=k dx hd;have e1:KH ("goal":Str) u [(("origin":Str),v)]=[(("origin":Str),v),(("goal":Str),u)]:=rfl;rw[e1];have e2:∀{A B C:HO},upd (upd (upd H dx A) e B) dx C=upd (upd H dx C) e B:=λ{A B C}=>funext λb=>by
    by_cases hb:b=dx
    .subst hb;rw[zh,zl (ne hd),zh]
    .rw[zl hb];by_cases hb2:b=e
     .subst hb2;rw[zh,zh]
     .rw[zl hb2,zl hb2,zl hb,zl hb]
   rw[e2];exact q⟩⟩⟩⟩
def bq(T:Txt K mg a):yW P w K mg base (Sj P w) 1 a.Zp a.Zu ["self","name"] (sA a.kN ["name"]):=by
 refine T.ba.okX UI (λvs H Q E h=>by obtain⟨e,us,rfl,hl,_⟩:=h;rw[v0,hl];rfl) λcdv A outer s H vs Q E hr h=>?_;obtain⟨e,us,rfl,hl,he,k⟩:=h
 match us,hl with
 |[v],_=>exact⟨_,kQ (kT (pv 0) (pv 1) rfl),_,rfl,_,rfl,e,a.kN,.none,rfl,T.Vh,T.UZ,.inl ⟨he,k⟩⟩
def Xs(T:Txt K mg a):yW P w K mg base (Sj P w) 1 a.zI a.YF ["trip"] (Sw (WW K a) false [true] zI):=
 zJ (ms:=Yx) (S':=[1]) (Sb:=[]) (Sc:=[]) T.qe.F We rfl rfl rfl (by decide) λcdv A outer s H E hr=>
  (zq (jr (jF (za (ix hr (ev 0) (zT (zC (v:=.int 3) rfl T.Yc ⟨_,rfl⟩))) (za (ix hr (ev 0) (zT (zC (v:=.int 4) rfl T.vn ⟨_,rfl⟩))) (za (ix hr (ev 0) (zT (zC (v:=.int 0) rfl T.K_ ⟨_,rfl⟩))) ze))))))
def gd(T:Txt K mg a):yW P w K mg base (Sj P w) 1 a.y4 a.W7 ["_law_blocks_here"] (Sw (WW K a) false [true] y4):=
 zJ (ms:=WJ) (S':=[1,0,0,0]) (Sb:=[]) (Sc:=[]) T.wD.F vm rfl rfl rfl (by decide) λcdv A outer s H E hr=>
  (zf (wV (i:=1) vm.nd rfl (.inl rfl) (wt ze)) (zf (qt (zA ⟨rfl,rfl⟩) rfl (jZ (kI (pv 0))) (gn 2 vm.nd) (zq (qt (zA ⟨rfl,rfl⟩) rfl (jZ (EM.en (zj (pv 2)))) (gn 3 vm.nd) (zf (jh (xP (qR hr) (ix hr (ev 3) ei) (ev 1)) (zq (jr (jF (za (wq ZA) (za (ix hr (ev 3) ei) ze))))) yx) (zq (ZG (pv 1) (ix hr (ev 3) ei))))))) (zq (jr (jF (za (wq ZA) ze))))))
def dN(T:Txt K mg a):yW P w K mg base (Sj P w) 1 a.Yo a.Yp ["self","name"] (sA a.jS ["name"]):=by
 refine T.dz.okX aU (λvs H Q E h=>by obtain⟨e,us,rfl,hl,_⟩:=h;rw[v0,hl];rfl) λcdv A outer s H vs Q E hr h=>?_;obtain⟨e,us,rfl,hl,he,k⟩:=h
 match us,hl with
 |[v],_=>exact⟨_,kQ (kT (pv 0) (pv 1) rfl),_,rfl,_,rfl,e,a.jS,.none,rfl,T.XZ,T.bf,.inl ⟨he,k⟩⟩
def U7(T:Txt K mg a):yW P w K mg base (Sj P w) 1 a.v_ a.wb ["self","first","second"] (sA a.qk ["first","second"]):=by
 refine T.UQ.okX Xm (λvs H Q E h=>by obtain⟨e,us,rfl,hl,_⟩:=h;rw[v0,hl];rfl) λcdv A outer s H vs Q E hr h=>?_;obtain⟨e,us,rfl,hl,he,k⟩:=h
 match us,hl with
 |[v,u],_=>
  have ne:∀{dx},H dx=none->dx≠e:=λh z=>by rw[z,he]at h;cases h
  exact⟨_,XG (kT (pv 0) (pv 1) rfl) (kQ (kT (pv 0) (pv 2) rfl)),_,rfl,_,rfl,e,a.qk,.none,rfl,T.Wg,T.Wh,.inl ⟨he,λdx hd=>⟨_,rfl,_,rfl,e,a.qk,.none,rfl,T.Wg,T.Vi,.inr ⟨dx,[(("first":Str),v)],by rw[zh],by rw[zl (ne hd),zh],ne hd,(show 1<1000 by decide),by
   have q:=k dx hd;have e1:KH ("second":Str) u [(("first":Str),v)]=[(("first":Str),v),(("second":Str),u)]:=rfl;rw[e1];have e2:∀{A B C:HO},upd (upd (upd H dx A) e B) dx C=upd (upd H dx C) e B:=λ{A B C}=>funext λb=>by
    by_cases hb:b=dx
    .subst hb;rw[zh,zl (ne hd),zh]
    .rw[zl hb];by_cases hb2:b=e
     .subst hb2;rw[zh,zh]
     .rw[zl hb2,zl hb2,zl hb,zl hb]
   rw[e2];exact q⟩⟩⟩⟩
def dO(T:Txt K mg a):yW P w K mg base (Sj P w) 1 a.yM a.Yq ["self"] (Sw (WW K a) true [true] yM):=
 zJ (ms:=Vk) (S':=[1]) (Sb:=[]) (Sc:=[]) T.dB aV rfl rfl rfl (by decide) λcdv A outer s H E hr=>
  (zq (DR (wx rfl rfl T.Qq (za (vx (ev 0) (fa ⟨T.y9,T.jK⟩ fz)) ze))))
def U8(T:Txt K mg a):yW P w K mg base (Sj P w) 1 a.yf a.gH ["_law_far","_law_home","_law_blocks_here"] (Sw (WW K a) true RE yf):=
 zJ (ms:=f6) (S':=[1,0,1,0,0,0,0,0,0,0,0,0,0]) (Sb:=[]) (Sc:=[]) T.qf.F yj rfl rfl rfl (by decide) λcdv A outer s H E hr=>
  (zf (wV (i:=3) yj.nd rfl (.inl rfl) (wt ze)) (zf (qt (zA ⟨rfl,rfl⟩) rfl (jZ (kI (pv 2))) (gn 4 yj.nd) (zf (se 5 yj.nd (zj (pv 1))) (zq (qt (zA ⟨rfl,rfl⟩) rfl (Z2 rfl T.vG (za (qc rfl T.j5 (za (ev 4) ze)) ze)) (gn 6 yj.nd) (zf (G0 (ix hr (ev 4) (ev 6)) (fh (n:=6) rfl (qw (gn 7 yj.nd) (qw (gn 8 yj.nd) (qw (gn 9 yj.nd) (qw (gn 10 yj.nd) (qw (gn 11 yj.nd) (qw (gn 12 yj.nd) fg kJ) kJ) kJ) kJ) kJ) kJ))) (zf (jh (rC hr.units (ev 6) (zE ZC ZD (qc rfl T.j5 (za (ev 4) ze)) ei)) (zf (se 11 yj.nd (zE zF zG (ev 11) (WE (qR hr) (ev 0) (za (zj (pv 9)) (za (zj (pv 1)) ze))))) (zq (se 9 yj.nd (zj (pv 1))))) yx) (zf (ZG (pv 3) (jF (za (zj (pv 7)) (za (zj (pv 5)) (za (zj (pv 9)) (za (zE ZC ZD (ev 10) (WE (qR hr) (ev 0) (za (zj (pv 5)) (za (zj (pv 8)) ze)))) (za (zj (pv 11)) (za (zj (pv 12)) ze)))))))) (zq (se 5 yj.nd (ix hr (ix hr (ev 4) (ev 6)) ei)))))))))) (zq (Kb (pv 3)))))
def iR(T:Txt K mg a):yW P w K mg base (Sj P w) 1 a.y_ a.az ["_law_made","_law_due_here"] (Sw (WW K a) false RK y_):=
 zJ (ms:=U0) (S':=[1,1,0,0]) (Sb:=[]) (Sc:=[]) T.Yg.F Qm rfl rfl rfl (by decide) λcdv A outer s H E hr=>
  (zf (jh (TWM.tm (V6 (Wz (ZE (Je rfl T.z6 (ev 0) (Ua rfl T.Qq PyProof.Rows.Boot.«list» (v:=.ty "list") rfl) rfl ⟨⟨trivial,T.Qv⟩,trivial⟩))) (Ys (fe hr.units (qc rfl T.j5 (za (ev 0) ze)) (qc rfl T.j5 (za (ev 1) ze)))))) (zq (jr (Y6 Y2))) yx) (zf (qt (zA ⟨rfl,rfl⟩) rfl (jZ (kI (pv 0))) (gn 2 Qm.nd) (zf (jh (TWM.tm (V6 (Wz (ZE (Je rfl T.z6 (ev 2) (Ua rfl T.iP PyProof.Rows.Boot.«tuple» (v:=.ty "tuple") rfl) rfl ⟨⟨trivial,T.Zf⟩,trivial⟩))) (Ys (fe hr.units (qc rfl T.j5 (za (ev 2) ze)) ei)))) (zq (jr (Y6 Y2))) yx) (zq (qt (zA ⟨rfl,rfl⟩) rfl (Z2 rfl T.vG (za ei ze)) (gn 3 Qm.nd) (zq (jh (TWM.tm (V6 (Wz (ZE (Je rfl T.z6 (ix hr (ev 2) (ev 3)) (Ua rfl T.ED PyProof.Rows.Boot.«str» (v:=.ty "str") rfl) rfl ⟨⟨trivial,T.Wj⟩,trivial⟩))) (V6 (Wz (ZE (Je rfl T.z6 (ix hr (ev 2) (zE zF zG ei (ev 3))) (Ua rfl T.AK PyProof.Rows.Boot.«int» (v:=.ty "int") rfl) rfl ⟨⟨trivial,T.Wi⟩,⟨⟨trivial,T.Ks⟩,trivial⟩⟩))) (Ys (ZE (Je rfl T.z6 (ix hr (ev 2) (zE zF zG ei (ev 3))) (Ua rfl T.tI PyProof.Rows.Boot.«bool» (v:=.ty "bool") rfl) rfl ⟨⟨trivial,T.Qw⟩,⟨⟨trivial,T.Kr⟩,trivial⟩⟩)))))) (zq (jr (Y6 Y2))) yx)))))) (zq (jr (rB hr.units (ev 0) (ev 1))))))
def oA(T:Txt K mg a):yW P w K mg base (Sj P w) 2 a.vv a.cn ["_law_script","_law_places","_law_scale","_law_ring"] (Sw (WW K a) true [true,true,true,true] vv):=
 zJ (ms:=b6) (S':=[1,1,1,1,0,0,0,0]) (Sb:=[]) (Sc:=[]) T.vt.F j4 rfl rfl rfl (by decide) λcdv A outer s H E hr=>
  (zf (se 4 j4.nd (qc rfl T.j5 (za (ev 1) ze))) (zf (wV (i:=5) j4.nd rfl (.inl rfl) (wt ze)) (zf (qt (zA ⟨rfl,rfl⟩) rfl (Z2 rfl T.vG (za (ev 4) ze)) (gn 6 j4.nd) (zq (jh (ZE (ev 3)) (zq (ZG (pv 5) (jF (za (ix hr (ev 1) (ev 6)) (za (ix hr (ev 1) (zE Y7 Y8 (zE zF zG (ev 6) ei) (ev 4))) (za (zE zF zG ei (ec (zB T) hr T.zx zD (za (ev 0) (za (EM.weak (zE zF zG ei (ev 6))) (za (EM.weak (zE yt yw ei (ev 2))) ze))))) ze)))))) yx))) (zf (qt (zA ⟨rfl,rfl⟩) rfl (Z2 rfl T.vG (za (ec (zB T) hr T.zx zD (za (ev 0) (za (EM.weak ei) (za (EM.weak ei) ze)))) ze)) (gn 6 j4.nd) (zf (se 7 j4.nd (ec (zB T) hr T.zx zD (za (ev 0) (za (EM.weak (zE zF zG ei (ev 6))) (za (EM.weak (zE yt yw (ev 4) (ev 4))) ze))))) (zq (ZG (pv 5) (jF (za (ix hr (ev 1) (zE Y7 Y8 (ev 7) (ev 4))) (za (ix hr (ev 1) (zE p_ rg (ev 7) (ev 4))) (za (zE zF zG ei (ec (zB T) hr T.zx zD (za (ev 0) (za (EM.weak (zE zF zG ei (ev 6))) (za (EM.weak (zE yt yw ei (ev 2))) ze))))) ze)))))))) (zq (Kb (pv 5)))))))
def iS(T:Txt K mg a):yW P w K mg base (Sj P w) 2 a.j9 a.ar ["_law_script","_law_trips_here","_law_scale"] (Sw (WW K a) false RE j9):=
 zJ (ms:=U1) (S':=[1,0,1,0,0]) (Sb:=[]) (Sc:=[]) T.Ye.F wz rfl rfl rfl (by decide) λcdv A outer s H E hr=>
  (zf (se 3 wz.nd (ec (zB T) hr T.zx zD (za (ev 0) (za (EM.weak ei) (za (EM.weak ei) ze))))) (zf (jh (TWM.tm (V6 (rC hr.units (ev 1) (FM.em (wt ze))) (Ys (qp cD cM (ev 3) ei (qv _))))) (zq (jr (zj (pv 1)))) yx) (zf (rX (i:=4) wz.nd rfl (by first|exact .inl rfl|exact .inr rfl) (zE ZC ZD (ec (zB T) hr T.zx zD (za (ev 0) (za (EM.weak ei) (za (EM.weak (zE yt yw ei (ev 2))) ze)))) (ix hr (ix hr (ev 1) ei) ei))) (zf (jh (rC hr.units (ev 3) ei) (zq (rX (i:=4) wz.nd rfl (by first|exact .inl rfl|exact .inr rfl) (zE ZC ZD (zE ZC ZD (zE BC rh ei ei) (ec (zB T) hr T.zx zD (za (ev 0) (za (EM.weak ei) (za (EM.weak ei) ze))))) (ix hr (ix hr (ev 1) (DE ph p7 ei)) ei)))) yx) (zq (jr (FM.em (n6 ["_law_trip","_law_shift"] [none,some 4] [0,0] rfl (by kernel_rfl) (Z1 (ev 1)) (λ_=>(vy (i:=0) (show List.Nodup (["_law_trip","_law_shift"]:List Str)from by decide +kernel) rfl (.inl rfl))) (λ_=>KU) λ_=>(Gv Dh Ez (tF (ev 0) cO (cP ei)) (jF (za (zE zF zG (ix hr (ev 0) ei) (ev 1)) (za (zE zF zG (ix hr (ev 0) ei) (ev 1)) (za (ix hr (ev 0) ei) ze)))))))))))))
def dP(T:Txt K mg a):yW P w K mg base (Sj P w) 2 a.W2 a.W6 ["_law_script","_law_trips_here"] (Ts (WW K a) 2 Yj):=
 fF (ms:=Vp) T.ju.F qH rfl rfl rfl λcdv A outer s H E hr=>
  (zu (Td 2 qH.nd (Hg (yQ (hf (wt ze)) (yQ (hf (wt ze)) (yQ (hf (wt ze)) WC))))) (zu (c7 (S:=Rh) (fr:=false) RP (zA ⟨rfl,rfl⟩) rfl (Z2 rfl T.vG (za (qc rfl T.j5 (za (ev 1) ze)) ze)) (Kc (i:=3) qH.nd rfl (.inl rfl)) (zu (Td 4 qH.nd (hp (ec (zB T) hr T.zx zD (za (ev 0) (za (EM.weak (zE zF zG ei (ev 3))) (za (EM.weak ei) ze)))))) (yz (Uy (sQ (S:=Rh) (fr:=false) Rr (qp er fb (ev 4) ei (qv _))) (yz (sV (MK (qR hr) (qu (pv 2)) (qu (pv 4))) (hp (ix hr (ev 1) (ev 3))))) vA)))) (zu (c7 (S:=Rh) (fr:=false) RK (zA ⟨rfl,rfl⟩) rfl (Z2 rfl T.vG (za (zE yt yw (ec (zB T) hr T.zx zD (za (ev 0) (za (EM.weak ei) (za (EM.weak ei) ze)))) (D8 rfl T.AK (za (lZ cD cM (qc rfl T.j5 (za (ev 1) ze)) ei (qv _)) ze))) ze)) (Kc (i:=3) qH.nd rfl (.inl rfl)) (zu (Td 5 qH.nd (hp (ix hr (ev 1) (ec (zB T) hr T.zx zD (za (ev 0) (za (EM.weak (zE zF zG ei (ev 3))) (za (EM.weak (qc rfl T.j5 (za (ev 1) ze))) ze))))))) (yz (fL (qu (pv 2)) (yQ (hp (ec (zB T) hr T.zx zD (za (ev 0) (za (EM.weak (zE zF zG ei (ev 3))) (za (EM.weak (zE zF zG (qc rfl T.j5 (za (ev 2) ze)) ei)) ze))))) (yQ (hf (wt (za (zj (pv 5)) ze))) WC)))))) (yz (vB (qu (pv 2)))))))
def b8(T:Txt K mg a):yW P w K mg base (Sj P w) 2 a.qL a.cq ["_law_script","_law_k","_law_number"] (Sw (WW K a) false RI qL):=
 zJ (ms:=b7) (S':=[1,1,1,0,0]) (Sb:=[]) (Sc:=[]) T.ZN.F Ko rfl rfl rfl (by decide) λcdv A outer s H E hr=>
  (zf (se 3 Ko.nd (ec (zB T) hr T.zx zD (za (ev 0) (za (ev 1) (za (EM.weak ei) ze))))) (zf (se 4 Ko.nd (zE zF zG (ec (zB T) hr T.zx zD (za (ev 0) (za (EM.weak (zE zF zG (ev 1) ei)) (za (EM.weak (zE ZC ZD ei (ev 3))) ze)))) (zE Y7 Y8 (ev 2) ei))) (zq (jr (zE zF zG (zE zF zG (zE yt yw (wq ZA) (ev 3)) (ix hr (wq ZA) (ev 2))) (zE yt yw (wq ZA) (ev 4)))))))
def QB(T:Txt K mg a):yW P w K mg base (Sj P w) 3 a.y6 a.W3 ["things","most"] (Sw (WW K a) false [true,false] y6):=
 zJ (ms:=WO) (S':=[1,0]) (Sb:=[]) (Sc:=[]) T.jt.F dk rfl rfl rfl (by decide) λcdv A outer s H E hr=>
  (zq (jh (qp cD cM (qc rfl T.j5 (za (ev 0) ze)) (ev 1) (qv _)) (zq (qG (c:=3) rfl T.tL T.fZ (bj T) (rm hr) rfl T.UJ T.aY (za (zj (pv 1)) ze))) yx))
def br(T:Txt K mg a):yW P w K mg base (Sj P w) 3 a.qi a.Jx ["name"] (Sw (WW K a) false RW qi):=
 zJ (ms:=Jp) (S':=[0,0]) (Sb:=[]) (Sc:=[]) T.kr.F Ql rfl rfl rfl (by decide) λcdv A outer s H E hr=>
  (zf (jh (TWM.tm (V6 (qp er fb (qc rfl T.j5 (za (ev 0) ze)) ei (qv _)) (Ys (qp cD cM (qc rfl T.j5 (za (ev 0) ze)) (zT (zC (v:=.int 12) rfl T.Zd ⟨_,rfl⟩)) (qv _))))) (zq (qG (c:=1) rfl T.fY T.Qr (Jw T) (rm hr) rfl T.Va T.Ji (za (zj (pv 0)) ze))) yx) (zf (qt (zA ⟨rfl,rfl⟩) rfl (Hy (ev 0)) (gn 1 Ql.nd) (zq (jh (XM (qR hr) (ev 1) (wq (zC (v:=.str "abcdefghijklmnopqrstuvwxyz0123456789") rfl T.Qn ⟨_,rfl⟩))) (zq (qG (c:=1) rfl T.fY T.Qr (Jw T) (rm hr) rfl T.Va T.Ji (za (zj (pv 0)) ze))) yx))) (zq (jr (zj (pv 0))))))
def jP(T:Txt K mg a):yW P w K mg base (Sj P w) 3 a.z_ a.VI ["name","places"] (Sw (WW K a) false RP z_):=
 zJ (ms:=Vq) (S':=[0,1]) (Sb:=[]) (Sc:=[]) T.yK.F aT rfl rfl rfl (by decide) λcdv A outer s H E hr=>
  (zq (jh (XM (qR hr) (ev 0) (ev 1)) (zq (qG (c:=5) rfl T.tN T.Vg (bo T) (rm hr) rfl T.Vb T.a9 (za (zj (pv 0)) ze))) yx))
def jb(T:Txt K mg a):yW P w K mg base (Sj P w) 3 a.zP a.YE ["value","least"] (Sw (WW K a) false RP zP):=
 zJ (ms:=Yz) (S':=[0,1]) (Sb:=[]) (Sc:=[]) T.yn.F Wd rfl rfl rfl (by decide) λcdv A outer s H E hr=>
  (zf (jh (TWM.tm (V6 (qp er fb (ev 0) (ev 1) (qv _)) (Ys (qp cD cM (ev 0) (zT (zC (v:=.int 1000000000) rfl T.iN ⟨_,rfl⟩)) (qv _))))) (zq (qG (c:=2) rfl T.iQ T.UT (Xr T) (rm hr) rfl T.Kq T.Xo (za (zj (pv 0)) ze))) yx) (zq (jr (zj (pv 0)))))
def gf(T:Txt K mg a):yW P w K mg base (Sj P w) 3 a.jv a.W8 ["names"] (Sw (WW K a) false [true] jv):=
 zJ (ms:=WQ) (S':=[1,2,0]) (Sb:=[]) (Sc:=[]) T.wF.F Yb rfl rfl rfl (by decide) λcdv A outer s H E hr=>
  (zf (wV (i:=1) Yb.nd rfl (.inl rfl) iE) (zq (qt (zA ⟨rfl,rfl⟩) rfl (jZ (kI (pv 0))) (gn 2 Yb.nd) (zf (jh (xP (qR hr) (ev 2) (ev 1)) (zq (qG (c:=4) rfl T.tM T.Ze (WY T) (rm hr) rfl T.UK T.WG (za (zj (pv 2)) ze))) yx) (zq (r_ (qR hr) (pv 1) (ev 2) (Y6 Y2)))))))
def y8(T:Txt K mg a):yW P w K mg base (Sj P w) 3 a.zr a.QM ["self","name"] (Sw (WW K a) false [true,false] zr):=
 zJ (ms:=WR) (S':=[1,0]) (Sb:=[]) (Sc:=[]) T.fX du rfl rfl rfl (by decide) λcdv A outer s H E hr=>
  (zf (jh (XM (qR hr) (ev 1) (vx (ev 0) (fa ⟨T.z4,T.qg⟩ fz))) (zq (qG (c:=7) rfl T.AN T.XZ (dN T) (rm hr) rfl T.XY T.dA (za (zj (pv 1)) ze))) yx) (zq (jr (ix hr (vx (ev 0) (fa ⟨T.z4,T.qg⟩ fz)) (ev 1)))))
def iT(T:Txt K mg a):yW P w K mg base (Sj P w) 3 a.j_ a.ay ["_law_script","_law_places","_law_far","_law_scale","_law_many"] (Sw (WW K a) true [true,true,true,true,true] j_):=
 zJ (ms:=U2) (S':=[1,1,1,1,1,0,0,0,0,0,0,0,0,0]) (Sb:=[]) (Sc:=[]) T.j7.F zR rfl rfl rfl (by decide) λcdv A outer s H E hr=>
  (zf (wV (i:=5) zR.nd rfl (.inl rfl) (wt ze)) (zf (se 6 zR.nd (ix hr (ev 1) (ec (zB T) hr T.zx zD (za (ev 0) (za (EM.weak ei) (za (EM.weak (qc rfl T.j5 (za (ev 1) ze))) ze)))))) (zf (se 7 zR.nd (zE zF zG (zE yt yw ei (ev 3)) (ec (zB T) hr T.zx zD (za (ev 0) (za (EM.weak ei) (za (EM.weak (zE yt yw ei (ev 3))) ze)))))) (zf (qt (zA ⟨rfl,rfl⟩) rfl (Z2 rfl T.vG (za (ev 4) ze)) (gn 8 zR.nd) (zf (se 9 zR.nd (ix hr (ev 1) (ec (zB T) hr T.zx zD (za (ev 0) (za (EM.weak (zE zF zG ei (zE yt yw ei (ev 8)))) (za (EM.weak (qc rfl T.j5 (za (ev 1) ze))) ze)))))) (zf (jh (K5 (qR hr) (za (zj (pv 6)) (za (zj (pv 9)) ze)) (ev 2)) (zq (se 9 zR.nd (zj (pv 6)))) yx) (zf (se 10 zR.nd (ix hr (ev 1) (ec (zB T) hr T.zx zD (za (ev 0) (za (EM.weak (zE zF zG ei (zE yt yw ei (ev 8)))) (za (EM.weak (qc rfl T.j5 (za (ev 1) ze))) ze)))))) (zf (jh (K5 (qR hr) (za (zj (pv 9)) (za (zj (pv 10)) ze)) (ev 2)) (zq (se 10 zR.nd (zj (pv 9)))) yx) (zf (se 11 zR.nd (zE yt yw (ec (zB T) hr T.zx zD (za (ev 0) (za (EM.weak (zE zF zG ei (zE yt yw ei (ev 8)))) (za (EM.weak ei) ze)))) (ec (zB T) hr T.zx zD (za (ev 0) (za (EM.weak (zE zF zG ei (zE yt yw ei (ev 8)))) (za (EM.weak (zE yt yw ei (ev 3))) ze)))))) (zf (se 12 zR.nd (zE yt yw (zE Y7 Y8 (ec (zB T) hr T.zx zD (za (ev 0) (za (EM.weak (zE zF zG ei (zE yt yw ei (ev 8)))) (za (EM.weak ei) ze)))) ei) (ec (zB T) hr T.zx zD (za (ev 0) (za (EM.weak (zE zF zG ei (zE yt yw ei (ev 8)))) (za (EM.weak (zE yt yw ei (ev 3))) ze)))))) (zf (se 13 zR.nd (zE zF zG (zE zF zG (ev 7) (WE (qR hr) (ev 2) (za (zj (pv 6)) (za (zj (pv 9)) ze)))) (ev 11))) (zf (se 7 zR.nd (GS rfl rfl T.EC (za (zE zF zG (ev 13) ei) (za (zE zF zG (zE zF zG (ev 13) (WE (qR hr) (ev 2) (za (zj (pv 9)) (za (zj (pv 10)) ze)))) (ev 12)) ze)))) (zf (ZG (pv 5) (jF (za (ec (b8 T) hr T.ZN zD (za (ev 0) (za (EM.weak ei) (za (ev 8) ze)))) (za (zj (pv 9)) (za (zj (pv 10)) (za (zj (pv 13)) (za (zj (pv 7)) (za (ec (zB T) hr T.zx zD (za (ev 0) (za (EM.weak (zE zF zG ei (zE yt yw ei (ev 8)))) (za (EM.weak ei) ze)))) ze)))))))) (zq (se 6 zR.nd (zj (pv 10)))))))))))))) (zq (Kb (pv 5)))))))
def wK(T:Txt K mg a):yW P w K mg base (Sj P w) 4 a.zS a.wL ["name","had"] (Sw (WW K a) false RP zS):=
 zJ (ms:=wG) (S':=[0,1]) (Sb:=[]) (Sc:=[]) T.yJ.F Km rfl rfl rfl (by decide) λcdv A outer s H E hr=>
  (zf (ym (ec (br T) hr T.kr zD (za (zj (pv 0)) ze))) (zf (jh (xP (qR hr) (ev 0) (ev 1)) (zq (qG (c:=4) rfl T.tM T.Ze (WY T) (rm hr) rfl T.UK T.WG (za (zj (pv 0)) ze))) yx) (zq (jr (zj (pv 0))))))
def gh(T:Txt K mg a):yW P w K mg base (Sj P w) 4 a.jw a.W4 ["places","ways"] (Sw (WW K a) false RK jw):=
 zJ (ms:=WT) (S':=[1,1,0,0,0]) (Sb:=[]) (Sc:=[]) T.wB.F vk rfl rfl rfl (by decide) λcdv A outer s H E hr=>
  (zq (qt (zA ⟨rfl,rfl⟩) rfl (jZ (kI (pv 1))) (fh (n:=3) rfl (qw (gn 2 vk.nd) (qw (gn 3 vk.nd) (qw (gn 4 vk.nd) fg kJ) kJ) kJ)) (zf (ym (ec (jP T) hr T.yK zD (za (zj (pv 2)) (za (ev 0) ze)))) (zf (ym (ec (jP T) hr T.yK zD (za (zj (pv 3)) (za (ev 0) ze)))) (zq (ym (ec (jb T) hr T.yn zD (za (zj (pv 4)) (za (EM.weak ei) ze)))))))))
def yT(T:Txt K mg a):yW P w K mg base (Sj P w) 4 a.zt a.Zt ["self","origin","goal"] (Sw (WW K a) false RQ zt):=
 zJ (ms:=Jr) (S':=[1,0,0]) (Sb:=[]) (Sc:=[]) T.a_ UH rfl rfl rfl (by decide) λcdv A outer s H E hr=>
  (zf (ym (ec (jP T) hr T.yK zD (za (zj (pv 1)) (za (EM.weak (vx (ev 0) (fa ⟨T.y9,T.jK⟩ fz))) ze)))) (zf (ym (ec (jP T) hr T.yK zD (za (zj (pv 2)) (za (EM.weak (vx (ev 0) (fa ⟨T.y9,T.jK⟩ fz))) ze)))) (zq (jr (Hz (qR hr) (ix hr (vx (ev 0) (fa ⟨T.y9,T.Yv⟩ fz)) (ev 1)) (ev 2) ⟨rfl,rfl,rfl,rfl⟩)))))
def dQ(T:Txt K mg a):yW P w K mg base (Sj P w) 4 a.qa a.VJ ["table","names"] (Sw (WW K a) false RK qa):=
 zJ (ms:=Vs) (S':=[1,1,0]) (Sb:=[]) (Sc:=[]) T.vo.F Jg rfl rfl rfl (by decide) λcdv A outer s H E hr=>
  (zq (qt (zA ⟨rfl,rfl⟩) rfl (jZ (kI (pv 1))) (gn 2 Jg.nd) (zq (ym (jf (fr:=false) (ws:=RW) (tab:=[(10,zr)]) (ev 0) (al ⟨_,_,_,_,T.z4,T.yL,y8 T,(rm hr),T.y3⟩) zD (za (zj (pv 2)) ze))))))
def bu(T:Txt K mg a):yW P w K mg base (Sj P w) 5 a.qj a.Jy ["places"] (Sw (WW K a) false [true] qj):=
 zJ (ms:=Js) (S':=[1,2,0]) (Sb:=[]) (Sc:=[]) T.ky.F vE rfl rfl rfl (by decide) λcdv A outer s H E hr=>
  (zf (wV (i:=1) vE.nd rfl (.inl rfl) iE) (zq (qt (zA ⟨rfl,rfl⟩) rfl (jZ (kI (pv 0))) (gn 2 vE.nd) (zf (ym (ec (wK T) hr T.yJ zD (za (zj (pv 2)) (za (ev 1) ze)))) (zq (r_ (qR hr) (pv 1) (ev 2) (Y6 Y2)))))))
def gi(T:Txt K mg a):yW P w K mg base (Sj P w) 5 a.qz a.W5 ["roads","trip","had"] (Sw (WW K a) false RI qz):=
 zJ (ms:=WU) (S':=[1,1,1,0]) (Sb:=[]) (Sc:=[]) T.wC.F K8 rfl rfl rfl (by decide) λcdv A outer s H E hr=>
  (zf (ym (ec (wK T) hr T.yJ zD (za (ix hr (ev 1) (zT (zC (v:=.int 0) rfl T.K_ ⟨_,rfl⟩))) (za (ev 2) ze)))) (zf (se 3 K8.nd (jf (fr:=false) (ws:=RN) (tab:=[(11,zt)]) (ev 0) (al ⟨_,_,_,_,T.y9,T.yB,yT T,(rm hr),T.yR⟩) zD (za (ix hr (ev 1) (zT (zC (v:=.int 1) rfl T.wA ⟨_,rfl⟩))) (za (ix hr (ev 1) (zT (zC (v:=.int 2) rfl T.Jh ⟨_,rfl⟩))) ze)))) (zf (ym (ec (jb T) hr T.yn zD (za (ix hr (ev 1) (zT (zC (v:=.int 3) rfl T.Yc ⟨_,rfl⟩))) (za (EM.weak ei) ze)))) (zf (ym (ec (jb T) hr T.yn zD (za (ix hr (ev 1) (zT (zC (v:=.int 4) rfl T.vn ⟨_,rfl⟩))) (za (EM.weak ei) ze)))) (zf (ym (ec (jb T) hr T.yn zD (za (ix hr (ev 1) (zT (zC (v:=.int 5) rfl T.dv ⟨_,rfl⟩))) (za (EM.weak ei) ze)))) (zf (jh (qp LP Mn (ix hr (ev 1) (zT (zC (v:=.int 4) rfl T.vn ⟨_,rfl⟩))) (ix hr (ev 1) (zT (zC (v:=.int 3) rfl T.Yc ⟨_,rfl⟩))) (qv _)) (zq (qG (c:=8) rfl T.ow T.Q_ (U6 T) (rm hr) rfl T.Wf T.UP (za (ix hr (ev 1) (zT (zC (v:=.int 0) rfl T.K_ ⟨_,rfl⟩))) ze))) yx) (zf (jh (qp pA ri (ev 3) (KO KD) (qv _)) (zq (qG (c:=6) rfl T.tO T.dE (WZ T) (rm hr) rfl T.UL T.WH (za (ix hr (ev 1) (zT (zC (v:=.int 1) rfl T.wA ⟨_,rfl⟩))) (za (ix hr (ev 1) (zT (zC (v:=.int 2) rfl T.Jh ⟨_,rfl⟩))) ze)))) yx) (zq (jh (qp er fb (zE ZC ZD (ix hr (ev 1) (zT (zC (v:=.int 4) rfl T.vn ⟨_,rfl⟩))) (ix hr (ev 1) (zT (zC (v:=.int 3) rfl T.Yc ⟨_,rfl⟩)))) (ev 3) (qv _)) (zq (qG (c:=9) rfl T.tR T.Vh (bq T) (rm hr) rfl T.UM T.bb (za (ix hr (ev 1) (zT (zC (v:=.int 0) rfl T.K_ ⟨_,rfl⟩))) ze))) yx)))))))))
def M6(T:Txt K mg a):yW P w K mg base (Sj P w) 5 a.oz a.IU ["table","one","other"] (Sw (WW K a) false RQ oz):=
 zJ (ms:=EF) (S':=[1,0,0,0,0,0]) (Sb:=[]) (Sc:=[]) T.AL.F mI rfl rfl rfl (by decide) λcdv A outer s H E hr=>
  (zf (se 3 mI.nd (jf (fr:=false) (ws:=RW) (tab:=[(10,zr)]) (ev 0) (al ⟨_,_,_,_,T.z4,T.yL,y8 T,(rm hr),T.y3⟩) zD (za (zj (pv 1)) ze))) (zf (se 4 mI.nd (jf (fr:=false) (ws:=RW) (tab:=[(10,zr)]) (ev 0) (al ⟨_,_,_,_,T.z4,T.yL,y8 T,(rm hr),T.y3⟩) zD (za (zj (pv 2)) ze))) (zf (se 5 mI.nd (jf (fr:=false) (ws:=RN) (tab:=[(11,zt)]) (vx (ev 0) (fa ⟨T.z4,T.z7⟩ fz)) (al ⟨_,_,_,_,T.y9,T.yB,yT T,(rm hr),T.yR⟩) zD (za (ix hr (ev 3) (zT (zC (v:=.int 2) rfl T.Jh ⟨_,rfl⟩))) (za (ix hr (ev 4) (zT (zC (v:=.int 1) rfl T.wA ⟨_,rfl⟩))) ze)))) (zf (jh (qp pA ri (ev 5) (KO KD) (qv _)) (zq (jr (KO KD))) yx) (zq (jr (zE ZC ZD (zE ZC ZD (ix hr (ev 4) (zT (zC (v:=.int 3) rfl T.Yc ⟨_,rfl⟩))) (ix hr (ev 3) (zT (zC (v:=.int 4) rfl T.vn ⟨_,rfl⟩)))) (ev 5))))))))
def U9(T:Txt K mg a):yW P w K mg base (Sj P w) 5 a.jj a.aw ["roads","origin","goal"] (Sw (WW K a) false RQ jj):=
 zJ (ms:=U3) (S':=[1,0,0]) (Sb:=[]) (Sc:=[]) T.vH.F fR rfl rfl rfl (by decide) λcdv A outer s H E hr=>
  (zq (jh (qp pA ri (jf (fr:=false) (ws:=RN) (tab:=[(11,zt)]) (ev 0) (al ⟨_,_,_,_,T.y9,T.yB,yT T,(rm hr),T.yR⟩) zD (za (zj (pv 1)) (za (zj (pv 2)) ze))) (KO KD) (qv _)) (zq (qG (c:=6) rfl T.tO T.dE (WZ T) (rm hr) rfl T.UL T.WH (za (zj (pv 1)) (za (zj (pv 2)) ze)))) yx))
def tU(T:Txt K mg a):yW P w K mg base (Sj P w) 5 a.ZO a.gG ["table","home","names"] (Sw (WW K a) true RE ZO):=
 zJ (ms:=f7) (S':=[1,0,1,0,0,0,0,0,0,0]) (Sb:=[]) (Sc:=[]) T.ZM.F qI rfl rfl rfl (by decide) λcdv A outer s H E hr=>
  (zf (wV (i:=3) qI.nd rfl (.inl rfl) (wt ze)) (zf (se 4 qI.nd (zj (pv 1))) (zf (qt (zA ⟨rfl,rfl⟩) rfl (jZ (kI (pv 2))) (gn 5 qI.nd) (zf (se 6 qI.nd (jf (fr:=false) (ws:=RW) (tab:=[(10,zr)]) (ev 0) (al ⟨_,_,_,_,T.z4,T.yL,y8 T,(rm hr),T.y3⟩) zD (za (zj (pv 5)) ze))) (zf (se 7 qI.nd (Mp (rC hr.units (ev 5) (ix hr (ev 2) (DE ph p7 ei))) (zj (pv 1)) (ix hr (ev 6) (zT (zC (v:=.int 2) rfl T.Jh ⟨_,rfl⟩))))) (zf (se 8 qI.nd (zE ZC ZD (ix hr (ev 6) (zT (zC (v:=.int 3) rfl T.Yc ⟨_,rfl⟩))) (jf (fr:=false) (ws:=RN) (tab:=[(11,zt)]) (vx (ev 0) (fa ⟨T.z4,T.z7⟩ fz)) (al ⟨_,_,_,_,T.y9,T.yB,yT T,(rm hr),T.yR⟩) zD (za (zj (pv 4)) (za (ix hr (ev 6) (zT (zC (v:=.int 1) rfl T.wA ⟨_,rfl⟩))) ze))))) (zf (se 9 qI.nd (zE zF zG (ix hr (ev 6) (zT (zC (v:=.int 4) rfl T.vn ⟨_,rfl⟩))) (jf (fr:=false) (ws:=RN) (tab:=[(11,zt)]) (vx (ev 0) (fa ⟨T.z4,T.z7⟩ fz)) (al ⟨_,_,_,_,T.y9,T.yB,yT T,(rm hr),T.yR⟩) zD (za (ix hr (ev 6) (zT (zC (v:=.int 2) rfl T.Jh ⟨_,rfl⟩))) (za (zj (pv 7)) ze))))) (zf (ZG (pv 3) (jF (za (zj (pv 5)) (za (zj (pv 4)) (za (zj (pv 7)) (za (zj (pv 8)) (za (zj (pv 9)) (za (ix hr (ev 6) (zT (zC (v:=.int 5) rfl T.dv ⟨_,rfl⟩))) ze)))))))) (zq (se 4 qI.nd (ix hr (ev 6) (zT (zC (v:=.int 2) rfl T.Jh ⟨_,rfl⟩))))))))))) (zq (Kb (pv 3))))))
def gj(T:Txt K mg a):yW P w K mg base (Sj P w) 6 a.qA a.QJ ["self","places","ways"] (Lh (WW K a) 11 RK qA):=
 sx (ms:=wH) (S':=[2,1,1]) (Sb:=[]) (Sc:=[]) (n:=2) T.fT dq rfl rfl rfl (by decide) rfl λcdv A outer s H E hr=>
  (zf (ym (ec (QB T) hr T.jt zD (za (ev 1) (za (zT (zC (v:=.int 12) rfl T.Yd ⟨_,rfl⟩)) ze)))) (zf (ym (ec (QB T) hr T.jt zD (za (ev 2) (za (zT (zC (v:=.int 60) rfl T.Kp ⟨_,rfl⟩)) ze)))) (zf (ym (ec (bu T) hr T.ky zD (za (ev 1) ze))) (zf (ym (ec (gh T) hr T.wB zD (za (ev 1) (za (ev 2) ze)))) (zf (sd (i:=0) (pv 0) (FM.em (wx rfl rfl T.Qq (za (ev 1) ze))) (fa ⟨T.y9,T.jK⟩ fz)) (zf (sd (i:=0) (pv 0) (FM.em (wx rfl rfl T.Qq (za (ev 2) ze))) (fa ⟨T.y9,T.dG⟩ fz)) (zq (sd (i:=0) (pv 0) (FM.em (Ah rfl rfl T.tJ (za (FM.em (n6 ["place","ways"] [none,some 2] [0,1] rfl (by kernel_rfl) (Z1 (ev 1)) (λ_=>(vy (i:=0) (show List.Nodup (["place","ways"]:List Str)from by decide +kernel) rfl (.inl rfl))) (λ_=>KU) λ_=>(jF (za (zj (pv 0)) (za (FM.em (wU (bp T) (rm hr) rfl T.qh.g T.qh.k T.qh.b BQ (za (ev 0) (za (ev 1) ze)))) ze))))) ze))) (fa ⟨T.y9,T.Yv⟩ fz)))))))))
def VA(T:Txt K mg a):yW P w K mg base (Sj P w) 6 a.QH a.QL ["self","roads","trips"] (Ts (WW K a) 3 qM):=
 fF (ms:=vp) T.fW K9 rfl rfl rfl λcdv A outer s H E hr=>
  (zu (sU (hp (ec (QB T) hr T.jt zD (za (ev 2) (za (zT (zC (v:=.int 40) rfl T.Qo ⟨_,rfl⟩)) ze))))) (zu (tD (qu (pv 0)) (qu (pv 1)) (fa ⟨T.z4,T.z7⟩ fz)) (zu (tD (qu (pv 0)) (hf iE) (fa ⟨T.z4,T.qg⟩ fz)) (zu (Ei (zA ⟨rfl,rfl⟩) rfl (qu (pv 2)) (Kc (i:=3) K9.nd rfl (.inl rfl)) (zu (sU (hp (ec (gi T) hr T.wC zD (za (ev 1) (za (ev 3) (za (EM.weak (vx (ev 0) (fa ⟨T.z4,T.qg⟩ fz))) ze)))))) (yz (Hu (qR hr) (Hm (qu (pv 0)) (fa ⟨T.z4,T.qg⟩ fz)) (hp (ix hr (ev 3) (zT (zC (v:=.int 0) rfl T.K_ ⟨_,rfl⟩)))) (qu (pv 3)))))) (yz (tD (qu (pv 0)) (hf (n6 ["trip"] [none] [0] rfl (by kernel_rfl) (Z1 (FM.em (AF (wk:=true) (Xs T) (rm hr) T.qe.b rfl T.dy rfl T.qe.g (za (ev 2) ze)))) (λ_=>(vy (i:=0) (show List.Nodup (["trip"]:List Str)from by decide +kernel) rfl (.inl rfl))) (λ_=>KU) λ_=>(ix hr (ev 0) (zT (zC (v:=.int 0) rfl T.K_ ⟨_,rfl⟩))))) (fa ⟨T.z4,T.bg⟩ fz)))))))
def mL(T:Txt K mg a):yW P w K mg base (Sj P w) 6 a.wI a.nq ["table","one","other"] (Sw (WW K a) false RQ wI):=
 zJ (ms:=mK) (S':=[1,0,0,0]) (Sb:=[]) (Sc:=[]) T.Vc.F fP rfl rfl rfl (by decide) λcdv A outer s H E hr=>
  (zf (se 3 fP.nd (ec (M6 T) hr T.AL zD (za (ev 0) (za (zj (pv 1)) (za (zj (pv 2)) ze))))) (zq (jr (BW (lZ C7 DF (ev 3) (KO KD) (qv _)) (rl (lZ LQ Mo (ev 3) ei (qv _)))))))
def bw(T:Txt K mg a):yW P w K mg base (Sj P w) 7 a.yS a.JA ["table","names"] (Sw (WW K a) false RK yS):=
 zJ (ms:=Jt) (S':=[1,1,0,0]) (Sb:=[]) (Sc:=[]) T.kA.F vF rfl rfl rfl (by decide) λcdv A outer s H E hr=>
  (zf (ym (ec (dQ T) hr T.vo zD (za (ev 0) (za (ev 1) ze)))) (zq (qt (zA ⟨rfl,rfl⟩) rfl (Eu rfl T.EE (kI (pv 1)) (EM.en (cQ (ev 1) (cP ei) cO))) (fh (n:=2) rfl (qw (gn 2 vF.nd) (qw (gn 3 vF.nd) fg kJ) kJ)) (zq (jh (Wz (ZE (ec (mL T) hr T.Vc zD (za (ev 0) (za (zj (pv 2)) (za (zj (pv 3)) ze)))))) (zq (qG (c:=12) rfl T.oy T.Wg (U7 T) (rm hr) rfl T.Q9 T.UR (za (zj (pv 2)) (za (zj (pv 3)) ze)))) yx)))))
def iU(T:Txt K mg a):yW P w K mg base (Sj P w) 8 a.jm a.au ["table","home","names"] (Sw (WW K a) false RE jm):=
 zJ (ms:=U5) (S':=[1,0,1]) (Sb:=[]) (Sc:=[]) T.Yf.F fQ rfl rfl rfl (by decide) λcdv A outer s H E hr=>
  (zf (ym (ec (jP T) hr T.yK zD (za (zj (pv 1)) (za (EM.weak (FM.em (xU (tab:=[(11,yM)]) (vx (ev 0) (fa ⟨T.z4,T.z7⟩ fz)) (al ⟨_,_,_,_,T.y9,T.bh,dO T,(rm hr),T.dC⟩) zD))) ze)))) (zq (ym (ec (bw T) hr T.kA zD (za (ev 0) (za (ev 2) ze))))))
def VB(T:Txt K mg a):yW P w K mg base (Sj P w) 9 a.yb a.VL ["table","home","names"] (Sw (WW K a) false RE yb):=
 zJ (ms:=Vt) (S':=[1,0,1]) (Sb:=[]) (Sc:=[]) T.jJ.F aW rfl rfl rfl (by decide) λcdv A outer s H E hr=>
  (zf (ym (ec (iU T) hr T.Yf zD (za (ev 0) (za (zj (pv 1)) (za (ev 2) ze))))) (zq (jh (qp cD cM (qc rfl T.j5 (za (ev 2) ze)) ei (qv _)) (zf (ym (ec (U9 T) hr T.vH zD (za (EM.weak (vx (ev 0) (fa ⟨T.z4,T.z7⟩ fz))) (za (zj (pv 1)) (za (ix hr (jf (fr:=false) (ws:=RW) (tab:=[(10,zr)]) (ev 0) (al ⟨_,_,_,_,T.z4,T.yL,y8 T,(rm hr),T.y3⟩) zD (za (ix hr (ev 2) ei) ze)) (zT (zC (v:=.int 1) rfl T.wA ⟨_,rfl⟩))) ze))))) (zq (ym (ec (U9 T) hr T.vH zD (za (EM.weak (vx (ev 0) (fa ⟨T.z4,T.z7⟩ fz))) (za (ix hr (jf (fr:=false) (ws:=RW) (tab:=[(10,zr)]) (ev 0) (al ⟨_,_,_,_,T.z4,T.yL,y8 T,(rm hr),T.y3⟩) zD (za (ix hr (ev 2) (DE ph p7 ei)) ze)) (zT (zC (v:=.int 2) rfl T.Jh ⟨_,rfl⟩))) (za (zj (pv 1)) ze))))))) yx)))
def tV(T:Txt K mg a):yW P w K mg base (Sj P w) 10 a.qP a.C2 ["table","home","blocks"] (Sw (WW K a) true RE qP):=
 zJ (ms:=CC) (S':=[1,0,1,0,0]) (Sb:=[]) (Sc:=[]) T.Yt.F iL rfl rfl rfl (by decide) λcdv A outer s H E hr=>
  (zf (wV (i:=3) iL.nd rfl (.inl rfl) (wt ze)) (zf (qt (zA ⟨rfl,rfl⟩) rfl (jZ (kI (pv 2))) (gn 4 iL.nd) (zf (ym (ec (VB T) hr T.jJ zD (za (ev 0) (za (zj (pv 1)) (za (ev 4) ze))))) (zq (rZ (pv 3) (FM.em (wU (tU T) (rm hr) rfl T.ZM.g T.ZM.k T.ZM.b zD (za (ev 0) (za (zj (pv 1)) (za (ev 4) ze))))))))) (zf (ym (ec (gf T) hr T.wF zD (za (EM.weak (FM.em (n6 ["leg"] [none] [0] rfl (by kernel_rfl) (Z1 (ev 3)) (λ_=>(vy (i:=0) (show List.Nodup (["leg"]:List Str)from by decide +kernel) rfl (.inl rfl))) (λ_=>KU) λ_=>(ix hr (ev 0) (zT (zC (v:=.int 0) rfl T.K_ ⟨_,rfl⟩)))))) ze))) (zq (Kb (pv 3))))))
def bz(T:Txt K mg a):yW P w K mg base (Sj P w) 10 a.yc a.JB ["table","home","names"] (Sw (WW K a) false RE yc):=
 zJ (ms:=Ju) (S':=[1,0,1,0,0,0,0]) (Sb:=[]) (Sc:=[]) T.kB.F yA rfl rfl rfl (by decide) λcdv A outer s H E hr=>
  (zf (ym (ec (VB T) hr T.jJ zD (za (ev 0) (za (zj (pv 1)) (za (ev 2) ze))))) (zf (se 3 yA.nd (zj (pv 1))) (zf (se 4 yA.nd ei) (zf (qt (zA ⟨rfl,rfl⟩) rfl (jZ (kI (pv 2))) (gn 5 yA.nd) (zf (se 6 yA.nd (jf (fr:=false) (ws:=RW) (tab:=[(10,zr)]) (ev 0) (al ⟨_,_,_,_,T.z4,T.yL,y8 T,(rm hr),T.y3⟩) zD (za (zj (pv 5)) ze))) (zf (DS (i:=4) yA.nd rfl (.inl rfl) (zE ZC ZD (zE zF zG (jf (fr:=false) (ws:=RN) (tab:=[(11,zt)]) (vx (ev 0) (fa ⟨T.z4,T.z7⟩ fz)) (al ⟨_,_,_,_,T.y9,T.yB,yT T,(rm hr),T.yR⟩) zD (za (zj (pv 3)) (za (ix hr (ev 6) (zT (zC (v:=.int 1) rfl T.wA ⟨_,rfl⟩))) ze))) (ix hr (ev 6) (zT (zC (v:=.int 4) rfl T.vn ⟨_,rfl⟩)))) (ix hr (ev 6) (zT (zC (v:=.int 3) rfl T.Yc ⟨_,rfl⟩)))) FR) (zq (se 3 yA.nd (ix hr (ev 6) (zT (zC (v:=.int 2) rfl T.Jh ⟨_,rfl⟩)))))))) (zq (jr (zE zF zG (ev 4) (jf (fr:=false) (ws:=RN) (tab:=[(11,zt)]) (vx (ev 0) (fa ⟨T.z4,T.z7⟩ fz)) (al ⟨_,_,_,_,T.y9,T.yB,yT T,(rm hr),T.yR⟩) zD (za (zj (pv 3)) (za (zj (pv 1)) ze))))))))))
def gk(T:Txt K mg a):yW P w K mg base (Sj P w) 11 a.ao a.ax ["_law_table","_law_home","_law_blocks_here"] (Ts (WW K a) 3 yp):=
 fF (ms:=WV) T.j6.F kL rfl rfl rfl λcdv A outer s H E hr=>
  (zu (Td 3 kL.nd (hp (KO KD))) (zu (Ex (j:=4) ⟨rfl,rfl⟩ (HJ (i:=3) kL.nd rfl (.inl rfl) (OF (S:=Rh) (fr:=false) RI (tV T) (rm hr) rfl T.Yt.g T.Yt.k T.Yt.b (za (ev 0) (za (zj (pv 1)) (za (ev 2) ze))))) rfl T.XY rfl T.UK kL.nd rfl (.inl rfl) (λe=>(yz (vB (hp (jF (za (jF (za (wq ZA) (za (rO (ev 4) (fa ⟨T.Qr,T.Qs⟩ (fa ⟨T.Ze,T.Vf⟩ (fa ⟨T.Vg,T.Qt⟩ (fa ⟨T.XZ,T.Jj⟩ (fa ⟨T.Q_,T.Yu⟩ (fa ⟨T.Vh,T.Qu⟩ fz))))))) ze))) (za (KO KD) ze))))))) (λe=>(zu (Td 5 kL.nd (hp (DG (Je rfl T.z6 (ev 4) (zC rfl T.Vb (v:=.ref _) rfl) rfl ⟨⟨⟨T.Ze,T.Ve⟩,T.vJ⟩,trivial⟩) (DG (Je rfl T.z6 (ev 4) (zC rfl T.UL (v:=.ref _) rfl) rfl ⟨⟨⟨T.Ze,T.Ve⟩,T.Yh⟩,trivial⟩) (DG (Je rfl T.z6 (ev 4) (zC rfl T.Q9 (v:=.ref _) rfl) rfl ⟨⟨⟨T.Ze,T.Ve⟩,T.kZ⟩,trivial⟩) (rl (Je rfl T.z6 (ev 4) (zC rfl T.UN (v:=.ref _) rfl) rfl ⟨⟨⟨T.Ze,T.Ve⟩,T.vI⟩,trivial⟩))))))) (zu (Uy (sQ (S:=Rh) (fr:=false) RS (TWM.tm (V6 (ZE (ev 5)) (Ys (Wz (ZE (Je rfl T.z6 (ev 4) (zC rfl T.Qp (v:=.ref _) rfl) rfl ⟨⟨⟨T.Ze,T.Ve⟩,T.jL⟩,trivial⟩))))))) (yz (vB (hp (jF (za (jF (za (wq ZA) ze)) (za (KO KD) ze)))))) vA) (yz (vB (hp (jF (za (jF (za (wq ZA) (za (rO (ev 4) (fa ⟨T.Qr,T.Qs⟩ (fa ⟨T.Ze,T.Vf⟩ (fa ⟨T.Vg,T.Qt⟩ (fa ⟨T.XZ,T.Jj⟩ (fa ⟨T.Q_,T.Yu⟩ (fa ⟨T.Vh,T.Qu⟩ fz))))))) ze))) (za (KO KD) ze))))))))) (fa T.Xp fz) (fa ⟨T.UW,T.bc⟩ fz)) (yz (vB (Hh (yQ (hp (jF (za (wq ZA) ze))) (yQ (qu (pv 3)) WC)))))))
def gm(T:Txt K mg a):yW P w K mg base (Sj P w) 11 a.aq a.aA ["_law_roads","_law_table","_law_home","_law_blocks_here","_law_made"] (Ts (WW K a) 5 yN):=
 fF (ms:=WX) T.j8.F yI rfl rfl rfl λcdv A outer s H E hr=>
  (zu (Td 5 yI.nd (mG (c:=10) T.mJ (VA T) (rm hr) rfl T.dw T.WI zD (yQ (qu (pv 0)) (yQ (hf (wx rfl rfl T.Qq (za (ev 4) ze))) WC)) λU G xs G' e=>SS (·+1) ((kU (kU mw)) U G xs G' e))) (zu (Td 6 yI.nd (hp ei)) (zu (c7 (S:=Ri) (fr:=false) RL (zA ⟨rfl,rfl⟩) rfl (jZ (EM.en (zj (pv 3)))) (Kc (i:=7) yI.nd rfl (.inl rfl)) (zu (Co (S:=Ri) (fr':=false) (j:=8) RG ["_law_trip"] [none] [0] yI.nd rfl rfl rfl (by kernel_rfl) (Z1 (ev 7)) (λ_=>(vy (i:=0) (show List.Nodup (["_law_trip"]:List Str)from by decide +kernel) rfl (.inl rfl))) (λ_=>KU) λ_=>(ix hr (ev 0) ei)) (zu (Td 9 yI.nd (hp ei)) (zu (c7 (S:=Ri) (fr:=false) RD (zA ⟨rfl,rfl⟩) rfl (Z2 rfl T.vG (za (qc rfl T.j5 (za (ev 8) ze)) ze)) (Kc (i:=10) yI.nd rfl (.inl rfl)) (zu (Uy (sQ (S:=Ri) (fr:=false) Rx (fe hr.units (jf (fr:=false) (ws:=RW) (tab:=[(10,zr)]) (ev 5) (al ⟨_,_,_,_,T.z4,T.yL,y8 T,(rm hr),T.y3⟩) zD (za (ix hr (ev 8) (ev 10)) ze)) (ix hr (ev 4) (zE zF zG (ev 6) (ev 10))))) (yz (vB (hp (Y6 Y2)))) vA) (zu (Uy (sQ (S:=Ri) (fr:=false) Rw (TWM.tm (BV (qp cD cM (ev 10) ei (qv _)) (rj (Wz (ZE (ec (mL T) hr T.Vc zD (za (ev 5) (za (ix hr (ev 8) (zE ZC ZD (ev 10) ei)) (za (ix hr (ev 8) (ev 10)) ze)))))))))) (yz (vB (hp (Y6 Y2)))) vA) (yz (Td 9 yI.nd (hp (zE ZC ZD (zE zF zG (ev 9) (ix hr (ix hr (ev 4) (zE zF zG (ev 6) (ev 10))) ei)) (ix hr (ix hr (ev 4) (zE zF zG (ev 6) (ev 10))) ei)))))))) (zu (Uy (sQ (S:=Ri) (fr:=false) RA (fe hr.units (ev 9) (ec (bz T) hr T.kB zD (za (ev 1) (za (zj (pv 2)) (za (ev 8) ze)))))) (yz (vB (hp (Y6 Y2)))) vA) (yz (Td 6 yI.nd (hp (zE zF zG (ev 6) (qc rfl T.j5 (za (ev 8) ze))))))))))) (yz (vB (hp (rB hr.units (ev 6) (qc rfl T.j5 (za (ev 4) ze)))))))))
def Ig(T:Txt K mg a):yW P w K mg base (Sj P w) 12 a.IT a.IV ["_law_script"] (Ts (WW K a) 1 tT):=
 fF (ms:=CD) T.tK.F js rfl rfl rfl λcdv A outer s H E hr=>
  (zu (Td 1 js.nd (hp (ix hr (FM.em (wt (za ei (za ei (za ei ze))))) (ec (zB T) hr T.zx zD (za (ev 0) (za (EM.weak ei) (za (EM.weak ei) ze))))))) (zu (Co (S:=Rj) (fr':=false) (j:=2) [true] ["_law_k","_law_script"] [none,some 0] [0,0] js.nd rfl rfl rfl (by kernel_rfl) (Z2 rfl T.vG (za (zE zF zG ei (ec (zB T) hr T.zx zD (za (ev 0) (za (EM.weak ei) (za (EM.weak ei) ze))))) ze)) (λ_=>(vy (i:=0) (show List.Nodup (["_law_k","_law_script"]:List Str)from by decide +kernel) rfl (.inl rfl))) (λ_=>KU) λ_=>(ec (b8 T) hr T.ZN BQ (za (ev 1) (za (EM.weak ei) (za (ev 0) ze))))) (zu (Td 3 js.nd (hp (FM.em (wU (oA T) (rm hr) rfl T.vt.g T.vt.k T.vt.b zD (za (ev 0) (za (ev 2) (za (ev 1) (za (EM.weak (Y6 Y2)) ze)))))))) (zu (Td 4 js.nd (hp (FM.em (wU (dM T) (rm hr) rfl T.qJ.g T.qJ.k T.qJ.b zD (za (ev 2) (za (ev 3) ze)))))) (zu (Td 5 js.nd (hp (ec (iS T) hr T.Ye zD (za (ev 0) (za (FM.em (wU (iT T) (rm hr) rfl T.j7.g T.j7.k T.j7.b zD (za (ev 0) (za (ev 2) (za (ev 4) (za (ev 1) (za (EM.weak (ec (zB T) hr T.zx zD (za (ev 0) (za (EM.weak ei) (za (EM.weak ei) ze))))) ze))))))) (za (ev 1) ze)))))) (zu (Td 6 js.nd (hp (FM.em (DO (c:=11) T.AO (gj T) (rm hr) rfl T.iO T.fU zD (za (EM.weak (FM.em (wx rfl rfl T.Qq (za (ev 2) ze)))) (za (EM.weak (FM.em (wx rfl rfl T.Qq (za (ev 3) ze)))) ze)))))) (zu (Td 7 js.nd (mG (c:=10) T.mJ (VA T) (rm hr) rfl T.dw T.WI zD (yQ (qu (pv 6)) (yQ (hf (wx rfl rfl T.Qq (za (ev 5) ze))) WC)) λU G xs G' e=>SS (·+1) ((kU (kU mw)) U G xs G' e))) (zu (Td 8 js.nd (hp (ix hr (ev 2) (ec (zB T) hr T.zx zD (za (ev 0) (za (EM.weak ei) (za (EM.weak (qc rfl T.j5 (za (ev 2) ze))) ze))))))) (zu (Td 9 js.nd (hp (rK (fr:=false) (Eg (ws:=RK) (dP T) rfl) (rm hr) rfl T.ju.g T.ju.k T.ju.b zD (za (ev 0) (za (ev 5) ze))))) (zu (MM (S:=Rj) (fr':=false) (j:=10) Rq ["_law_block"] [none] [0] js.nd rfl rfl rfl (by kernel_rfl) (Z1 (ev 9)) (λ_=>(vy (i:=0) (show List.Nodup (["_law_block"]:List Str)from by decide +kernel) rfl (.inl rfl))) (λ_=>KU) (λ_=>(FM.em (n6 ["_law_trip"] [none] [0] rfl (by kernel_rfl) (Z1 (ev 0)) (λ_=>(vy (i:=0) (show List.Nodup (["_law_trip"]:List Str)from by decide +kernel) rfl (by first|exact .inl rfl|exact .inr rfl))) (λ_=>KU) λ_=>(ix hr (ev 0) ei))))) (zu (Td 11 js.nd (hp (ec (gd T) hr T.wD zD (za (ev 9) ze)))) (zu (Uy (sQ (S:=Rj) (fr:=false) [true] (rC hr.units (ec (zB T) hr T.zx zD (za (ev 0) (za (EM.weak ei) (za (EM.weak ei) ze)))) ei)) (zu (fL (qu (pv 10)) (yQ (hp (ec (zB T) hr T.zx zD (za (ev 0) (za (EM.weak ei) (za (EM.weak (zE zF zG (qc rfl T.j5 (za (ev 10) ze)) ei)) ze))))) (yQ (hp (FM.em (wt (za (wq ZA) ze)))) WC))) (yz (Td 11 js.nd (hp (jF (za (wq ZA) (za (wq ZA) ze))))))) vA) (zu (HK (S:=[1,1,1,1,1,1,1,1,1,1,1,1,1,1,1,1,1,1]) (fr':=false) (j:=12) Rt ["_law_names"] [none] [0] js.nd rfl rfl rfl (by kernel_rfl) (Z1 (ev 10)) (λ_=>(vy (i:=0) (show List.Nodup (["_law_names"]:List Str)from by decide +kernel) rfl (.inl rfl))) (λ_=>KU) λ_=>(FM.em (wx rfl rfl T.Qq (za (ev 0) ze)))) (zu (Hw (sS (gk T) (rm hr) rfl T.j6.g T.j6.k T.j6.b zD (yQ (qu (pv 7)) (yQ (qu (pv 8)) (yQ (qu (pv 12)) WC))) (kU (kU (kU mw)))) (Hv (n:=2) rfl (my (Kc (i:=13) js.nd rfl (.inl rfl)) (my (Kc (i:=14) js.nd rfl (.inl rfl)) Ec)))) (zu (Uy (sQ (S:=Rj) (fr:=false) Ru (TWM.tm (V6 (fe hr.units (ev 13) (ev 11)) (Ys (fe hr.units (ev 12) (ev 10)))))) (yz (vB (hp (Y6 Y2)))) vA) (zu (Uy (sQ (S:=Rj) (fr:=false) RB (fe hr.units (ev 13) (jF (za (wq ZA) ze)))) (yz (vB (hp (Y6 Y2)))) vA) (zu (Td 11 js.nd (hp (FM.em (wU (U8 T) (rm hr) rfl T.qf.g T.qf.k T.qf.b zD (za (ev 4) (za (zj (pv 8)) (za (ev 9) ze))))))) (zu (Uy (sQ (S:=Rj) (fr:=false) Rz (Wz (ZE (ec (iR T) hr T.Yg zD (za (ev 14) (za (ev 11) ze)))))) (yz (vB (hp (Y6 Y2)))) vA) (zu (Td 15 js.nd (hp (rB hr.units (FM.em (n6 ["_law_leg"] [none] [0] rfl (by kernel_rfl) (Z1 (ev 11)) (λ_=>(vy (i:=0) (show List.Nodup (["_law_leg"]:List Str)from by decide +kernel) rfl (.inl rfl))) (λ_=>(G7 (TWM.tm (V6 (qp er fb (ix hr (ev 0) ei) ei (qv _)) (Ys (qp cD cM (ix hr (ev 0) ei) (zE BC rh ei ei) (qv _))))))) λ_=>(zj (pv 0)))) (FM.em (wt ze))))) (zu (Uy (HTW.tm (Hi (sQ (S:=Rj) (fr:=false) Rp (ZE (ev 15))) (Ea (Hj (Hk (sS (gm T) (rm hr) rfl T.j8.g T.j8.k T.j8.b zD (yQ (qu (pv 6)) (yQ (qu (pv 7)) (yQ (qu (pv 8)) (yQ (qu (pv 9)) (yQ (qu (pv 14)) WC))))) (kU (kU (kU (kU (kU mw))))))))))) (yz (vB (hp (Y6 Y2)))) vA) (zu (Ap (qu (pv 12))) (zu (Td 16 js.nd (hp (ix hr (ev 2) (ec (zB T) hr T.zx zD (za (ev 0) (za (EM.weak ei) (za (EM.weak (qc rfl T.j5 (za (ev 2) ze))) ze))))))) (zu (Uy (sQ (S:=Rj) (fr:=false) Rv (fe hr.units (FM.em (wU (tV T) (rm hr) rfl T.Yt.g T.Yt.k T.Yt.b zD (za (ev 7) (za (zj (pv 16)) (za (ev 10) ze))))) (FM.em (wU (U8 T) (rm hr) rfl T.qf.g T.qf.k T.qf.b zD (za (ev 4) (za (zj (pv 16)) (za (ev 9) ze))))))) (yz (vB (hp (Y6 Y2)))) vA) (zu (Td 17 js.nd (hf (wU (tV T) (rm hr) rfl T.Yt.g T.Yt.k T.Yt.b zD (za (ev 7) (za (zj (pv 8)) (za (EM.weak (cQ (ev 10) cO (cP ei))) ze)))))) (yz (vB (hp (BW (rB hr.units (ev 17) (FM.em (wU (U8 T) (rm hr) rfl T.qf.g T.qf.k T.qf.b zD (za (ev 4) (za (zj (pv 8)) (za (EM.weak (cQ (ev 9) cO (cP ei))) ze)))))) (rl (rB hr.units (ev 14) (ev 11)))))))))))))))))))))))))))))))
def zo(ha:a U=.ok x)(hb:b U=.ok y)(h:f x y=.ok z):Se f a b U=.ok z:=by unfold Se;rw[ha,SE,hb,SE,h]
def zz(h:ms U=.ok xs)(h2:f xs=.ok x):zg f ms U=.ok x:=by unfold zg;rw[h,SE,h2]
def zp(ha:a U=.ok x)(h:ms U=.ok xs):zb a ms U=.ok (x::xs):=by unfold zb;rw[ha,SE,h,SE]
def tW(h:ms U=.ok xs)(hl:xs.length<=sizeLine):KA ms U=.ok (.l xs):=by unfold KA;rw[h,SE,if_pos hl]
def AU(ha:a U=.ok (.i x))(hn:0<n):Se KP a (mC (.i n)) U=.ok (.i (x % n)):=zo ha rfl (fm hn)
def M7(ha:a U=.ok (.i x))(hn:0<n)(h2:n<1073741824):Se nY a (mC (.i n)) U=.ok (.i (x / n)):=zo ha rfl (B4 hn h2)
def tX(ha:a U=.ok (.i x)):zW (Se (qE false) a (mC (.i n))) U=.ok (decide (x=n)):=by unfold zW;rw[zo (z:=.b (decide (x=n))) ha rfl (sF.trans (by rw[ϑ]))];rfl
def VC(ha:a U=.ok (.i x)):zW (Se TU a (mC (.i n))) U=.ok (decide (x>n)):=by unfold zW;rw[zo (z:=.b (decide (x>n))) ha rfl rfl];rfl
def CF(ha:a U=.ok x)(hb:b U=.ok y):BU a b U=.ok (x&&y):=by
 unfold BU;rw[ha,SE];cases x
 .rfl
 .rw[if_pos rfl,hb];rfl
def yX(h:c U=.ok x):Sy c a b U=if x=true then a U else b U:=by unfold Sy;rw[h,SE]
def VD(h:m U=.ok x):Z0 m U=.ok (.rt x):=by unfold Z0;rw[h,SE]
def tY(ha:a U=.ok (.i x)):zW (Se ζ a (mC (.i n))) U=.ok (decide (x<n)):=by unfold zW;rw[zo (z:=.b (decide (x<n))) ha rfl rfl];rfl
def yh(h:m U=.ok (.b b)):zW m U=.ok b:=by unfold zW;rw[h];rfl
def dR(ha:a U=.ok x)(hb:b U=.ok y):Te a b U=.ok (x||y):=by
 unfold Te;rw[ha,SE];cases x
 .rw[if_neg P5,hb];rfl
 .rfl
def tZ(ha:a U=.ok x):iu a U=.ok (!x):=by unfold iu;rw[ha,SE]
def t4(ha:a U=.ok (.b x))(hb:b U=.ok (.b y)):fc a b U=.ok (.b (x&&y)):=by
 unfold fc;rw[ha,SE];show(Out.ok x).bind _=_;rw[SE];cases x
 .rfl
 .rw[if_pos rfl,hb];rfl
def sz5{z:Str}(h:z.length<=100000):z.length<=sizeLine:=S6 h (by decide)
def signs_at(h:m U=.ok (.s z)):fG m U=.ok (z.cps.toList.map λc=>PV.s ⟨#[c]⟩):=by unfold fG;rw[h,SE];rfl
def Y0(h:ms U=.ok xs)(hl:xs.length<=sizeLine):V5 ms U=.ok (.t xs):=by unfold V5;rw[h,SE,if_pos hl]
def EG(ha:a U=.ok false):BU a b U=.ok false:=by unfold BU;rw[ha,SE];rfl
def zw(h:p U G=.nx U' G')(h2:q U' G'=o):yF p q U G=o:=by unfold yF;rw[h];exact h2
def iV(h:p U G=.rt x G'):yF p q U G=.rt x G':=by unfold yF;rw[h]
def Xt(h:c U G=.ok false G'):TX c p q U G=q U G':=by unfold TX;rw[h];rfl
def EH(h:c U G=.ok true G'):TX c p q U G=p U G':=by unfold TX;rw[h];rfl
def b9(h0:KZ bs U=some r)(h2:m r=.ok b):Tf bs m U G=.ok b G:=by unfold Tf;rw[h0];dsimp only;rw[h2]
def Wk(h0:KZ bs U=none)(h1:Jc G bs U=some r)(h2:m r=.ok b):Tf bs m U G=.ok b G:=by unfold Tf;rw[h0,h1];dsimp only;rw[h2]
def aO(h0:KZ bs U=some r)(h2:m r=.ok x):hP bs m U G=.ok (.v x) G:=by unfold hP;rw[h0];dsimp only;rw[h2]
def z5(h:m U G=.ok x G'):qF i m U G=.nx (U.set i (some x)) G':=by unfold qF;rw[h];rfl
def Wl(h:m U G=.ok x G'):Q6 m U G=.rt x G':=by unfold Q6;rw[h];rfl
def gp:Jc G bs []=some []:=by cases bs<;>rfl
def ZT(h:Jc G [] U=some r):Jc G [] (a::U)=some (none::r):=by show(Jc G [] U).map _=_;rw[h];rfl
def yi(h:Jc G bs U=some r):Jc G (false::bs) (a::U)=some (none::r):=by show(Jc G bs U).map _=_;rw[h];rfl
def kO(hx:jH G 8 x=some y)(h:Jc G bs U=some r):Jc G (true::bs) (some x::U)=some (some y::r):=by show(jH G 8 x).bind _=_;rw[hx,h];rfl
def NX(h:a.length+b.length<=n)(hn:n<=100000):zU (.s a) (.s b)=.ok (.s (a++b)):=by have:a.length+b.length<=sizeLine:=S6 (S6 h hn) (by decide);unfold zU;simp only[this,if_true]
def oB(h0:0<=i)(h1:i<xs.length):Sg (.l xs) (.i i)=.ok (xs[i.toNat]'(by omega)):=by rw[DZ,sD h0,P1 (by omega)];rfl
def KI{xs:OP}{i:Int}(h0:0<=i)(h1:i<xs.length):∃y∈xs,Sg (.l (xs.map .s)) (.i i)=.ok (.s y):=
 ⟨xs[i.toNat]'(by omega),Β _,by rw[oB h0 (by rw[u8];exact h1),Ϭ]⟩
def Ih{xs:Pn}{i:Int}(h0:0<=i)(h1:i<xs.length):∃y∈xs,Sg (.l (xs.map .i)) (.i i)=.ok (.i y):=
 ⟨xs[i.toNat]'(by omega),Β _,by rw[oB h0 (by rw[u8];exact h1),Ϭ]⟩
def any_map{κ α β:Type}[DecidableEq κ]{f:α->β}{kvs:List (κ×α)}{k:κ}:(kvs.map λp=>(p.1,f p.2)).any (λkv=>decide (kv.1=k))=kvs.any (λkv=>decide (kv.1=k)):=by rw[List.any_map];rfl
def mM{κ α β:Type}[DecidableEq κ]{f:α->β}{kvs:List (κ×α)}{k:κ}{x:α}:dput (kvs.map λp=>(p.1,f p.2)) k (f x)=(dput kvs k x).map λp=>(p.1,f p.2):=by
 unfold dput;rw[any_map];split
 .rw[γ,γ];refine a03 λp _=>?_;show(if p.1=k then(p.1,f x)else(p.1,f p.2))=((if p.1=k then(p.1,x)else p).1,f (if p.1=k then(p.1,x)else p).2);split<;>rfl
 .rw[R7];rfl
def gq{κ α β:Type}[DecidableEq κ]{f:α->β}:∀{kvs:List (κ×α)}{k:κ},zM (kvs.map λp=>(p.1,f p.2)) k=(zM kvs k).map f
 |[],_=>rfl
 | (j,u)::kvs,k=>by rw[O6,ye,ye,gq];split<;>rfl
abbrev Wy:=Str×Str×Int
abbrev Ht:=List (Key×Int)
abbrev sk(z:Str):Key:=Sum.inr z
def wP(w:Wy):PV:=.t [.s w.1,.s w.2.1,.i w.2.2]
def hD(h:Ht):List (Key×PV):=h.map λp=>(p.1,.i p.2)
def t5:zM (hD h) k=(zM h k).map .i:=gq
def Ii:dput (hD h) k (.i v)=hD (dput h k v):=mM
def Ij:(hD h).length=h.length:=u8 _
def Tj(u:Ht×Bool)(w:Wy):Ht×Bool:=
 match zM u.1 (sk w.1)with
 |none=>u
 |some x=>match zM u.1 (sk w.2.1)with
  |none=>(dput u.1 (sk w.2.1) (x+w.2.2),true)
  |some y=>if x+w.2.2<y then(dput u.1 (sk w.2.1) (x+w.2.2),true)else u
def EI(h:Ht):Nat:=(h.map λp=>p.2.toNat).sum
def Sup(V:List Wy)(o:Str)(h:Ht):Prop:=∀g y,zM h g=some y->g=sk o\/∃w∈V,sk w.2.1=g/\∃x,zM h (sk w.1)=some x/\x+w.2.2<=y
structure oC(V:List Wy)(K:PM)(o:Str)(h:Ht):Prop where
 sup:Sup V o h
 nd:(h.map (·.1)).Nodup
 sub:∀k∈h.map (·.1),k∈K
 pos:∀k x,zM h k=some x->0<=x
 own:zM h (sk o)=some 0
def X5(h:Ht)(w:Wy):Prop:=∀x,zM h (sk w.1)=some x->∃y,zM h (sk w.2.1)=some y/\y<=x+w.2.2
def EJ(K:PM)(h' h:Ht):Prop:=Prod.Lex (·<·) (·<·) (K.length-h'.length,EI h') (K.length-h.length,EI h)
def U_{κ:Type}[DecidableEq κ]:∀{a b:List κ},a.Nodup->(∀x∈a,x∈b)->a.length<=b.length
 |[],b,_,_=>Tx _
 |x::a,b,nd,h=>by have hx:=h x O0;obtain⟨h1,h2⟩:=ϊ.mp nd;have:=U_ (a:=a) (b:=b.erase x) h2 λy hy=>(List.mem_erase_of_ne (show y≠x from λe=>h1 (e▸hy))).mpr (h y (O4 _ hy));rw[List.length_erase_of_mem hx]at this;have hb:0<b.length:=List.length_pos_of_mem hx;rw[v0];omega
def oC.len{V:List Wy}{K:PM}{o:Str}{h:Ht}(i:oC V K o h):h.length<=K.length:=by
 have:=U_ i.nd i.sub
 rwa [u8]at this
def t6{k:Key}{v:Int}:∀{h:Ht}{y:Int},(h.map (·.1)).Nodup->zM h k=some y->v.toNat<y.toNat->EI (h.map λkv=>if kv.1=k then(kv.1,v)else kv)<EI h
 |[],y,_,e,_=>by cases e
 | (j,x)::h,y,nd,e,hv=>by
  rw[ye]at e;obtain⟨n1,n2⟩:=ϊ.mp nd;by_cases c:j=k
  .subst c;rw[if_pos rfl]at e;cases e;have:(h.map λkv=>if kv.1=j then(kv.1,v)else kv)=h:=by
    conv=>rhs;rw[<- List.map_id h]
    refine a03 λp hp=>?_;rw[if_neg (show ¬p.1=j from λz=>n1 (T7.mpr ⟨p,hp,z⟩))];rfl
   unfold EI;rw[O6,this,if_pos rfl,O6,O6,a14,a14];exact Nat.add_lt_add_right hv _
  .rw[if_neg c]at e;have:=t6 n2 e hv;unfold EI at this ⊢;rw[O6,if_neg c,O6,O6,a14,a14];exact Nat.add_lt_add_left this _
def Sup.put{V:List Wy}{o:Str}{h:Ht}{w:Wy}{x:Int}(i:Sup V o h)(hw:w∈V)(hm:1<=w.2.2)(e1:zM h (sk w.1)=some x)(e2:∀y,zM h (sk w.2.1)=some y->x+w.2.2<y):Sup V o (dput h (sk w.2.1) (x+w.2.2)):=by
 have ne:¬sk w.2.1=sk w.1:=λc=>by rw[<- c]at e1;have:=e2 x e1;omega
 intro g y e;rw[wy]at e;split at e
 .rename_i c;cases e;refine .inr ⟨w,hw,c,x,?_,Γ _⟩;rw[wy,if_neg ne];exact e1
 .rcases i g y e with r|⟨w',hw',eg,x',ex,le⟩
  .exact .inl r
  .refine .inr ⟨w',hw',eg,?_⟩;rw[wy];split
   .rename_i c;rw[<- c]at ex;have:=e2 x' ex;exact⟨_,rfl,by omega⟩
   .exact⟨x',ex,le⟩
def CG{V:List Wy}{K:PM}{o:Str}{u:Ht×Bool}{w:Wy}(i:oC V K o u.1)(hv:w∈V)(hg:sk w.2.1∈K)(hm:1<=w.2.2):oC V K o (Tj u w).1/\((Tj u w=u/\X5 u.1 w)\/((Tj u w).2=true/\EJ K (Tj u w).1 u.1)):=by
 unfold Tj;cases e1:zM u.1 (sk w.1)with
 |none=>exact⟨i,.inl ⟨rfl,λx e=>by rw[e1]at e;cases e⟩⟩
 |some x=>
  have x0:=i.pos _ _ e1;dsimp only;cases e2:zM u.1 (sk w.2.1)with
  |none=>
   have i2:oC V K o (dput u.1 (sk w.2.1) (x+w.2.2)):=by
    refine⟨i.sup.put hv hm e1 (λy e=>by rw[e2]at e;cases e),bZ i.nd,λk hk=>?_,λk y e=>?_,?_⟩
    .rw[K7,e2]at hk;rcases T8.mp hk with hk|hk
     .exact i.sub k hk
     .rw[R9.mp hk];exact hg
    .rw[wy]at e;split at e
     .cases e;omega
     .exact i.pos k y e
    .rw[wy];split
     .rename_i z;rw[z]at e2;rw[i.own]at e2;cases e2
     .exact i.own
   refine⟨i2,.inr ⟨rfl,.left _ _ ?_⟩⟩;have hl:=i2.len;have:(dput u.1 (sk w.2.1) (x+w.2.2)).length=u.1.length+1:=by have:=SS List.length (K7 (a:=u.1) (k:=sk w.2.1) (v:=x+w.2.2));rw[e2,u8]at this;rw[this];simp
   dsimp only at hl ⊢;omega
  |some y=>
   dsimp only;by_cases c:x+w.2.2<y
   .rw[if_pos c];have hk:(zM u.1 (sk w.2.1)).isSome=true:=by rw[e2];rfl
    have i2:oC V K o (dput u.1 (sk w.2.1) (x+w.2.2)):=by
     refine⟨i.sup.put hv hm e1 (λz e=>by rw[e2]at e;cases e;exact c),bZ i.nd,λk hk2=>?_,λk z e=>?_,?_⟩
     .rw[K7,if_pos hk]at hk2;exact i.sub k hk2
     .rw[wy]at e;split at e
      .cases e;omega
      .exact i.pos k z e
     .rw[wy];split
      .rename_i z;rw[z,i.own]at e2;cases e2;omega
      .exact i.own
    refine⟨i2,.inr ⟨rfl,?_⟩⟩;have e3:dput u.1 (sk w.2.1) (x+w.2.2)=u.1.map λkv=>if kv.1=sk w.2.1 then(kv.1,x+w.2.2)else kv:=by unfold dput;rw[ko,if_pos hk]
    have hs:=t6 (v:=x+w.2.2) i.nd e2 (by omega);unfold EJ;dsimp only;rw[e3,u8];exact .right _ hs
   .rw[if_neg c];exact⟨i,.inl ⟨rfl,λz e=>by rw[e1]at e;cases e;exact⟨y,e2,by omega⟩⟩⟩
def oE(h1:EJ K a b)(h2:EJ K b c):EJ K a c:=by unfold EJ at *;rw[Prod.lex_def]at *;dsimp only at *;omega
def mN{V:List Wy}{K:PM}{o:Str}:∀{W:List Wy}{u:Ht×Bool},oC V K o u.1->(∀w∈W,w∈V/\sk w.2.1∈K/\1<=w.2.2)->oC V K o (W.foldl Tj u).1/\((W.foldl Tj u=u/\∀w∈W,X5 u.1 w)\/((W.foldl Tj u).2=true/\EJ K (W.foldl Tj u).1 u.1))
 |[],u,i,_=>⟨i,.inl ⟨rfl,λw h=>by cases h⟩⟩
 |w::W,u,i,hW=>by
  obtain⟨v,g,m⟩:=hW w O0;obtain⟨i1,h1⟩:=CG (u:=u) (w:=w) i v g m;obtain⟨i2,h2⟩:=mN (W:=W) (u:=Tj u w) i1 λw' h=>hW w' (O4 _ h);refine⟨i2,?_⟩;rw[a08];rcases h1 with⟨e1,c1⟩|⟨t1,l1⟩
  .rw[e1]at h2 ⊢;rcases h2 with⟨e2,c2⟩|h2
   .refine .inl ⟨e2,λw' h=>?_⟩;rcases P9.mp h with rfl|h
    .exact c1
    .exact c2 w' h
   .exact .inr h2
  .rcases h2 with⟨e2,c2⟩|⟨t2,l2⟩
   .rw[e2];exact .inr ⟨t1,l1⟩
   .exact .inr ⟨t2,oE l2 l1⟩
def EK(r:PZ):Prop:=∃a b c d,r=[a,b,c,d]
abbrev Θ(o:Str)(W:List Wy)(h:Ht)(b:Bool)(r:PZ):So:=[some (.s o),some (.l (W.map wP)),some (.d (hD h)),some (.b b)]++r
def t7(ha:a U=.ok (.s z))(hi:zc i U=.ok (.d (hD h))):zW (Se (TN n) a (zc i)) U=.ok (xor n (zM h (sk z)).isSome):=by refine yh (zo ha hi ?_);show Out.ok (PV.b (xor n (zM (hD h) (sk z)).isSome))=_;rw[t5,a1e]
def CH(ha:a U=.ok (.s z))(hi:zc i U=.ok (.d (hD h)))(hx:zM h (sk z)=some x):Se Sg (zc i) a U=.ok (.i x):=by refine zo hi ha ?_;show ZS (zM (hD h) (sk z))=_;rw[t5,hx];rfl
def CJ(ha:a U=.ok true):Te a b U=.ok true:=by unfold Te;rw[ha,SE];rfl
def EL{o:Str}{W:List Wy}{h:Ht}{b:Bool}{w:Wy}{a7:Pu}(hl:h.length<100000):∃a7',qX [some (.s o),some (.l (W.map wP)),some (.d (hD h)),some (.b b),some (.s w.1),some (.s w.2.1),some (.i w.2.2),a7]=.ok (.nx [some (.s o),some (.l (W.map wP)),some (.d (hD (Tj (h,b) w).1)),some (.b (Tj (h,b) w).2),some (.s w.1),some (.s w.2.1),some (.i w.2.2),a7']):=by
 have e1:=yX (U:=[some (.s o),some (.l (W.map wP)),some (.d (hD h)),some (.b b),some (.s w.1),some (.s w.2.1),some (.i w.2.2),a7]) (a:=zX (qb 7 (Se zU (Se Sg (zc 2) (zc 4)) (zc 6))) (Sy (Te (zW (Se (TN true) (zc 5) (zc 2))) (zW (Se ζ (zc 7) (Se Sg (zc 2) (zc 5))))) (zX (B2 2 (zc 5) (zc 7)) (qb 3 (mC (.b true)))) yH)) (b:=yH) (t7 (n:=false) (a:=zc 4) (i:=2) rfl rfl);unfold Tj;dsimp only;cases c1:zM h (sk w.1)with
 |none=>rw[c1]at e1;exact⟨a7,e1⟩
 |some x=>
  rw[c1]at e1;have put:∀{U:So},U=[some (.s o),some (.l (W.map wP)),some (.d (hD h)),some (.b b),some (.s w.1),some (.s w.2.1),some (.i w.2.2),some (.i (x+w.2.2))]->zX (B2 2 (zc 5) (zc 7)) (qb 3 (mC (.b true))) U=.ok (.nx [some (.s o),some (.l (W.map wP)),some (.d (hD (dput h (sk w.2.1) (x+w.2.2)))),some (.b true),some (.s w.1),some (.s w.2.1),some (.i w.2.2),some (.i (x+w.2.2))]):=λ{U} hρ=>by subst hρ;refine zd ⟨[some (.s o),some (.l (W.map wP)),some (.d (hD (dput h (sk w.2.1) (x+w.2.2)))),some (.b true),some (.s w.1),some (.s w.2.1),some (.i w.2.2),some (.i (x+w.2.2))].set 3 (some (.b b)),?_,rfl⟩;show(if(hD h).length<sizeLine then Out.ok (Fw.nx [some (.s o),some (.l (W.map wP)),some (.d (dput (hD h) (sk w.2.1) (.i (x+w.2.2)))),some (.b b),some (.s w.1),some (.s w.2.1),some (.i w.2.2),some (.i (x+w.2.2))])else .wall)=_;rw[if_pos (by rw[Ij];exact P4 hl (by decide)),Ii];rfl
  have s7:qb 7 (Se zU (Se Sg (zc 2) (zc 4)) (zc 6)) [some (.s o),some (.l (W.map wP)),some (.d (hD h)),some (.b b),some (.s w.1),some (.s w.2.1),some (.i w.2.2),a7]=.ok (.nx [some (.s o),some (.l (W.map wP)),some (.d (hD h)),some (.b b),some (.s w.1),some (.s w.2.1),some (.i w.2.2),some (.i (x+w.2.2))]):=yy (zo (CH rfl rfl c1) rfl rfl);refine⟨some (.i (x+w.2.2)),e1.trans ?_⟩;show zX _ _ _=_;refine zd ⟨_,s7,?_⟩;cases c2:zM h (sk w.2.1)with
  |none=>refine(yX (CJ ((t7 (n:=true) (a:=zc 5) (i:=2) rfl rfl).trans (by rw[c2];rfl)))).trans ?_;exact put rfl
  |some y=>
   dsimp only;have t:=yX (U:=[some (.s o),some (.l (W.map wP)),some (.d (hD h)),some (.b b),some (.s w.1),some (.s w.2.1),some (.i w.2.2),some (.i (x+w.2.2))]) (a:=zX (B2 2 (zc 5) (zc 7)) (qb 3 (mC (.b true)))) (b:=yH) (dR (x:=false) ((t7 (n:=true) (a:=zc 5) (i:=2) rfl rfl).trans (by rw[c2];rfl)) (yh (m:=Se ζ (zc 7) (Se Sg (zc 2) (zc 5))) (b:=decide (x+w.2.2<y)) (zo rfl (CH rfl rfl c2) rfl)));refine t.trans ?_;by_cases c:x+w.2.2<y
   .rw[if_pos c,O9 c];exact put rfl
   .rw[if_neg c,O8 c];rfl
def mO{K:PM}{o:Str}{W:List Wy}(hK:K.length<=1000)(hW:∀w∈W,sk w.2.1∈K/\1<=w.2.2):∀{V:List Wy}{u:Ht×Bool}{r:PZ},(∀w∈V,w∈W)->oC W K o u.1->EK r->∃r',EK r'/\wj Yw qX (V.map wP) (Θ o W u.1 u.2 r)=.ok (.nx (Θ o W (V.foldl Tj u).1 (V.foldl Tj u).2 r'))
 |[],u,r,_,_,hr=>⟨r,hr,rfl⟩
 |w::V,u,r,hV,i,hr=>by obtain⟨a4,a5,a6,a7,rfl⟩:=hr;obtain⟨a7',e⟩:=EL (o:=o) (W:=W) (h:=u.1) (b:=u.2) (w:=w) (a7:=a7) (Ϯ (S6 i.len hK) (by decide));obtain⟨g,m⟩:=hW w (hV w O0);obtain⟨i1,_⟩:=CG (u:=u) (w:=w) i (hV w O0) g m;obtain⟨r',hr',e2⟩:=mO hK hW (V:=V) (u:=Tj u w) (r:=[some (.s w.1),some (.s w.2.1),some (.i w.2.2),a7']) (λw' h=>hV w' (O4 _ h)) i1 ⟨_,_,_,_,rfl⟩;refine⟨r',hr',?_⟩;rw[a08,<- e2];show(qX [some (.s o),some (.l (W.map wP)),some (.d (hD u.1)),some (.b u.2),some (.s w.1),some (.s w.2.1),some (.i w.2.2),a7]).bind _=_;rw[e];rfl
def CK(hK:K.length<=1000)(hW:∀w∈W,sk w.2.1∈K/\1<=w.2.2)(h:Ht)(i:oC W K o h)(r:PZ)(hr:EK r):∃n h' r',oC W K o h'/\(∀w∈W,X5 h' w)/\jY qY yG n (Θ o W h true r)=.ok (.nx (Θ o W h' false r')):=by
 obtain⟨r1,hr1,e1⟩:=mO (o:=o) hK hW (V:=W) (u:=(h,false)) (λw h=>h) i hr;obtain⟨i1,c1⟩:=mN (W:=W) (u:=(h,false)) i λw h=>⟨h,hW w h⟩;have eb:yG (Θ o W h true r)=.ok (.nx (Θ o W (W.foldl Tj (h,false)).1 (W.foldl Tj (h,false)).2 r1)):=zd ⟨Θ o W h false r,rfl,yE (zK rfl) e1⟩;have one:∀{n o'},jY qY yG n (Θ o W (W.foldl Tj (h,false)).1 (W.foldl Tj (h,false)).2 r1)=o'->jY qY yG (n+1) (Θ o W h true r)=o':=λ{n o'} e=>by show(yG (Θ o W h true r)).bind _=_;rw[eb];exact e
 rcases c1 with⟨e2,cl⟩|⟨t2,less⟩
 .refine⟨2,h,r1,i,cl,one ?_⟩;rw[e2];rfl
 .obtain⟨n,h',r',i',cl,e⟩:=CK hK hW (W.foldl Tj (h,false)).1 i1 r1 hr1;refine⟨n+1,h',r',i',cl,one ?_⟩;rw[t2];exact e
termination_by (K.length-h.length,EI h)
decreasing_by exact less
def Jd(o:Str)(W:List Wy)(h:Ht):Prop:=oC W (sk o::W.map λw=>sk w.2.1) o h/\∀w∈W,X5 h w
def b_(hl:W.length<=100)(hm:∀w∈W,1<=w.2.2):∃h,Jd o W h/\yo [.s o,.l (W.map wP)]=.ok (.d (hD h)):=by
 have i0:oC W (sk o::W.map λw=>sk w.2.1) o [(sk o,0)]:=by
  refine⟨λg y e=>?_,ϊ.mpr ⟨by simp,List.nodup_nil⟩,λk hk=>?_,λk x e=>?_,?_⟩
  .rw[ye]at e;split at e
   .rename_i c;exact .inl c.symm
   .cases e
  .rw[R9.mp hk];exact O0
  .rw[ye]at e;split at e
   .cases e;exact Γ _
   .cases e
  .rw[ye,if_pos rfl]
 obtain⟨n,h',r',i',cl,e⟩:=CK (o:=o) (W:=W) (K:=sk o::W.map λw=>sk w.2.1) (by rw[v0,u8];omega) (λw hw=>⟨O4 _ (T7.mpr ⟨w,hw,rfl⟩),hm w hw⟩) [(sk o,0)] i0 [none,none,none,none] ⟨_,_,_,_,rfl⟩;refine⟨h',⟨i',cl⟩,zZ ?_⟩;exact zd ⟨_,rfl,zd ⟨Θ o W [(sk o,0)] true [none,none,none,none],rfl,zd ⟨_,sE e (by intro z;cases z),rfl⟩⟩⟩
abbrev signs:Str:="abcdefghijklmnopqrstuvwxyz0123456789"
def str_inj{a b a' b':Str}(hl:a.length=a'.length)(h:a++b=a'++b'):a=a'/\b=b':=by have h1:a.cps++b.cps=a'.cps++b'.cps:=SS Str.cps h;have:=Array.append_inj h1 hl;obtain⟨x⟩:=a;obtain⟨y⟩:=b;obtain⟨x'⟩:=a';obtain⟨y'⟩:=b';obtain⟨h1,h2⟩:=this;exact⟨SS Str.mk h1,SS Str.mk h2⟩
def Sgs(z:Str):Prop:=∀c∈z.cps.toList,c∈signs.cps.toList
def Sgs.app(ha:Sgs a)(hb:Sgs b):Sgs (a++b):=λc hc=>by have e:(a++b).cps.toList=a.cps.toList++b.cps.toList:=Array.toList_append;rw[e]at hc;exact(T8.mp hc).elim (ha c) (hb c)
def Nm(z:Str):Prop:=(1<=z.length/\z.length<=12)/\Sgs z
def nodup_range{α:Type}{f:Nat->α}(h:∀j k,j<n->k<n->f j=f k->j=k):((List.range n).map f).Nodup:=by rw[a15,List.pairwise_map];refine List.Pairwise.imp_of_mem ?_ (a15.mp List.nodup_range);intro a b ha hb hne e;exact hne (h a b (Λ.mp ha) (Λ.mp hb) e)
def WOk(N:OP)(W:List Wy):Prop:=∀w∈W,w.1∈N/\w.2.1∈N/\1<=w.2.2/\w.2.2<=1000000000
def qQ{α:Type}{f:α->PV}{xs:List α}:jC [.l (xs.map f)]=.ok (.i (xs.length:Int)):=by show Out.ok (PV.i ((xs.map f).length:Int))=_;rw[u8]
def EO{N:OP}{s:Int}(h:0<N.length):∃z∈N,Sg (.l (N.map .s)) (.i (s % (N.length:Int)))=.ok (.s z):=
 KI (a1P _ (by omega)) (a1s _ (by omega))
def VE{fr:Bool}{n:Nat}{ms:MS}{xs:Pe}{U:So}(hf:fr=false)(h:ms (xs.map some++List.replicate (n-xs.length) none)=.ok (.nx U)):ZH fr n ms xs=.ok .n:=by subst hf;unfold ZH;rw[h];rfl
def zO(h:m U=.ok x):jg m U=.ok (.nx U):=by unfold jg;rw[h];rfl
def iW{x:PV}{n:Int}{k:Nat}(h:jC [x]=.ok (.i (k:Int)))(hk:(k:Int)<=n):y6 [x,.i n]=.ok .n:=by refine VE rfl ((yX (x:=false) (yh (zo (zz (xs:=[x]) rfl h) rfl ?_))).trans (show _=Out.ok (Fw.nx [some x,some (.i n)])from rfl));show Out.ok (PV.b (decide ((k:Int)>n)))=_;rw[O8 (by omega)]
def t8(h:Nm z):qi [.s z]=.ok (.s z):=by
 obtain⟨⟨l1,l2⟩,hs⟩:=h;have hl:jC [.s z]=.ok (.i z.length):=G8 (sz5 (by omega));have loop:∀{cs:OS}{o:Pu},(∀c∈cs,c∈signs.cps.toList)->∃o',wj Yy qZ (cs.map λc=>PV.s ⟨#[c]⟩) [some (.s z),o]=.ok (.nx [some (.s z),o']):=by
  intro cs
  induction cs with
  |nil=>intro o _;exact⟨o,rfl⟩
  |cons c cs ih=>
   intro o hc;obtain⟨o',e⟩:=ih (o:=some (.s ⟨#[c]⟩)) λx hx=>hc x (O4 _ hx);refine⟨o',?_⟩;have eb:qZ [some (.s z),some (.s ⟨#[c]⟩)]=.ok (.nx [some (.s z),some (.s ⟨#[c]⟩)]):=by refine(yX (x:=false) (yh (zo (x:=.s ⟨#[c]⟩) (y:=.s signs) rfl rfl ?_))).trans rfl;show Out.ok (PV.b (xor true (!(Builtin.Str.occurrences signs ⟨#[c]⟩ 0 signs.length 1).isEmpty)))=_;rw[StrLaws.found_one,O9 (hc c O0)];rfl
   show(qZ [some (.s z),some (.s ⟨#[c]⟩)]).bind _=_;rw[eb];exact e
 obtain⟨o',e⟩:=loop (cs:=z.cps.toList) (o:=none) hs;refine zZ (zd ⟨_,(yX (dR (x:=false) (y:=false) ((tY (x:=(z.length:Int)) (zz (xs:=[.s z]) rfl hl)).trans (by rw[O8 (by omega)])) ((VC (x:=(z.length:Int)) (zz (xs:=[.s z]) rfl hl)).trans (by rw[O8 (by omega)])))).trans (show _=Out.ok (Fw.nx [some (.s z),none])from rfl),zd ⟨_,yE (signs_at rfl) e,rfl⟩⟩)
def ZU(P:OP):List (Key×PV):=P.map λz=>(sk z,.b true)
def X6(h:z∉P):zM (ZU P) (sk z)=none:=by
 cases e:zM (ZU P) (sk z)with
 |none=>rfl
 |some x=>have:=Q8 e;obtain⟨y,hy,e2⟩:=T7.mp this;cases e2;exact absurd hy h
def t9{N:OP}(nd:N.Nodup)(hN:∀z∈N,Nm z)(hl:N.length<=12):qj [.l (N.map .s)]=.ok .n:=by
 have loop:∀{R P:OP}{o:Pu},P++R=N->∃P' o',wj YA q_ (R.map .s) [some (.l (N.map .s)),some (.d (ZU P)),o]=.ok (.nx [some (.l (N.map .s)),some (.d (ZU P')),o']):=by
  intro R
  induction R with
  |nil=>intro P o _;exact⟨P,o,rfl⟩
  |cons z R ih=>
   intro P o e;obtain⟨P',o',e'⟩:=ih (P:=P++[z]) (o:=some (.s z)) (by rw[S0];exact e);refine⟨P',o',?_⟩;have hz:z∉P:=λh=>by rw[<- e]at nd;exact(a1f.mp nd).2.2 z h z O0 rfl
   have hm:z∈N:=by rw[<- e];exact R8 _ O0
   have hp:(ZU P).length<=12:=by have:=SS List.length e;rw[O1]at this;unfold ZU;rw[u8];omega
   have en:zS [.s z,.d (ZU P)]=.ok (.s z):=by refine zZ (zd ⟨_,zO (zz (xs:=[.s z]) rfl (t8 (hN z hm))),zd ⟨_,(yX (x:=false) (yh (zo (x:=.s z) (y:=.d (ZU P)) rfl rfl ?_))).trans (show _=Out.ok (Fw.nx [some (.s z),some (.d (ZU P))])from rfl),rfl⟩⟩);show Out.ok (PV.b (xor false (zM (ZU P) (sk z)).isSome))=_;rw[X6 hz];rfl
   have ed:dput (ZU P) (sk z) (.b true)=ZU (P++[z]):=by unfold dput;rw[ko,X6 hz];unfold ZU;rw[R7];rfl
   have eb:q_ [some (.l (N.map .s)),some (.d (ZU P)),some (.s z)]=.ok (.nx [some (.l (N.map .s)),some (.d (ZU (P++[z]))),some (.s z)]):=by refine zd ⟨_,zO (zz (xs:=[.s z,.d (ZU P)]) rfl en),?_⟩;show(if(ZU P).length<sizeLine then Out.ok (Fw.nx [some (.l (N.map .s)),some (.d (dput (ZU P) (sk z) (.b true))),some (.s z)])else .wall)=_;rw[if_pos (Ϯ hp (by decide)),ed]
   show(q_ [some (.l (N.map .s)),some (.d (ZU P)),some (.s z)]).bind _=_;rw[eb];exact e'
 obtain⟨P',o',e⟩:=loop (R:=N) (P:=[]) (o:=none) rfl;exact VE rfl (zd ⟨[some (.l (N.map .s)),some (.d (ZU [])),none],rfl,yE (zK rfl) e⟩)
def Ik{z:Str}:∀{N:OP},ϐ (.str z) (N.map .s)=some (decide (z∈N))
 |[]=>by rw[O8 (by simp)];rfl
 |y::N=>by
  show(match some (V.str y),ϐ (.str z) (N.map .s)with|some u,some b=>some (θ u (.str z)||b)|_,_=>none)=_;rw[Ik (N:=N)];show some ((y==z)||decide (z∈N))=_;congr 1;by_cases c:y=z
  .subst c;rw[a0Z,O9 O0];rfl
  .rw[Ν.mpr c,Bool.false_or];by_cases h:z∈N
   .rw[O9 h,O9 (O4 _ h)]
   .rw[O8 h,O8 λq=>(P9.mp q).elim (λe=>c e.symm) h]
def Il{z:Str}{N:OP}{n:Bool}:TN n (.s z) (.l (N.map .s))=.ok (.b (xor n (decide (z∈N)))):=by show ZS ((ϐ (.str z) (N.map .s)).map λb=>PV.b (xor n b))=_;rw[Ik];rfl
def kl{z:Str}{N:OP}(h:z∈N):z_ [.s z,.l (N.map .s)]=.ok .n:=
 VE rfl ((yX (x:=false) (yh (zo (x:=.s z) (y:=.l (N.map .s)) rfl rfl (Il.trans (by rw[O9 h];rfl))))).trans (show _=Out.ok (Fw.nx [some (.s z),some (.l (N.map .s))])from rfl))
def t_(h1:1<=m)(h2:m<=1000000000):zP [.i m,.i 1]=.ok (.i m):=by refine zZ (zd ⟨_,(yX (dR (x:=false) (y:=false) (yh (zo (x:=.i m) (y:=.i 1) rfl rfl ?_)) ((VC (x:=m) rfl).trans (by rw[O8 (by omega)])))).trans (show _=Out.ok (Fw.nx [some (.i m),some (.i 1)])from rfl),rfl⟩);show Out.ok (PV.b (decide (m<1)))=_;rw[O8 (by omega)]
def AV(h:WOk N W):jw [.l (N.map .s),.l (W.map wP)]=.ok .n:=by
 have loop:∀{V:List Wy}{a b c:Pu},(∀w∈V,w∈W)->∃a' b' c',wj Jq kC (V.map wP) [some (.l (N.map .s)),some (.l (W.map wP)),a,b,c]=.ok (.nx [some (.l (N.map .s)),some (.l (W.map wP)),a',b',c']):=by
  intro V
  induction V with
  |nil=>intro a b c _;exact⟨a,b,c,rfl⟩
  |cons w V ih=>
   intro a b c hV;obtain⟨h1,h2,h3,h4⟩:=h w (hV w O0);obtain⟨a',b',c',e⟩:=ih (a:=some (.s w.1)) (b:=some (.s w.2.1)) (c:=some (.i w.2.2)) λx hx=>hV x (O4 _ hx);refine⟨a',b',c',?_⟩;have eb:kC [some (.l (N.map .s)),some (.l (W.map wP)),some (.s w.1),some (.s w.2.1),some (.i w.2.2)]=.ok (.nx [some (.l (N.map .s)),some (.l (W.map wP)),some (.s w.1),some (.s w.2.1),some (.i w.2.2)]):=
    zd ⟨_,zO (zz (xs:=[.s w.1,.l (N.map .s)]) rfl (kl h1)),zd ⟨_,zO (zz (xs:=[.s w.2.1,.l (N.map .s)]) rfl (kl h2)),zO (zz (xs:=[.i w.2.2,.i 1]) rfl (t_ h3 h4))⟩⟩
   show(kC [some (.l (N.map .s)),some (.l (W.map wP)),some (.s w.1),some (.s w.2.1),some (.i w.2.2)]).bind _=_;rw[eb];exact e
 obtain⟨a',b',c',e⟩:=loop (V:=W) (a:=none) (b:=none) (c:=none) λw h=>h;exact VE rfl (yE (zK rfl) e)
def iX(N:OP)(F:Str->Ht):List (Key×PV):=N.map λz=>(sk z,.d (hD (F z)))
def Sh(N:OP)(W:List Wy)(F:Str->Ht):PV:=.o 11 [("places",.l (N.map .s)),("ways",.l (W.map wP)),("lengths",.d (iX N F))]
def AW:∀{acc:Ph},((acc++es).map (·.1)).Nodup->es.foldl (λacc kv=>dput acc kv.1 kv.2) acc=acc++es:=by
 induction es with
 |nil=>intro acc _;rw[P7];rfl
 |cons e es ih=>
  intro acc nd;have hn:zM acc e.1=none:=by
   cases h:zM acc e.1 with
   |none=>rfl
   |some x=>have hm:e.1∈acc.map (·.1):=T7.mpr ⟨_,Q8 h,rfl⟩;rw[R7,O6]at nd;exact absurd rfl ((a1f.mp nd).2.2 e.1 hm e.1 O0)
  have ed:dput acc e.1 e.2=acc++[e]:=by unfold dput;rw[ko,hn];rfl
  rw[a08,ed,ih (by rw[S0];exact nd),S0];rfl
def AX(nd:N.Nodup):((iX N F).map (·.1)).Nodup:=by unfold iX;rw[γ];exact List.Pairwise.map _ (λa b h e=>h (ϖ e)) nd
def ER(h:o∈N):zM (iX N F) (sk o)=some (.d (hD (F o))):=by
 induction N with
 |nil=>cases h
 |cons z N ih=>
  unfold iX;rw[O6,ye];by_cases c:sk z=sk o
  .rw[if_pos c];rw[ϖ c]
  .rw[if_neg c];exact ih ((P9.mp h).resolve_left λe=>c (by rw[e]))
def mP{F:Str->Ht}:∀{N:OP},D4 (N.map λz=>.t [.s z,.d (hD (F z))])=some (iX N F)
 |[]=>rfl
 |z::N=>by show(D4 (N.map λz=>.t [.s z,.d (hD (F z))])).map ((sk z,PV.d (hD (F z)))::·)=_;rw[mP (N:=N)];rfl
def ua(h:m (some (.o 11 fs)::r)=.ok v)(hl:fs.length<1000):iC 0 [11] f m (some (.o 11 fs)::r)=.ok (.nx (some (.o 11 (uY fs f v))::r)):=by unfold iC;rw[h];show(if 11∈[11]/\fs.length<1000 then Out.ok (Fw.nx (some (PV.o 11 (uY fs f v))::r))else .wall)=_;rw[if_pos ⟨O0,hl⟩]
structure ROk(N:OP)(W:List Wy):Prop where
 len:N.length<=12
 nd:N.Nodup
 nm:∀z∈N,Nm z
 wl:W.length<=60
 ok:WOk N W
def iY(R:ROk N W):∃F:Str->Ht,∀z,Jd z W (F z)/\yo [.s z,.l (W.map wP)]=.ok (.d (hD (F z))):=
 ⟨λz=>Classical.choose (b_ (o:=z) (W:=W) (by have:=R.wl;omega) λw hw=>(R.ok w hw).2.2.1),λz=>T2 (b_ (o:=z) (W:=W) (by have:=R.wl;omega) λw hw=>(R.ok w hw).2.2.1)⟩
def ES(R:ROk N W)(hF:∀z,yo [.s z,.l (W.map wP)]=.ok (.d (hD (F z)))):qA [.l (N.map .s),.l (W.map wP)]=.ok (Sh N W F):=by
 have hl:=R.len;have hw:=R.wl;have ec:Tq Qy Qz QA (N.map .s) [none,some (.l (W.map wP))] []=.ok (.l (N.map λz=>.t [.s z,.d (hD (F z))])):=by refine Z3 PV.s (λz=>.t [.s z,.d (hD (F z))]) (λU=>∃o,U=[o,some (.l (W.map wP))]) N [none,some (.l (W.map wP))] ⟨none,rfl⟩ (λz hz U ⟨o,ho⟩=>?_) (by omega);subst ho;exact⟨_,rfl,⟨_,rfl⟩,Y0 (zp rfl (zp (zz (xs:=[.s z,.l (W.map wP)]) rfl (hF z)) rfl)) (P2 rfl)⟩
 have ed:fC [.l (N.map λz=>.t [.s z,.d (hD (F z))])]=.ok (.d (iX N F)):=by show ZS ((D4 (N.map λz=>.t [.s z,.d (hD (F z))])).map λes=>PV.d (mf es))=_;rw[mP];show Out.ok (PV.d (mf (iX N F)))=_;unfold mf;rw[AW (acc:=[]) (by rw[a1L];exact AX R.nd)];rfl
 have e:wH [some (.o 11 []),some (.l (N.map .s)),some (.l (W.map wP))]=.ok (.nx [some (Sh N W F),some (.l (N.map .s)),some (.l (W.map wP))]):=by refine zd ⟨_,zO (zz (xs:=[.l (N.map .s),.i 12]) rfl (iW qQ (by omega))),zd ⟨_,zO (zz (xs:=[.l (W.map wP),.i 60]) rfl (iW qQ (by omega))),zd ⟨_,zO (zz (xs:=[.l (N.map .s)]) rfl (t9 R.nd R.nm hl)),zd ⟨_,zO (zz (xs:=[.l (N.map .s),.l (W.map wP)]) rfl (AV R.ok)),zd ⟨_,ua (v:=.l (N.map .s)) rfl (by decide),zd ⟨_,ua (v:=.l (W.map wP)) rfl (P2 rfl),(ua (v:=.d (iX N F)) (zz (zp (aQ (zK rfl) ec) rfl) ed) (P2 rfl)).trans ?_⟩⟩⟩⟩⟩⟩;rw[cV,Ut (by decide +kernel),cV,Ut (by decide +kernel),Ut (by decide +kernel),cV];rfl
 show(match wH [some (.o 11 []),some (.l (N.map .s)),some (.l (W.map wP))]with | .ok (.nx U)=>(match U[0]? with|some (some x)=>Out.ok x|_=>.wall) | .ok (.rt _)=>.wall | .ok (.bk _)=>.wall | .ok (.ct _)=>.wall | .exc c fs=>.exc c fs | .wall=>.wall)=_;rw[e];rfl
def ub(h:m U=.ok (Sh N W F)):Y9 [11] "places" m U=.ok (.l (N.map .s))/\Y9 [11] "lengths" m U=.ok (.d (iX N F)):=by
 constructor
 .unfold Y9;rw[h,SE];show(if 11∈[11]then ZS (List.lookup ("places":Str) [("places",PV.l (N.map .s)),("ways",.l (W.map wP)),("lengths",.d (iX N F))])else .wall)=_;rw[if_pos O0,bT];rfl
 .unfold Y9;rw[h,SE];show(if 11∈[11]then ZS (List.lookup ("lengths":Str) [("places",PV.l (N.map .s)),("ways",.l (W.map wP)),("lengths",.d (iX N F))])else .wall)=_;rw[if_pos O0,wW (by decide +kernel),wW (by decide +kernel),bT];rfl
def Jd.ET(g:Jd o W h)(e:zM h (sk z)=some y)(hz:z≠o):∃w∈W,w.2.1=z/\∃x,zM h (sk w.1)=some x/\x+w.2.2=y:=by
 rcases g.1.sup _ _ e with c|⟨w,hw,eg,x,ex,le⟩
 .exact absurd (ϖ c) hz
 .have eg:=ϖ eg;obtain⟨y',ey,le'⟩:=g.2 w hw x ex;rw[eg,e]at ey;cases ey;exact⟨w,hw,eg,x,ex,by omega⟩
def CL:Option Int->PV
 |none=>.n
 |some x=>.i x
def Im(ha:a U=.ok (.d (hD h)))(hb:b U=.ok (.s z)):Ll a b U=.ok (CL (zM h (sk z))):=by unfold Ll;rw[ha,SE];show(b U).bind (Ej (hD h))=_;rw[hb,SE];show Out.ok ((zM (hD h) (sk z)).getD .n)=_;rw[t5];cases zM h (sk z)<;>rfl
def OH(ha:a U=.ok (.d (iX N F)))(hb:b U=.ok (.s o))(ho:o∈N):Se Sg a b U=.ok (.d (hD (F o))):=by refine zo ha hb ?_;show ZS (zM (iX N F) (sk o))=_;rw[ER ho];rfl
def cf(ho:o∈N)(hg:g∈N):zt [Sh N W F,.s o,.s g]=.ok (CL (zM (F o) (sk g))):=by have q:=ub (m:=zc 0) (U:=[some (Sh N W F),some (.s o),some (.s g)]) (N:=N) (W:=W) (F:=F) rfl;exact zZ (zd ⟨_,zO (zz (xs:=[.s o,.l (N.map .s)]) (zp rfl (zp q.1 rfl)) (kl ho)),zd ⟨_,zO (zz (xs:=[.s g,.l (N.map .s)]) (zp rfl (zp q.1 rfl)) (kl hg)),VD (Im (OH q.2 rfl ho) rfl)⟩⟩)
def X7(ha:a U=.ok (Sh N W F))(hm:ms U=.ok xs)(h1:(nm==("places":Str))=false)(h2:(nm==("ways":Str))=false)(h3:(nm==("lengths":Str))=false)(h:f (Sh N W F::xs)=.ok x):jB [(11,f)] nm a ms U=.ok x:=by unfold jB;rw[ha,SE];show(if(List.lookup nm [("places",PV.l (N.map .s)),("ways",.l (W.map wP)),("lengths",.d (iX N F))]).isSome=true then Out.wall else(ms U).bind λxs=>f (Sh N W F::xs))=_;rw[wW h1,wW h2,wW h3,B6,if_neg (by intro z;cases z),hm,SE];exact h
def mQ(h1:ms U=.ok [.s x,.s y])(h2:m U=.ok (.dt L)):zW (ot n ms m) U=.ok (xor n (zM L [sk x,sk y]).isSome):=by refine yh ?_;unfold ot;rw[h1];show(m U).bind (inT n [sk x,sk y])=_;rw[h2];rfl
def cg(h2:m U=.ok (.dt L))(h1:ms U=.ok [.s x,.s y])(e:zM L [sk x,sk y]=some v):mB m ms U=.ok (.i v):=by unfold mB;rw[h2,SE,h1,SE];show ZS ((zM L [sk x,sk y]).map PV.i)=_;rw[e];rfl
abbrev SU:=List (List Key×Int)
def WS(N:OP)(W:List Wy):Prop:=∀w∈W,w.1∈N/\w.2.1∈N/\1<=w.2.2/\w.2.2<=3000000
def WS.ok(h:WS N W):WOk N W:=λw hw=>by obtain⟨a,b,c,d⟩:=h w hw;exact⟨a,b,c,by omega⟩
def WS.app(h:WS N W)(ha:a∈N)(hg:g∈N)(h1:1<=m)(h2:m<=3000000):WS N (W++[(a,g,m)]):=λw hw=>by
 rcases T8.mp hw with hw|hw
 .exact h w hw
 .rw[R9.mp hw];exact⟨ha,hg,h1,h2⟩
def uc(h:U[i]?=some (some (.dt L)))(h1:ms U=.ok [.s x,.s y])(h2:mv U=.ok (.i n))(hl:L.length<100000):fH i ms mv U=.ok (.nx (U.set i (some (.dt (dput L [sk x,sk y] n))))):=by unfold fH;rw[h2,SE,h,h1];show(if _ then _ else _)=_;exact if_pos (P4 hl (by decide))
def mR{κ α:Type}[DecidableEq κ]{L:List (κ×α)}{k:κ}{v:α}:(dput L k v).length<=L.length+1:=by
 unfold dput;split
 .rw[u8];omega
 .rw[O1];exact O2 _
def Io:([sk a,sk b]=[sk c,sk d])↔(a=c/\b=d):=by
 constructor
 .intro h;injection h with h1 h2
  injection h2 with h2 _
  exact⟨ϖ h1,ϖ h2⟩
 .rintro ⟨rfl,rfl⟩;rfl
inductive Tu(N:OP)(W:List Wy)(M:OP):Str->Str->Int->Prop
 |nil {a}:a∈N->Tu N W M a a 0
 |edge {w:Wy}:w∈W->Tu N W M w.1 w.2.1 w.2.2
 |via {a m b u v}:m∈M->Tu N W M a m u->Tu N W M m b v->Tu N W M a b (u+v)
section
variable {N M:OP}{W:List Wy}{L L' L0:SU}{a b m:Str}{u v:Int}
def Tu.nn(hW:WS N W)(h:Tu N W M a b v):0<=v:=by
 induction h with
 |nil _=>exact Γ _
 |edge hw=>have:=(hW _ hw).2.2.1;omega
 |via _ _ _ i j=>omega
def Tu.ends(hW:WS N W)(h:Tu N W M a b v):a∈N/\b∈N:=by
 induction h with
 |nil h=>exact⟨h,h⟩
 |edge hw=>exact⟨(hW _ hw).1,(hW _ hw).2.1⟩
 |via _ _ _ i j=>exact⟨i.1,j.2⟩
def Tu.split(hM:∀z∈M',z∈M\/z=x)(hW:WS N W)(h:Tu N W M' a b v):(∃u,u<=v/\Tu N W M a b u)\/∃s t,s+t<=v/\Tu N W M a x s/\Tu N W M x b t:=by
 induction h with
 |nil h=>exact .inl ⟨_,Γ _,.nil h⟩
 |edge hw=>exact .inl ⟨_,Γ _,.edge hw⟩
 |via hm _ _ i j=>
  rcases hM _ hm with hm|rfl
  .rcases i with⟨u1,l1,w1⟩|⟨s1,t1,l1,p1,q1⟩<;>rcases j with⟨u2,l2,w2⟩|⟨s2,t2,l2,p2,q2⟩
   .exact .inl ⟨_,by omega,.via hm w1 w2⟩
   .exact .inr ⟨_,_,by omega,.via hm w1 p2,q2⟩
   .exact .inr ⟨_,_,by omega,p1,.via hm q1 w2⟩
   .have:=q1.nn hW;have:=p2.nn hW;exact .inr ⟨_,_,by omega,p1,q2⟩
  .rcases i with⟨u1,l1,w1⟩|⟨s1,t1,l1,p1,q1⟩<;>rcases j with⟨u2,l2,w2⟩|⟨s2,t2,l2,p2,q2⟩
   .exact .inr ⟨_,_,by omega,w1,w2⟩
   .have:=p2.nn hW;exact .inr ⟨_,_,by omega,w1,q2⟩
   .have:=q1.nn hW;exact .inr ⟨_,_,by omega,p1,w2⟩
   .have:=q1.nn hW;have:=p2.nn hW;exact .inr ⟨_,_,by omega,p1,q2⟩
def at2(L:SU)(a b:Str):Option Int:=zM L [sk a,sk b]
def TF(N:OP)(W:List Wy)(L:SU):Prop:=∀a b v,at2 L a b=some v->Tu N W N a b v
def yV(L:SU)(a b:Str)(v:Int):Prop:=∃u,u<=v/\at2 L a b=some u
def Tv(L L':SU):Prop:=∀a b v,at2 L a b=some v->yV L' a b v
def Cmp(N:OP)(W:List Wy)(M:OP)(L:SU):Prop:=∀a b v,Tu N W M a b v->yV L a b v
def Tv.refl:Tv L L:=λ_ _ v h=>⟨v,Γ _,h⟩
def yV.dwn(h:yV L a b v)(d:Tv L L'):yV L' a b v:=by obtain⟨u,l,e⟩:=h;obtain⟨w,l',e'⟩:=d _ _ _ e;exact⟨w,by omega,e'⟩
def Tv.trans(d:Tv L L')(d':Tv L' L''):Tv L L'':=λa b v h=>(d a b v h).dwn d'
def aa:at2 (dput L [sk a,sk b] v) c d=if a=c/\b=d then some v else at2 L c d:=by
 unfold at2;rw[wy];by_cases h:a=c/\b=d
 .rw[if_pos h,if_pos (Io.mpr h)]
 .rw[if_neg h,if_neg λe=>h (Io.mp e)]
def ud(L:SU)(a b:Str)(v:Int):SU:=match at2 L a b with
 |some x=>if v<x then dput L [sk a,sk b] v else L
 |none=>dput L [sk a,sk b] v
def Ja:ud L a b v=dput L [sk a,sk b] v/\(∀x,at2 L a b=some x->v<x)\/ud L a b v=L/\∃x,x<=v/\at2 L a b=some x:=by
 unfold ud;cases e:at2 L a b with
 |none=>exact .inl ⟨rfl,λx h=>nomatch h⟩
 |some x=>
  dsimp only;by_cases c:v<x
  .rw[if_pos c];exact .inl ⟨rfl,λy h=>by cases h;exact c⟩
  .rw[if_neg c];exact .inr ⟨rfl,x,by omega,rfl⟩
def dS:Tv L (ud L a b v):=λc d w h=>by
 rcases Ja (L:=L) (a:=a) (b:=b) (v:=v)with⟨e,k⟩|⟨e,_⟩<;>rw[e]
 .unfold yV;rw[aa];by_cases q:a=c/\b=d
  .obtain⟨rfl,rfl⟩:=q;rw[if_pos ⟨rfl,rfl⟩];have:=k w h;exact⟨v,by omega,rfl⟩
  .rw[if_neg q];exact⟨w,Γ _,h⟩
 .exact⟨w,Γ _,h⟩
def ue:yV (ud L a b v) a b v:=by
 rcases Ja (L:=L) (a:=a) (b:=b) (v:=v)with⟨e,_⟩|⟨e,k⟩<;>rw[e]
 .unfold yV;rw[aa,if_pos ⟨rfl,rfl⟩];exact⟨v,Γ _,rfl⟩
 .exact k
def mS(h:TF N W L)(hw:Tu N W N a b v):TF N W (ud L a b v):=by
 rcases Ja (L:=L) (a:=a) (b:=b) (v:=v)with⟨e,_⟩|⟨e,k⟩<;>rw[e]
 .intro c d w e;rw[aa]at e;split at e
  .rename_i q;obtain⟨rfl,rfl⟩:=q;cases e;exact hw
  .exact h _ _ _ e
 .exact h
def mT:(ud L a b v).length<=L.length+1:=by
 rcases Ja (L:=L) (a:=a) (b:=b) (v:=v)with⟨e,_⟩|⟨e,_⟩<;>rw[e]
 .exact mR
 .exact Δ _
abbrev SQ(N:OP)(W:List Wy)(L:SU)(p q r s t z:Pu):So:=[some (.l (N.map .s)),some (.l (W.map wP)),some (.dt L),p,q,r,s,t,z]
variable {p q r s t z:Pu}
def M8(hl:N.length<=12):∃L p,L.length<=N.length/\TF N W L/\(∀x∈N,yV L x x 0)/\wj vL vM (N.map .s) (SQ N W [] none q r s t z)=.ok (.nx (SQ N W L p q r s t z)):=by
 obtain⟨U',⟨L,p,l,hs,hc,rfl⟩,e⟩:=Z4 (g:=vL) (b:=vM) PV.s (λk U=>∃L p,L.length<=k/\TF N W L/\(∀x∈N.take k,yV L x x 0)/\U=SQ N W L p q r s t z) N (SQ N W [] none q r s t z) ⟨[],none,O2 _,λ_ _ _ e=>(nomatch(show(none:Pz)=some _ from e)),λx hx=>(nomatch hx),rfl⟩ (λk hk U ⟨L,p,l,hs,hc,hρ⟩=>by
  subst hρ;refine⟨_,rfl,_,⟨dput L [sk N[k],sk N[k]] 0,some (.s N[k]),S6 mR (by omega),λc d w e=>?_,λx hx=>?_,rfl⟩,.inl (uc rfl rfl rfl (by omega))⟩
  .rw[aa]at e;split at e
   .rename_i h;obtain⟨rfl,rfl⟩:=h;cases e;exact .nil (Β _)
   .exact hs _ _ _ e
  .unfold yV;rw[aa];by_cases h:N[k]=x/\N[k]=x
   .rw[if_pos h];exact⟨0,Γ _,rfl⟩
   .rw[if_neg h];rw[T6 hk]at hx;rcases T8.mp hx with hx|hx
    .exact hc x hx
    .have:=R9.mp hx;exact absurd ⟨this.symm,this.symm⟩ h)
 exact⟨L,p,l,hs,λx hx=>hc x (by rw[a00];exact hx),e⟩
def mU(hk:ks (SQ N W L p q r s t z)=.ok [.s a,.s b])(hv:zc i (SQ N W L p q r s t z)=.ok (.i v))(hl:L.length<100000):Sy (Te (zW (ot true ks (zc 2))) (zW (Se ζ (zc i) (mB (zc 2) ks)))) (fH 2 ks (zc i)) yH (SQ N W L p q r s t z)=.ok (.nx (SQ N W (ud L a b v) p q r s t z)):=by
 have t1:=mQ (n:=true) (ms:=ks) (m:=zc 2) (L:=L) hk rfl;have pt:=uc (i:=2) (L:=L) (mv:=zc i) rfl hk hv hl;unfold ud at2;cases e:zM L [sk a,sk b]with
 |none=>rw[e]at t1;exact(yX (CJ t1)).trans pt
 |some x=>
  rw[e]at t1;have t2:=dR t1 (yh (b:=decide (v<x)) (zo (f:=ζ) hv (cg (m:=zc 2) rfl hk e) rfl));dsimp only;by_cases c:v<x
  .rw[O9 c]at t2;rw[if_pos c];exact(yX t2).trans pt
  .rw[O8 c]at t2;rw[if_neg c];exact(yX t2).trans rfl
def M9(hl:L0.length<=12)(hW:W.length<=60)(h0:TF N W L0):∃L q r s,L.length<=L0.length+W.length/\TF N W L/\Tv L0 L/\(∀w∈W,yV L w.1 w.2.1 w.2.2)/\wj vN vO (W.map wP) (SQ N W L0 p none none none t z)=.ok (.nx (SQ N W L p q r s t z)):=by
 obtain⟨U',⟨L,q,r,s,l,hs,hd,hc,rfl⟩,e⟩:=Z4 (g:=vN) (b:=vO) wP (λk U=>∃L q r s,L.length<=L0.length+k/\TF N W L/\Tv L0 L/\(∀w∈W.take k,yV L w.1 w.2.1 w.2.2)/\U=SQ N W L p q r s t z) W (SQ N W L0 p none none none t z) ⟨L0,none,none,none,O2 _,h0,Tv.refl,λx hx=>(nomatch hx),rfl⟩ (λk hk U ⟨L,q,r,s,l,hs,hd,hc,hρ⟩=>by
  subst hρ;refine⟨_,rfl,_,⟨ud L W[k].1 W[k].2.1 W[k].2.2,some (.s W[k].1),some (.s W[k].2.1),some (.i W[k].2.2),S6 mT (by omega),mS hs (.edge (Β _)),hd.trans dS,λx hx=>?_,rfl⟩,.inl (mU (ks:=zb (zc 4) (zb (zc 5) zm)) (i:=6) rfl rfl (by omega))⟩;rw[T6 hk]at hx;rcases T8.mp hx with hx|hx
  .exact(hc x hx).dwn dS
  .rw[R9.mp hx];exact ue)
 exact⟨L,q,r,s,l,hs,hd,λx hx=>hc x (by rw[a00];exact hx),e⟩
end
section
variable {N M:OP}{W:List Wy}{L L' L0:SU}{a b m:Str}{u v:Int}{p q r s t z:Pu}
def EU(h:TF N W L)(hm:m∈N)(hl:L.length<100000):∃L' z',L'.length<=L.length+1/\TF N W L'/\Tv L L'/\(∀x y,yV L a m x->yV L m b y->yV L' a b (x+y))/\jM (SQ N W L p (some (.s a)) (some (.s b)) s (some (.s m)) z)=.ok (.nx (SQ N W L' p (some (.s a)) (some (.s b)) s (some (.s m)) z')):=by
 have e:=λP Q=>yX (U:=SQ N W L p (some (.s a)) (some (.s b)) s (some (.s m)) z) (a:=P) (b:=Q) (CF (mQ (n:=false) (ms:=zb (zc 4) (zb (zc 7) zm)) (m:=zc 2) (x:=a) (y:=m) (L:=L) rfl rfl) (mQ (n:=false) (ms:=zb (zc 7) (zb (zc 5) zm)) (m:=zc 2) (x:=m) (y:=b) (L:=L) rfl rfl));cases e1:zM L [sk a,sk m]with
 |none=>rw[e1]at e;exact⟨L,z,Δ _,h,Tv.refl,λx y ⟨_,_,q⟩ _=>(nomatch(e1.symm.trans q)),e _ _⟩
 |some x=>
  cases e2:zM L [sk m,sk b]with
  |none=>rw[e1,e2]at e;exact⟨L,z,Δ _,h,Tv.refl,λx y _ ⟨_,_,q⟩=>(nomatch(e2.symm.trans q)),e _ _⟩
  |some y=>rw[e1,e2]at e;refine⟨ud L a b (x+y),some (.i (x+y)),mT,mS h (.via hm (h _ _ _ e1) (h _ _ _ e2)),dS,λx' y' ⟨x1,l1,q1⟩ ⟨y1,l2,q2⟩=>?_,(e _ _).trans (zd ⟨SQ N W L p (some (.s a)) (some (.s b)) s (some (.s m)) (some (.i (x+y))),yy (zo (cg rfl rfl e1) (cg rfl rfl e2) rfl),mU (ks:=zb (zc 4) (zb (zc 5) zm)) (i:=8) rfl rfl hl⟩)⟩;obtain⟨w,lw,ew⟩:=ue (L:=L) (a:=a) (b:=b) (v:=x+y);cases(e1.symm.trans q1:some x=some x1);cases(e2.symm.trans q2:some y=some y1);exact⟨w,by omega,ew⟩
def M_(h0:TF N W L0)(hm:m∈N)(hn:N.length<=12)(hl:L0.length<=10000):∃L r' z',L.length<=L0.length+N.length/\TF N W L/\Tv L0 L/\(∀b∈N,∀x y,yV L0 a m x->yV L0 m b y->yV L a b (x+y))/\wj vP jM (N.map .s) (SQ N W L0 p (some (.s a)) r s (some (.s m)) z)=.ok (.nx (SQ N W L p (some (.s a)) r' s (some (.s m)) z')):=by
 obtain⟨U',⟨L,r',z',l,hs,hd,hc,rfl⟩,e⟩:=Z4 (g:=vP) (b:=jM) PV.s (λk U=>∃L r' z',L.length<=L0.length+k/\TF N W L/\Tv L0 L/\(∀b∈N.take k,∀x y,yV L0 a m x->yV L0 m b y->yV L a b (x+y))/\U=SQ N W L p (some (.s a)) r' s (some (.s m)) z') N (SQ N W L0 p (some (.s a)) r s (some (.s m)) z) ⟨L0,r,z,O2 _,h0,Tv.refl,λx hx=>(nomatch hx),rfl⟩ (λk hk U ⟨L,r',z',l,hs,hd,hc,hρ⟩=>by
  subst hρ;obtain⟨L2,z2,l2,s2,d2,c2,e2⟩:=EU (a:=a) (b:=N[k]) (p:=p) (s:=s) (z:=z') hs hm (by omega);refine⟨_,rfl,_,⟨L2,some (.s N[k]),z2,by omega,s2,hd.trans d2,λb hb x y hx hy=>?_,rfl⟩,.inl e2⟩;rw[T6 hk]at hb;rcases T8.mp hb with hb|hb
  .exact(hc b hb x y hx hy).dwn d2
  .rw[R9.mp hb]at hy ⊢;exact c2 x y (hx.dwn hd) (hy.dwn hd))
 exact⟨L,r',z',l,hs,hd,λx hx=>hc x (by rw[a00];exact hx),e⟩
def Na(h0:TF N W L0)(hm:m∈N)(hn:N.length<=12)(hl:L0.length<=5000):∃L q' r' z',L.length<=L0.length+N.length*12/\TF N W L/\Tv L0 L/\(∀a∈N,∀b∈N,∀x y,yV L0 a m x->yV L0 m b y->yV L a b (x+y))/\wj vQ vR (N.map .s) (SQ N W L0 p q r s (some (.s m)) z)=.ok (.nx (SQ N W L p q' r' s (some (.s m)) z')):=by
 obtain⟨U',⟨L,q',r',z',l,hs,hd,hc,rfl⟩,e⟩:=Z4 (g:=vQ) (b:=vR) PV.s (λk U=>∃L q' r' z',L.length<=L0.length+k*12/\TF N W L/\Tv L0 L/\(∀a∈N.take k,∀b∈N,∀x y,yV L0 a m x->yV L0 m b y->yV L a b (x+y))/\U=SQ N W L p q' r' s (some (.s m)) z') N (SQ N W L0 p q r s (some (.s m)) z) ⟨L0,q,r,z,O2 _,h0,Tv.refl,λx hx=>(nomatch hx),rfl⟩ (λk hk U ⟨L,q',r',z',l,hs,hd,hc,hρ⟩=>by
  subst hρ;obtain⟨L2,r2,z2,l2,s2,d2,c2,e2⟩:=M_ (a:=N[k]) (p:=p) (r:=r') (s:=s) (z:=z') hs hm hn (by omega);refine⟨_,rfl,_,⟨L2,some (.s N[k]),r2,z2,by omega,s2,hd.trans d2,λa ha b hb x y hx hy=>?_,rfl⟩,.inl (yE (zK rfl) e2)⟩;rw[T6 hk]at ha;rcases T8.mp ha with ha|ha
  .exact(hc a ha b hb x y hx hy).dwn d2
  .rw[R9.mp ha]at hx ⊢;exact c2 b hb x y (hx.dwn hd) (hy.dwn hd))
 exact⟨L,q',r',z',l,hs,hd,λx hx=>hc x (by rw[a00];exact hx),e⟩
def Nb(h0:TF N W L0)(hW:WS N W)(hn:N.length<=12)(hl:L0.length<=100)(h1:Cmp N W [] L0):∃L q' r' t' z',L.length<=5000/\TF N W L/\Cmp N W N L/\wj vT vU (N.map .s) (SQ N W L0 p q r s t z)=.ok (.nx (SQ N W L p q' r' s t' z')):=by
 obtain⟨U',⟨L,q',r',t',z',l,hs,hc,rfl⟩,e⟩:=Z4 (g:=vT) (b:=vU) PV.s (λk U=>∃L q' r' t' z',L.length<=100+k*144/\TF N W L/\Cmp N W (N.take k) L/\U=SQ N W L p q' r' s t' z') N (SQ N W L0 p q r s t z) ⟨L0,q,r,t,z,by omega,h0,h1,rfl⟩ (λk hk U ⟨L,q',r',t',z',l,hs,hc,hρ⟩=>by
  subst hρ;obtain⟨L2,q2,r2,z2,l2,s2,d2,c2,e2⟩:=Na (m:=N[k]) (p:=p) (q:=q') (r:=r') (s:=s) (z:=z') hs (Β _) hn (by omega);refine⟨_,rfl,_,⟨L2,q2,r2,some (.s N[k]),z2,by omega,s2,λa b v h=>?_,rfl⟩,.inl (yE (zK rfl) e2)⟩;obtain⟨ha,hb⟩:=h.ends hW;rw[T6 hk]at h;rcases h.split (M:=N.take k) (x:=N[k]) (λz hz=>(T8.mp hz).imp id R9.mp) hW with⟨u,lu,w⟩|⟨s',t',le,w1,w2⟩
  .obtain⟨u',lu',e'⟩:=(hc _ _ _ w).dwn d2;exact⟨u',by omega,e'⟩
  .obtain⟨u',lu',e'⟩:=c2 a ha b hb s' t' (hc _ _ _ w1) (hc _ _ _ w2);exact⟨u',by omega,e'⟩)
 rw[a00]at hc;exact⟨L,q',r',t',z',by omega,hs,hc,e⟩
def ϒ(N:OP)(L:SU)(F:Str->Ht):Prop:=(∀a∈N,∀b∈N,zM L [sk a,sk b]=zM (F a) (sk b))
def ae(hW:WS N W)(g:Jd o W F)(h:Tu N W N a b v):∀x,zM F (sk a)=some x->∃y,y<=x+v/\zM F (sk b)=some y:=by
 induction h with
 |nil _=>intro x e;exact⟨x,by omega,e⟩
 |edge hw=>intro x e;obtain⟨y,e',l⟩:=g.2 _ hw x e;exact⟨y,l,e'⟩
 |via _ _ _ i j=>intro x e;obtain⟨y,l,e'⟩:=i x e;obtain⟨y',l',e''⟩:=j y e';exact⟨y',by omega,e''⟩
def af(hW:WS N W)(g:Jd o W F)(ho:o∈N):∀(n:Nat){z:Str}{y:Int},y.toNat<=n->zM F (sk z)=some y->Tu N W N o z y:=by
 intro n
 induction n with
 |zero=>
  intro z y hn e;by_cases hz:z=o
  .subst hz;cases(g.1.own.symm.trans e);exact .nil ho
  .obtain⟨w,hw,_,x,ex,exy⟩:=g.ET e hz;have:=(hW w hw).2.2.1;have:=g.1.pos _ _ ex;omega
 |succ n ih=>
  intro z y hn e;by_cases hz:z=o
  .subst hz;cases(g.1.own.symm.trans e);exact .nil ho
  .obtain⟨w,hw,rfl,x,ex,exy⟩:=g.ET e hz;have h1:=hW w hw;have:=g.1.pos _ _ ex;rw[<- exy];exact .via h1.1 (ih (by omega) ex) (.edge hw)
def iZ(hW:WS N W)(hn:N.length<=12)(hl:W.length<=60)(gF:∀z,Jd z W (F z)):∃L,ϒ N L F/\qK [.l (N.map .s),.l (W.map wP)]=.ok (.dt L):=by
 obtain⟨L1,p1,a1,s1,n1,e1⟩:=M8 (N:=N) (W:=W) (q:=none) (r:=none) (s:=none) (t:=none) (z:=none) hn;obtain⟨L2,q2,r2,s2',a2,s2,d2,n2,e2⟩:=M9 (N:=N) (W:=W) (L0:=L1) (p:=p1) (t:=none) (z:=none) (by omega) hl s1;have c0:Cmp N W [] L2:=λa b v h=>by
  cases h with
  |nil h=>exact(n1 _ h).dwn d2
  |edge hw=>exact n2 _ hw
  |via h _ _=>cases h
 obtain⟨L,q3,r3,t3,z3,_,s3,c3,e3⟩:=Nb (p:=p1) (q:=q2) (r:=r2) (s:=s2') (t:=none) (z:=none) s2 hW hn (by omega) c0;refine⟨L,λa ha b hb=>?_,zZ (zd ⟨_,rfl,zd ⟨_,yE (zK rfl) e1,zd ⟨_,yE (zK rfl) e2,zd ⟨_,yE (zK rfl) e3,rfl⟩⟩⟩⟩)⟩;cases e:zM L [sk a,sk b]with
 |none=>
  cases e':zM (F a) (sk b)with
  |none=>rfl
  |some y=>obtain⟨u,_,q⟩:=c3 _ _ _ (af hW (gF a) ha _ (O2 _) e');cases(e.symm.trans q)
 |some v=>obtain⟨y,l,e'⟩:=ae hW (gF a) (s3 _ _ _ e) 0 (gF a).1.own;obtain⟨u,l',q⟩:=c3 _ _ _ (af hW (gF a) ha _ (O2 _) e');cases(e.symm.trans q);rw[e',show y=v by omega]
def below(h:Ht)(y:Int):Nat:=(h.filter λp=>decide (p.2<y)).length
def mV{x y:Int}(l:x<=y):∀{h:Ht},below h x<=below h y
 |[]=>O2 _
 |p::h=>by
  have i:=mV l (h:=h);unfold below at i ⊢;rw[a1l,a1l];by_cases c:p.2<x
  .rw[if_pos (O9 c),if_pos (O9 (show p.2<y by omega))];exact a01 i
  .rw[if_neg (by rw[O8 c];decide)];split
   .exact a1x i
   .exact i
def mW{x y:Int}(l:x<y):∀{h:Ht}{k:Key},(k,x)∈h->below h x+1<=below h y
 |[],_,e=>by cases e
 |p::h,k,e=>by
  unfold below;rw[a1l,a1l];rcases P9.mp e with e|e
  .subst e;rw[if_neg (by rw[O8 (show ¬x<x by omega)];decide),if_pos (O9 l)];exact a01 (mV (Int.le_of_lt l))
  .have i:=mW l e;unfold below at i;by_cases c:p.2<x
   .rw[if_pos (O9 c),if_pos (O9 (show p.2<y by omega))];exact a01 i
   .rw[if_neg (by rw[O8 c];decide)];split
    .exact a1x i
    .exact i
def gr{y:Int}:∀{h:Ht}{k:Key},(k,y)∈h->below h y+1<=h.length
 |[],_,e=>by cases e
 |p::h,k,e=>by
  unfold below;rw[a1l];rcases P9.mp e with e|e
  .subst e;rw[if_neg (by rw[O8 (show ¬y<y by omega)];decide),v0];exact a01 (List.length_filter_le _ _)
  .have i:=gr e;unfold below at i;split
   .exact a01 i
   .exact a1x i
def gu(hW:WS N W)(g:Jd o W F):∀(n:Nat){z:Str}{y:Int},y.toNat<=n->zM F (sk z)=some y->y<=3000000*(below F y:Int):=by
 intro n
 induction n with
 |zero=>intro z y hn e;have:=g.1.pos _ _ e;omega
 |succ n ih=>
  intro z y hn e;by_cases hz:z=o
  .subst hz;cases(g.1.own.symm.trans e);omega
  .obtain⟨w,hw,rfl,x,ex,exy⟩:=g.ET e hz;have h1:=hW w hw;have:=g.1.pos _ _ ex;have i:=ih (y:=x) (by omega) ex;have j:=mW (x:=x) (y:=y) (by omega) (Q8 ex);omega
def oF{F:Ht}{o:Str}(hW:WS N W)(g:Jd o W F)(ho:o∈N){z:Str}{y:Int}(e:zM F (sk z)=some y):0<=y/\y+3000000<=3000000*(N.length:Int):=by
 have a:=gu hW g _ (O2 _) e;have b:=gr (Q8 e);have c:F.length<=N.length:=by
  have:=U_ (a:=F.map (·.1)) (b:=N.map sk) g.1.nd (λk hk=>by
   rcases P9.mp (g.1.sub k hk)with rfl|hk
   .exact ϰ ho
   .obtain⟨w,hw,rfl⟩:=T7.mp hk;exact ϰ (hW w hw).2.1)
  rw[u8,u8]at this;exact this
 have:=g.1.pos _ _ e;omega
end
abbrev Tp:=Str×Str×Str×Int×Int×Int
def tP(t:Tp):PV:=.t [.s t.1,.s t.2.1,.s t.2.2.1,.i t.2.2.2.1,.i t.2.2.2.2.1,.i t.2.2.2.2.2]
structure SG(N:OP)(F:Str->Ht)(t:Tp):Prop where
 org:t.2.1∈N
 goal:t.2.2.1∈N
 len:∃y,zM (F t.2.1) (sk t.2.2.1)=some y/\y<=t.2.2.2.2.1-t.2.2.2.1
 st:0<=t.2.2.2.1
 fw:t.2.2.2.1<t.2.2.2.2.1
 fin:t.2.2.2.2.1<=1000000000
 Bq:0<=t.2.2.2.2.2/\t.2.2.2.2.2<=1000000000
def VF(T:List Tp):List (Key×PV):=T.map λt=>(sk t.1,tP t)
def ag(h:z∉T.map (·.1)):zM (VF T) (sk z)=none:=by
 cases e:zM (VF T) (sk z)with
 |none=>rfl
 |some x=>obtain⟨t,ht,e2⟩:=T7.mp (Q8 e);cases e2;exact absurd (ϰ ht) h
def uf(nd:(T.map (·.1)).Nodup)(h:t∈T):zM (VF T) (sk t.1)=some (tP t):=by
 induction T with
 |nil=>cases h
 |cons u T ih=>
  rw[O6]at nd;obtain⟨n1,n2⟩:=ϊ.mp nd;show zM ((sk u.1,tP u)::VF T) (sk t.1)=_;rw[ye];rcases P9.mp h with rfl|h
  .rw[if_pos rfl]
  .rw[if_neg λe=>n1 (by rw[ϖ e];exact ϰ h)];exact ih n2 h
def oG(hz:Nm z)(hB:zM B (sk z)=none):zS [.s z,.d B]=.ok (.s z):=by refine zZ (zd ⟨_,zO (zz (xs:=[.s z]) rfl (t8 hz)),zd ⟨_,(yX (x:=false) (yh (zo (x:=.s z) (y:=.d B) rfl rfl ?_))).trans (show _=Out.ok (Fw.nx [some (.s z),some (.d B)])from rfl),rfl⟩⟩);show Out.ok (PV.b (xor false (zM B (sk z)).isSome))=_;rw[hB];rfl
def Wm(h1:0<=m)(h2:m<=1000000000):zP [.i m,.i 0]=.ok (.i m):=by refine zZ (zd ⟨_,(yX (dR (x:=false) (y:=false) (yh (zo (x:=.i m) (y:=.i 0) rfl rfl ?_)) ((VC (x:=m) rfl).trans (by rw[O8 (by omega)])))).trans (show _=Out.ok (Fw.nx [some (.i m),some (.i 0)])from rfl),rfl⟩);show Out.ok (PV.b (decide (m<0)))=_;rw[O8 (by omega)]
section
variable {N:OP}{W:List Wy}{F:Str->Ht}{t:Tp}{T:List Tp}
def AY(h:SG N F t)(hn:Nm t.1)(hB:zM B (sk t.1)=none):qz [Sh N W F,tP t,.d B]=.ok .n:=by
 obtain⟨ho,hg,⟨y,ey,ly⟩,s0,fw,f1,q0,q1⟩:=h;refine VE rfl (zd ⟨_,zO (zz (xs:=[.s t.1,.d B]) rfl (oG hn hB)),zd ⟨_,yy (X7 (N:=N) (W:=W) (F:=F) rfl (xs:=[.s t.2.1,.s t.2.2.1]) rfl (by decide +kernel) (by decide +kernel) (by decide +kernel) ((cf ho hg).trans (by rw[ey];rfl))),zd ⟨_,zO (zz (xs:=[.i t.2.2.2.1,.i 0]) rfl (Wm s0 (by omega))),zd ⟨_,zO (zz (xs:=[.i t.2.2.2.2.1,.i 0]) rfl (Wm (by omega) f1)),zd ⟨_,zO (zz (xs:=[.i t.2.2.2.2.2,.i 0]) rfl (Wm q0 q1)),zd ⟨[some (Sh N W F),some (tP t),some (.d B),some (.i y)],(yX (x:=false) (yh (zo (x:=.i t.2.2.2.2.1) (y:=.i t.2.2.2.1) rfl rfl ?_))).trans rfl,zd ⟨[some (Sh N W F),some (tP t),some (.d B),some (.i y)],(yX (x:=false) rfl).trans rfl,(yX (x:=false) (yh (zo (x:=.i (t.2.2.2.2.1-t.2.2.2.1)) (y:=.i y) rfl rfl ?_))).trans rfl⟩⟩⟩⟩⟩⟩⟩)
 .show Out.ok (PV.b (decide (t.2.2.2.2.1<=t.2.2.2.1)))=_;rw[O8 (by omega)]
 .show Out.ok (PV.b (decide (t.2.2.2.2.1-t.2.2.2.1<y)))=_;rw[O8 (by omega)]
def EV(t:Tp):bY:=(t.2.2.2.1,t.2.2.2.2.1,t.1)
def mX:∀{T:List Tp},de zI (T.map tP)=some (T.map EV)
 |[]=>rfl
 |t::T=>by
  have e:zI [tP t]=.ok (.t [.i t.2.2.2.1,.i t.2.2.2.2.1,.s t.1]):=zZ (VD (Y0 rfl (P2 rfl)));show(match zI [tP t]with
   |.ok (.t [.i a,.i b,.s c])=>(de zI (T.map tP)).map ((a,b,c)::·)
   |_=>none)=_
  rw[e];show(de zI (T.map tP)).map _=_;rw[mX];rfl
def FA(T:List Tp):List Tp:=(En (T.map EV)).map λi=>T.getD i ("","","",0,0,0)
def AZ(nd:(T.map (·.1)).Nodup)(hl:T.length<64):AD zI (T.map tP)=.ok (.l ((FA T).map tP)):=by
 unfold AD;rw[if_pos (by rw[u8];exact hl),mX];have nk:(T.map EV).Nodup:=by
  have:((T.map EV).map λk=>k.2.2)=T.map (·.1):=by rw[γ];rfl
  rw[<- this]at nd;exact List.Pairwise.of_map (S:=(·≠·)) (λk:bY=>k.2.2) (λa b h e=>h (by rw[e])) nd
 show(if(T.map EV).Nodup then _ else _)=_;rw[if_pos nk];unfold FA;rw[γ];congr 2;refine a03 λi hi=>?_;have:=Λ.mp ((df (T.map EV)).1.mem_iff.mp hi);rw[u8]at this;show(T.map tP).getD i .n=tP (T.getD i _);rw[a0F,a0F,S7,P1 this];rfl
end
def ga0{α:Type}{A:List α}{x y:α}:(A++[x,y])[A.length]?=some x:=by simp
def ga1{α:Type}{A:List α}{x y:α}:(A++[x,y])[A.length+1]?=some y:=by simp
def sa0{α:Type}{A:List α}{x y z:α}:(A++[x,y]).set A.length z=A++[z,y]:=by simp
def sa1{α:Type}{A:List α}{x y z:α}:(A++[x,y]).set (A.length+1) z=A++[x,z]:=by simp
def CM{G:AH}{n:Nat}:∀{kvs:Ph},oj (jH G (n+1)) (vK kvs)=some kvs
 |[]=>rfl
 | (k,x)::kvs=>by show((jH G (n+1) (.v x)).bind λy=>(oj (jH G (n+1)) (vK kvs)).map ((k,y)::·))=_;rw[CM];rfl
def EW(h0:KZ bs U=none)(h1:Jc G bs U=some r)(h2:m r=.ok x)(hi:TV x=true):hP bs m U G=.ok (.v x) G:=by unfold hP;rw[h0,h1];dsimp only;rw[h2];dsimp only;rw[if_pos hi]
def mY(h:m U G=.ok x G'):sT m U G=.nx U G':=by unfold sT;rw[h];rfl
def dU(hv:mv U G=.ok y G1)(ho:mo U G1=.ok (.g k) G2)(hk:G2[k]?=some (.o c fs))(hc:c∈cs)(hl:fs.length<1000):dg cs f mo mv U G=.nx U (G2.set k (.o c (UA f y fs))):=by
 unfold dg;rw[hv];show((mo U G1).fw _)=_;rw[ho];show(match G2[k]? with
  |some (.o c fs)=>if c∈cs/\fs.length<1000 then Ti.nx U (G2.set k (.o c (UA f y fs)))else .wall
  |_=>.wall)=_
 rw[hk];dsimp only;rw[if_pos ⟨hc,hl⟩]
def EX(hv:mv U G=.ok y G)(ho:mo U G=.ok (.g k) G)(hz:mk U G=.ok (.v z) G)(hk:G[k]?=some (.d kvs))(hq:pk z=some q)(hl:kvs.length<100000):Hs mo mk mv U G=.nx U (G.set k (.d (dput kvs q y))):=by
 unfold Hs;rw[hv];show((mo U G).fw _)=_;rw[ho];show((mk U G).fw _)=_;rw[hz];show(match G[k]?,pk z with
  |some (.d kvs),some q=>if kvs.length<sizeLine then Ti.nx U (G.set k (.d (dput kvs q y)))else .wall
  |_,_=>.wall)=_
 rw[hk,hq];dsimp only;rw[if_pos (P4 hl (by decide))]
def EY(h:m U G=.ok (.g k) G)(hk:G[k]?=some (.o c fs))(hc:c∈cs)(hf:fs.lookup f=some z):Hl cs f m U G=.ok z G:=by
 unfold Hl;rw[h];show(match G[k]? with
  |some (.o c fs)=>if c∈cs then match fs.lookup f with
   |some z=>HX.ok z G
   |none=>.wall else .wall
  |_=>.wall)=_
 rw[hk];dsimp only;rw[if_pos hc,hf]
def gw(h:U[i]?=some (some (.l xs)))(hm:m U=.ok y)(hl:xs.length<100000):rY i m U=.ok (.nx (U.set i (some (.l (xs++[y]))))):=by unfold rY;rw[h];show(m U).bind _=_;rw[hm,SE,if_pos (P4 hl (by decide))]
def CN{α:Type}{xs:List α}(h:0<=i):l7 xs none (some i)=xs.take i.toNat:=by
 unfold l7;show List.take ((if i<0 then(i+(xs.length:Int)).toNat else min i.toNat xs.length)-0) (xs.drop 0)=_;rw[if_neg (by omega),Nat.sub_zero,List.drop_zero];by_cases c:i.toNat<=xs.length
 .rw[Nat.min_eq_left c]
 .rw[Nat.min_eq_right (by omega),a0E (O2 _),a0E (by omega)]
def A4{α:Type}{xs:List α}{i:Int}(h:0<=i)(h2:i<=xs.length):l7 xs (some i) none=xs.drop i.toNat:=by unfold l7;show List.take (xs.length-(if i<0 then(i+(xs.length:Int)).toNat else min i.toNat xs.length)) (xs.drop (if i<0 then(i+(xs.length:Int)).toNat else min i.toNat xs.length))=_;rw[if_neg (by omega),Nat.min_eq_left (by omega),a0E (by rw[Ϛ];omega)]
def EZ{α:Type}{x:α}{fs:List (Str×α)}:((f,x)::fs).lookup f=some x:=by simp
def A5{α:Type}{x:α}{fs:List (Str×α)}(h:(f==g)=false):((g,x)::fs).lookup f=fs.lookup f:=by simp[List.lookup,h]
def Lr(h0:KZ bs U=none)(h1:Jc G bs U=some r)(h2:m r=.ok x)(hi:Lj x=true)(hc:iH x=some c):hF bs m U G=.ok (.g G.length) (G++[c]):=by unfold hF;rw[h0];dsimp only;rw[h1];dsimp only;rw[h2];dsimp only;rw[if_pos hi,hc]
def Ip{G:AH}{n:Nat}:∀{xs:Pe},fD (jH G (n+1)) (xs.map .v)=some xs
 |[]=>rfl
 |x::xs=>by show((jH G (n+1) (.v x)).bind λy=>(fD (jH G (n+1)) (xs.map .v)).map (y::·))=_;rw[Ip];rfl
def v5(h:G[k]?=some (.l (xs.map .v))):jH G (n+2) (.g k)=some (.l xs):=by unfold jH;rw[h];show(fD (jH G (n+1)) (xs.map .v)).map PV.l=_;rw[Ip];rfl
def CO:∀{T:List Tp},oW (T.map λt=>PV.s t.1)=true
 |[]=>rfl
 |t::T=>by show(true&&oW (T.map λt=>PV.s t.1))=true;rw[CO];rfl
def gA{α:Type}{A B:List α}{j:Nat}{x:α}(h:A[j]?=some x):(A++B)[j]?=some x:=by rw[T9 (P8.mp h).1];exact h
section
variable {N:OP}{W:List Wy}{F:Str->Ht}{A:AH}{T P:List Tp}{ro:PV}{j:Nat}
def tFs(ro:PV)(j:Nat):List (Str×HV):=[("roads",.v ro),("by_name",.g j)]
def tG(A:AH)(ro:PV)(T:List Tp):AH:=A++[.o 10 (tFs ro (A.length+1)),.d (vK (VF T))]
def mZ(h:G[j]?=some (.d (vK (VF T)))):jH G (n+2) (.g j)=some (.d (VF T)):=by unfold jH;rw[h];show(oj (jH G (n+1)) (vK (VF T))).map PV.d=_;rw[CM];rfl
def Iq:jH (tG A ro T) 8 (.g A.length)=some (.o 10 [("roads",ro),("by_name",.d (VF T))]):=by unfold jH tG;rw[ga0];show(oj (jH _ 7) (tFs ro (A.length+1))).map (PV.o 10)=_;show(Option.map (PV.o 10) ((jH _ 7 (.v ro)).bind λy=>(((jH _ 7 (.g (A.length+1))).bind λy=>((some []).map ((("by_name":Str),y)::·))).map ((("roads":Str),y)::·))))=_;rw[mZ (T:=T) ga1];rfl
def A6(h:t.1∉P.map (·.1)):dput (VF P) (sk t.1) (tP t)=VF (P++[t]):=by unfold dput;rw[ko,ag h];unfold VF;rw[R7];rfl
def ug(h:t.1∉P.map (·.1)):dput (vK (VF P)) (sk t.1) (.v (tP t))=vK (VF (P++[t])):=by unfold vK;rw[mM,A6 h]
abbrev tQ(A:AH)(ro:PV)(j:Nat)(o:Option HV):ZJ:=[some (.g A.length),some (.v ro),some (.g j),o]
def A7(hj:A[j]?=some (.l ((T.map tP).map .v)))(nd:(T.map (·.1)).Nodup)(hl:T.length<=40):∀{R P:List Tp}{o:Option HV},P++R=T->(∀t∈R,SG N F t/\Nm t.1)->∃o',K4 j yY yg R.length P.length (tQ A (Sh N W F) j o) (tG A (Sh N W F) P)=.nx (tQ A (Sh N W F) j o') (tG A (Sh N W F) T):=by
 intro R
 induction R with
 |nil=>intro P o e _;rw[P7]at e;subst e;refine⟨o,?_⟩;unfold K4;rw[show(tG A (Sh N W F) P)[j]?=some (.l ((P.map tP).map .v))from gA hj];dsimp only;rw[List.getElem?_eq_none (by rw[u8,u8];exact O2 _)]
 |cons t R ih=>
  intro P o e hR;have ea:P++[t]++R=T:=by rw[S0];exact e
  obtain⟨o',e'⟩:=ih (P:=P++[t]) (o:=some (.v (tP t))) ea (λu hu=>hR u (O4 _ hu));rw[O1]at e';refine⟨o',?_⟩;have hz:t.1∉P.map (·.1):=λh=>by rw[<- e,R7,O6]at nd;exact(a1f.mp nd).2.2 _ h _ O0 rfl
  have hp:P.length<=40:=by rw[<- e,O1]at hl;omega
  obtain⟨h1,h2⟩:=hR t O0;have ef:Y9 [10] "by_name" (zc 0) [some (.o 10 [("roads",Sh N W F),("by_name",.d (VF P))]),some (Sh N W F),none,some (tP t)]=.ok (.d (VF P)):=by show(if 10∈[10]then ZS (List.lookup ("by_name":Str) [("roads",Sh N W F),("by_name",PV.d (VF P))])else .wall)=_;rw[if_pos O0,wW (by decide +kernel),bT];rfl
  have e1:hP RO (zg qz (zb (zc 1) (zb (zc 3) (zb (Y9 [10] "by_name" (zc 0)) zm)))) (tQ A (Sh N W F) j (some (.v (tP t)))) (tG A (Sh N W F) P)=.ok (.v .n) (tG A (Sh N W F) P):=
   EW rfl (kO Iq (kO rfl (yi (kO rfl gp)))) (zz (zp rfl (zp rfl (zp ef rfl))) (AY (W:=W) h1 h2 (ag hz))) rfl
  have e2:Hs (Hl [10] "by_name" (qo 0)) (hP RL (Se Sg (zc 3) (mC (.i 0)))) (qo 3) (tQ A (Sh N W F) j (some (.v (tP t)))) (tG A (Sh N W F) P)=.nx (tQ A (Sh N W F) j (some (.v (tP t)))) (tG A (Sh N W F) (P++[t])):=by refine(EX (y:=.v (tP t)) (k:=A.length+1) (z:=.s t.1) (q:=sk t.1) rfl (EY rfl ga0 O0 (by unfold tFs;rw[A5 (by decide +kernel),EZ])) (aO rfl rfl) ga1 rfl (by unfold vK VF;rw[u8,u8];omega)).trans ?_;unfold tG;rw[sa1,ug hz]
  have eb:yg (tQ A (Sh N W F) j (some (.v (tP t)))) (tG A (Sh N W F) P)=.nx (tQ A (Sh N W F) j (some (.v (tP t)))) (tG A (Sh N W F) (P++[t])):=zw (mY e1) e2;have ei:((T.map tP).map HV.v)[P.length]?=some (.v (tP t)):=by rw[<- e];simp
  rw[v0];unfold K4;rw[show(tG A (Sh N W F) P)[j]?=some (.l ((T.map tP).map .v))from gA hj];dsimp only;rw[ei];show(match yg (tQ A (Sh N W F) j (some (.v (tP t)))) (tG A (Sh N W F) P)with
   |.nx ρ2 G2=>K4 j yY yg R.length (P.length+1) ρ2 G2
   |.ct ρ2 G2=>K4 j yY yg R.length (P.length+1) ρ2 G2
   |.bk ρ2 G2=>.nx ρ2 G2
   |.rt v G2=>.rt v G2
   |.exc c fs G2=>.exc c fs G2
   |.wall=>.wall)=_
  rw[eb];exact e'
def Ir(T:List Tp):List PV:=(FA T).map λt=>.s t.1
def FC(T:List Tp):PV:=.l (Ir T)
def m4(A:AH)(ro:PV)(T:List Tp):AH:=A++[.o 10 [("roads",.v ro),("by_name",.g (A.length+1)),("order",.g (A.length+2))],.d (vK (VF T)),.l ((Ir T).map .v)]
def VG(ro:PV)(T:List Tp):PV:=.o 10 [("roads",ro),("by_name",.d (VF T)),("order",FC T)]
def E1:(FA T).length=T.length:=by unfold FA;rw[u8,(df (T.map EV)).1.length_eq,ό,u8]
def m5(hj:A[j]?=some (.l ((T.map tP).map .v)))(hT:∀t∈T,SG N F t/\Nm t.1)(nd:(T.map (·.1)).Nodup)(hl:T.length<=40):qM [.g A.length,.v (Sh N W F),.g j] (A++[.o 10 []])=.ok (.v .n) (m4 A (Sh N W F) T):=by
 obtain⟨o',e4⟩:=A7 (N:=N) (W:=W) (F:=F) hj nd hl (R:=T) (P:=[]) (o:=none) rfl hT;have g0:(A++[Cell.o 10 []])[A.length]?=some (.o 10 []):=by simp
 have e2:dg [10] "roads" (qo 0) (qo 1) (tQ A (Sh N W F) j none) (A++[.o 10 []])=.nx (tQ A (Sh N W F) j none) (A++[.o 10 [("roads",.v (Sh N W F))]]):=by refine(dU rfl rfl g0 O0 (by decide)).trans ?_;rw[show(A++[Cell.o 10 []]).set A.length (.o 10 (UA "roads" (.v (Sh N W F)) []))=A++[.o 10 [("roads",.v (Sh N W F))]] by simp[UA]]
 have g1:(A++[Cell.o 10 [("roads",.v (Sh N W F))]]++[.d []])[A.length]?=some (.o 10 [("roads",.v (Sh N W F))]):=by simp
 have e3:dg [10] "by_name" (qo 0) (hF [] sC) (tQ A (Sh N W F) j none) (A++[.o 10 [("roads",.v (Sh N W F))]])=.nx (tQ A (Sh N W F) j none) (tG A (Sh N W F) []):=by
  refine(dU (y:=.g (A++[Cell.o 10 [("roads",.v (Sh N W F))]]).length) (G1:=A++[Cell.o 10 [("roads",.v (Sh N W F))]]++[.d []]) rfl rfl g1 O0 (by show 1<1000;decide)).trans ?_;have e:UA "by_name" (.g (A++[Cell.o 10 [("roads",.v (Sh N W F))]]).length) [("roads",.v (Sh N W F))]=tFs (Sh N W F) (A.length+1):=by rw[O1];show(if(("roads":Str)="by_name")then _ else _)=_;rw[if_neg (by decide +kernel)];rfl
  rw[e,show A++[Cell.o 10 [("roads",.v (Sh N W F))]]++[.d []]=A++[.o 10 [("roads",.v (Sh N W F))],.d []] by rw[S0];rfl,sa0];rfl
 have e4':Eh (qo 2) yY yg (tQ A (Sh N W F) j none) (tG A (Sh N W F) [])=.nx (tQ A (Sh N W F) j o') (tG A (Sh N W F) T):=by
  show(match(tG A (Sh N W F) [])[j]? with
   |some (.l xs)=>K4 j yY yg xs.length 0 (tQ A (Sh N W F) j none) (tG A (Sh N W F) [])
   |_=>.wall)=_
  rw[show(tG A (Sh N W F) [])[j]?=some (.l ((T.map tP).map .v))from gA hj];dsimp only;rw[u8,u8];exact e4
 have ls:Tq vX vY vZ ((FA T).map tP) [none] []=.ok (FC T):=
  Z3 tP (λt=>PV.s t.1) (λU=>∃o,U=[o]) _ _ ⟨none,rfl⟩ (λt _ U ⟨o,ho⟩=>by subst ho;exact⟨_,rfl,⟨_,rfl⟩,zo rfl rfl rfl⟩) (by rw[E1];omega)
 have tl:(tG A (Sh N W F) T).length=A.length+2:=by unfold tG;rw[O1];rfl
 have e5:dg [10] "order" (qo 0) (hF RX (SO (zN (mF zI (zb (zc 2) zm))) [none] vX vY vZ)) (tQ A (Sh N W F) j o') (tG A (Sh N W F) T)=.nx (tQ A (Sh N W F) j o') (m4 A (Sh N W F) T):=by
  refine(dU (y:=.g (tG A (Sh N W F) T).length) (G1:=tG A (Sh N W F) T++[.l ((Ir T).map .v)]) (Lr rfl (yi (yi (kO (v5 (n:=6) (xs:=T.map tP) (gA hj)) (ZT gp)))) (aQ (zK (show mF zI (zb (zc 2) zm) [none,none,some (.l (T.map tP)),none]=_ from AZ nd (by omega))) ls) (show Lj (FC T)=true from CO) rfl) rfl (gA ga0) O0 (by show 2<1000;decide)).trans ?_;have e:UA "order" (.g (tG A (Sh N W F) T).length) (tFs (Sh N W F) (A.length+1))=([("roads",.v (Sh N W F)),("by_name",.g (A.length+1)),("order",.g (A.length+2))]:List (Str×HV)):=by rw[tl];show(if(("roads":Str)="order")then _ else _::(if(("by_name":Str)="order")then _ else _))=_;rw[if_neg (by decide +kernel),if_neg (by decide +kernel)];rfl
  rw[e];unfold m4;rw[S0];simp
 have ev:vp (tQ A (Sh N W F) j none) (A++[.o 10 []])=.nx (tQ A (Sh N W F) j o') (m4 A (Sh N W F) T):=
  zw (mY (EW rfl (yi (yi (kO (v5 (n:=6) (gA hj)) (ZT gp)))) (zz (xs:=[.l (T.map tP),.i 40]) rfl (iW qQ (by omega))) rfl)) (zw e2 (zw e3 (zw e4' e5)))
 show(match vp (tQ A (Sh N W F) j none) (A++[.o 10 []])with
  |.nx _ G'=>HX.ok (HV.v .n) G'
  |.rt x G'=>.ok x G'
  |.exc c fs G'=>.exc c fs G'
  |_=>.wall)=_
 rw[ev]
def ah(h:G[k]?=some (.o 10 [("roads",.v ro),("by_name",.g j),("order",.g i)]))(h2:G[j]?=some (.d (vK (VF T))))(h3:G[i]?=some (.l ((Ir T).map .v))):jH G (n+3) (.g k)=some (VG ro T):=by unfold jH;rw[h];show(Option.map (PV.o 10) ((jH _ (n+2) (.v ro)).bind λy=>(((jH _ (n+2) (.g j)).bind λy=>((((jH _ (n+2) (.g i)).bind λy=>((some []).map ((("order":Str),y)::·)))).map ((("by_name":Str),y)::·))).map ((("roads":Str),y)::·))))=_;rw[mZ (T:=T) h2,v5 (n:=n) h3];rfl
end
def Ym(h:p U=.exc c fs):zX p q U=.exc c fs:=by unfold zX;rw[h];rfl
def jc{fr:Bool}{n:Nat}{ms:MS}{xs:Pe}{c:Nat}{fs:Pj}(h:ms (xs.map some++List.replicate (n-xs.length) none)=.exc c fs):ZH fr n ms xs=.exc c fs:=by unfold ZH;rw[h]
def gx(h:m U=.ok (VG ro T)):Y9 [10] "by_name" m U=.ok (.d (VF T)):=by unfold Y9;rw[h,SE];show(if 10∈[10]then ZS (List.lookup ("by_name":Str) [("roads",ro),("by_name",PV.d (VF T)),("order",FC T)])else .wall)=_;rw[if_pos O0,wW (by decide +kernel),bT];rfl
def jQ(h:m U=.ok (VG ro T)):Y9 [10] "roads" m U=.ok ro:=by unfold Y9;rw[h,SE];show(if 10∈[10]then ZS (List.lookup ("roads":Str) [("roads",ro),("by_name",PV.d (VF T)),("order",FC T)])else .wall)=_;rw[if_pos O0,bT];rfl
def uh(nd:(T.map (·.1)).Nodup)(ht:t∈T):zr [VG ro T,.s t.1]=.ok (tP t):=by
 have b:=gx (m:=zc 0) (U:=[some (VG ro T),some (.s t.1)]) (ro:=ro) (T:=T) rfl;have e:=uf nd ht;refine zZ (zd ⟨_,(yX (x:=false) (yh (zo (x:=.s t.1) rfl b ?_))).trans (show _=Out.ok (Fw.nx [some (VG ro T),some (.s t.1)])from rfl),VD (zo b (y:=.s t.1) rfl ?_)⟩)
 .show Out.ok (PV.b (xor true (zM (VF T) (sk t.1)).isSome))=_;rw[e];rfl
 .show ZS (zM (VF T) (sk t.1))=_;rw[e];rfl
def ui(hz:z∉T.map (·.1)):zr [VG ro T,.s z]=.exc 7 [("name",.s z)]:=by have b:=gx (m:=zc 0) (U:=[some (VG ro T),some (.s z)]) (ro:=ro) (T:=T) rfl;refine jc (Ym ((yX (x:=true) (yh (zo (x:=.s z) rfl b ?_))).trans rfl));show Out.ok (PV.b (xor true (zM (VF T) (sk z)).isSome))=_;rw[ag hz];rfl
def m6(ha:a U=.ok (VG ro T))(hm:ms U=.ok xs):jB [(10,f)] "trip" a ms U=f (VG ro T::xs):=by unfold jB;rw[ha,SE];show(if(List.lookup ("trip":Str) [("roads",ro),("by_name",PV.d (VF T)),("order",FC T)]).isSome=true then Out.wall else(ms U).bind λxs=>f (VG ro T::xs))=_;rw[wW (by decide +kernel),wW (by decide +kernel),wW (by decide +kernel),B6,if_neg (by intro z;cases z),hm,SE]
def yC(h0:0<=k)(h1:k<=1000)(hm:0<m):∃x:Int,0<=x/\x<m/\zi [.sc ns,.i k,.i m]=.ok (.i x):=by
 obtain⟨c,c0,c1,q⟩:∃c:Int,0<=c/\c<1000000007/\Sy (zW (Se TU (zg jC (zb (zc 0) zm)) (mC (.i 0)))) (qb 3 (Se KP (Se Sg (zc 0) (Se KP (zc 1) (zg jC (zb (zc 0) zm)))) (mC (.i 1000000007)))) yH [some (.sc ns),some (.i k),some (.i m),some (.i 5)]=.ok (.nx [some (.sc ns),some (.i k),some (.i m),some (.i c)]):=by
  have l:zg jC (zb (zc 0) zm) [some (.sc ns),some (.i k),some (.i m),some (.i 5)]=.ok (.i (ns.length:Int)):=zz (xs:=[.sc ns]) rfl rfl;have t:=λP Q=>yX (a:=P) (b:=Q) (VC (n:=0) l);by_cases c:(ns.length:Int)>0
  .rw[O9 c]at t;have b0:=a1P k (show(ns.length:Int)≠0 by omega);have b1:=a1s k c;have e:Sg (.sc ns) (.i (k % (ns.length:Int)))=.ok (.i (ns[(k % (ns.length:Int)).toNat]'(by omega))):=by show ZS ((SV ns _).map PV.i)=_;rw[sD b0,P1 (by omega)];rfl
   exact⟨_,a1P _ (by decide),a1s _ (by decide),(t _ _).trans (yy (AU (zo rfl (zo rfl l (fm c)) e) (by decide)))⟩
  .rw[O8 c]at t;exact⟨5,by decide,by decide,t _ _⟩
 have kk:0<=k*k/\k*k<=1000000:=⟨Int.mul_nonneg h0 h0,Int.le_trans (Int.mul_le_mul h1 h1 h0 (by decide)) (by decide)⟩;exact⟨_,a1P _ (by omega),a1s _ hm,zZ (zd ⟨_,rfl,zd ⟨_,q,VD (zo (M7 (AU (zo (zo (zo rfl (zo rfl rfl (ZI (by decide) (by decide))) rfl) rfl rfl) (zo rfl (zo rfl rfl (ZI (by omega) (by omega))) rfl) (ZI (by omega) (by omega))) (by decide)) (by decide) (by decide)) rfl (fm hm))⟩⟩)⟩
abbrev i5:Str:="abcdefghijklmnopqrstuvwyz0123456789"
def s2(r:Int):Str:=⟨#[(i5.cps.toList[r.toNat]?).getD 0]⟩
def gz:i5.length=35:=by decide +kernel
def Iu:∀a:Fin 35,∀b:Fin 35,s2 (a.val:Int)=s2 (b.val:Int)->a=b:=by decide +kernel
def Nc:∀a:Fin 35,(i5.cps.toList[a.val]?).getD 0∈signs.cps.toList:=by decide +kernel
def Nd(h0:0<=r)(h1:r<35):Sg (.s i5) (.i r)=.ok (.s (s2 r)):=by
 unfold Sg;have hs:i5.length<=sizeLine:=by rw[gz];decide
 simp only[hs,if_true];have hl:r.toNat<i5.cps.toList.length:=by have:=gz;unfold Str.length at this;simp;omega
 rw[sD h0];unfold s2;rw[P1 hl];rfl
def Lu:∀a:Fin 13,(Txt.mul "x" (a.val:Int)).length=a.val/\∀c∈(Txt.mul "x" (a.val:Int)).cps.toList,c∈signs.cps.toList:=by decide +kernel
def υ(a b:Nat)(n:Nat):Str:=Txt.mul "x" (a:Int)++s2 (n:Int)++Txt.mul "x" ((b:Int)+(n:Int) % 2)
def str_len{a b:Str}:(a++b).length=a.length+b.length:=Array.size_append
def CP(h:a+b<=10)(hn:n<35):Nm (υ a b n):=by
 obtain⟨l1,g1⟩:=Lu ⟨a,by omega⟩;have e:(b:Int)+(n:Int) % 2=((b+n % 2:Nat):Int):=by omega
 obtain⟨l2,g2⟩:=Lu ⟨b+n % 2,by omega⟩;unfold υ;rw[e];refine⟨?_,((show Sgs _ from g1).app λc hc=>?_).app g2⟩
 .rw[str_len,str_len];have:(s2 (n:Int)).length=1:=rfl;dsimp only at l1 l2;omega
 .have:c∈[(i5.cps.toList[((n:Int)).toNat]?).getD 0]:=hc;rw[R9.mp this];exact Nc ⟨n,hn⟩
def E2(hm:m<35)(hn:n<35)(h:υ a b m=υ a b n):m=n:=by unfold υ at h;have h1:=(str_inj (a:=Txt.mul "x" (a:Int)++s2 (m:Int)) (a':=Txt.mul "x" (a:Int)++s2 (n:Int)) (by rw[str_len,str_len];rfl) h).1;have h2:=(str_inj rfl h1).2;exact SS Fin.val (Iu ⟨m,hm⟩ ⟨n,hn⟩ h2)
def CQ(hn:n<=35):((List.range n).map (υ a b)).Nodup:=nodup_range λj k hj hk e=>E2 (by omega) (by omega) e
def m7(h0:0<=k)(h1:k<=900):∃a b:Nat,a+b<=10/\∀n:Nat,n<35->qL [.sc ns,.i k,.i (n:Int)]=.ok (.s (υ a b n)):=by
 obtain⟨a,a0,a1,ea⟩:=yC (ns:=ns) (k:=k) (m:=11) h0 (by omega) (by decide);obtain⟨b,b0,b1,eb⟩:=yC (ns:=ns) (k:=k+1) (m:=11-a) (by omega) (by omega) (by omega);obtain⟨a,rfl⟩:=Ϩ a0;obtain⟨b,rfl⟩:=Ϩ b0;refine⟨a,b,by omega,λn hn=>?_⟩;have ml:∀{i:Int},0<=i->i<=100->qS (.s "x") (.i i)=.ok (.s (Txt.mul "x" i)):=λh h'=>if_pos ⟨by decide,by omega,by omega⟩;obtain⟨l1,_⟩:=Lu ⟨a,by omega⟩;have e:(b:Int)+(n:Int) % 2=((b+n % 2:Nat):Int):=by omega
 obtain⟨l2,_⟩:=Lu ⟨b+n % 2,by omega⟩;rw[<- e]at l2;dsimp only at l1 l2;have l3:(s2 (n:Int)).length=1:=rfl;exact zZ (zd ⟨_,yy (zz (xs:=[.sc ns,.i k,.i 11]) rfl ea),zd ⟨_,yy (zo (zz (xs:=[.sc ns,.i (k+1),.i (11-(a:Int))]) rfl eb) (AU rfl (by decide)) rfl),VD (zo (zo (zo rfl rfl (ml (by omega) (by omega))) (zo rfl rfl (Nd (by omega) (by omega))) (NX (n:=100) (by omega) (by decide))) (zo rfl rfl (ml (by omega) (by omega))) (NX (n:=100) (by rw[str_len];omega) (by decide)))⟩⟩)
abbrev ϔ(ns:Pn)(N:OP)(c:Int)(d:Bool)(W:List Wy)(x y:Pu):So:=[some (.sc ns),some (.l (N.map .s)),some (.i c),some (.b d),some (.i (N.length:Int)),some (.l (W.map wP)),x,y]
def uj(h:m (ϔ ns N c d W x y)=.ok (.t [.s o,.s g,.i n]))(hl:W.length<1000):rY 5 m (ϔ ns N c d W x y)=.ok (.nx (ϔ ns N c d (W++[(o,g,n)]) x y)):=by refine(gw rfl h (by rw[u8];omega)).trans ?_;show Out.ok (Fw.nx [some (.sc ns),some (.l (N.map .s)),some (.i c),some (.b d),some (.i (N.length:Int)),some (.l (W.map wP++[wP (o,g,n)])),x,y])=_;rw[show W.map wP++[wP (o,g,n)]=(W++[(o,g,n)]).map wP by rw[R7];rfl]
def NY{N:OP}{k:Nat}(h:k<N.length):Sg (.l (N.map .s)) (.i (k:Int))=.ok (.s N[k]):=by rw[oB (by omega) (by rw[u8];omega),Ϭ];rfl
def OI(W:List Wy)(a b:Str):Prop:=∃m,(a,b,m)∈W
def Ring(N:OP)(W:List Wy)(n:Nat):Prop:=∀k (h:k<N.length),k<n->OI W N[k] (N[(k+1) % N.length]'(a2U _ (by omega)))
def Ring.app(h:Ring N W n):Ring N (W++[w]) n:=λk hk hn=>(h k hk hn).imp λ_ e=>a0L _ e
def A8(h0:0<N.length)(h1:N.length<=5)(c0:1<=c)(c1:c<=100000):∃W:List Wy,W.length<=13/\WS N W/\Ring N W N.length/\vv [.sc ns,.l (N.map .s),.i c,.b true]=.ok (.l (W.map wP)):=by
 have mc:qS (.i 30) (.i c)=.ok (.i (30*c)):=ZI (by decide) (by decide);obtain⟨ρ1,⟨W1,x1,y1,l1,g1,r1,hρ⟩,e1⟩:=XN (g:=WK) (b:=WL) (λk U=>∃W x y,W.length<=k/\WS N W/\Ring N W k/\U=ϔ ns N c true W x y) N.length (ϔ ns N c true [] none none) ⟨[],none,none,O2 _,λw hw=>(nomatch hw),λk _ h=>(nomatch h),rfl⟩ (λk hk U ⟨W,x,y,lW,gW,rW,hρ⟩=>by
  subst hρ;have km:(k+1) % N.length<N.length:=a2U _ h0;obtain⟨s,s0,s1,es⟩:=yC (ns:=ns) (k:=10+(k:Int)) (m:=30*c) (by omega) (by omega) (by omega);have eg:Sg (.l (N.map .s)) (.i (((k:Int)+1) % (N.length:Int)))=.ok (.s N[(k+1) % N.length]):=by rw[show((k:Int)+1) % (N.length:Int)=(((k+1) % N.length:Nat):Int) by rw[Int.natCast_emod];rfl];exact NY km
  refine⟨_,rfl,_,⟨W++[(N[k],N[(k+1) % N.length],1+s)],some (.i (k:Int)),y,by rw[O1];exact a01 lW,gW.app (Β _) (Β _) (by omega) (by omega),λj hj hn=>?_,rfl⟩,.inl ((yX (x:=true) rfl).trans (uj (Y0 (zp (zo rfl rfl (NY hk)) (zp (zo rfl (zo (zo rfl rfl rfl) rfl (fm (by omega))) eg) (zp (zo rfl (zz (xs:=[.sc ns,.i (10+(k:Int)),.i (30*c)]) (zp rfl (zp rfl (zp (zo rfl rfl mc) rfl))) es) rfl) rfl))) (P2 rfl)) (by omega)))⟩;rcases Nat.lt_succ_iff_lt_or_eq.mp hn with h|rfl
  .exact rW.app j hj h
  .exact⟨_,R8 _ (R9.mpr rfl)⟩)
 subst hρ;obtain⟨m,m0,m1,em⟩:=yC (ns:=ns) (k:=4) (m:=9) (by decide) (by decide) (by decide);have nn:0<(N.length:Int)*(N.length:Int):=Int.mul_pos (by omega) (by omega);obtain⟨ρ2,⟨W,x,y,lW,gW,rW,hρ⟩,e2⟩:=XN (g:=WM) (b:=WN) (λk U=>∃W x y,W.length<=W1.length+k/\WS N W/\Ring N W N.length/\U=ϔ ns N c true W x y) m.toNat (ϔ ns N c true W1 x1 y1) ⟨W1,x1,y1,O2 _,g1,r1,rfl⟩ (λk hk U ⟨W,x,y,lW,gW,rW,hρ⟩=>by
  subst hρ;obtain⟨p,p0,p1,ep⟩:=yC (ns:=ns) (k:=20+(k:Int)) (m:=(N.length:Int)*(N.length:Int)) (by omega) (by omega) nn;obtain⟨o,ho,eo⟩:=EO (N:=N) (s:=p) h0;obtain⟨g,hg,eg⟩:=KI (xs:=N) (i:=p / (N.length:Int)) (Int.ediv_nonneg p0 (by omega)) (Int.ediv_lt_of_lt_mul (by omega) p1);obtain⟨s,s0,s1,es⟩:=yC (ns:=ns) (k:=30+(k:Int)) (m:=30*c) (by omega) (by omega) (by omega);exact⟨_,rfl,_,⟨W++[(o,g,1+s)],some (.i (k:Int)),some (.i p),by rw[O1];show W.length+1<=_;omega,gW.app ho hg (by omega) (by omega),rW.app,rfl⟩,.inl (zd ⟨ϔ ns N c true W (some (.i (k:Int))) (some (.i p)),yy (zz (xs:=[.sc ns,.i (20+(k:Int)),.i ((N.length:Int)*(N.length:Int))]) (zp rfl (zp rfl (zp (zo rfl rfl (ZI (by omega) (by omega))) rfl))) ep),uj (Y0 (zp (zo rfl (zo rfl rfl (fm (by omega))) eo) (zp (zo rfl (zo rfl rfl (B4 (by omega) (by omega))) eg) (zp (zo rfl (zz (xs:=[.sc ns,.i (30+(k:Int)),.i (30*c)]) (zp rfl (zp rfl (zp (zo rfl rfl mc) rfl))) es) rfl) rfl))) (P2 rfl)) (by omega)⟩)⟩)
 subst hρ;exact⟨W,by omega,gW,rW,zZ (zd ⟨_,yy (zz (xs:=[.l (N.map .s)]) rfl qQ),zd ⟨_,rfl,zd ⟨_,yE (fu (n:=N.length) rfl (by omega)) e1,zd ⟨_,yE (Uv (zp (zz (xs:=[.sc ns,.i 4,.i 9]) rfl em) rfl) m0 (by omega)) e2,rfl⟩⟩⟩⟩)⟩
def uk{N:OP}{W:List Wy}(h:Ring N W N.length){i:Nat}(hi:i<N.length):∀s:Nat,∃v,Tu N W N N[i] (N[(i+s) % N.length]'(a2U _ (by omega))) v
 |0=>⟨0,by simp only[Nat.add_zero,Nat.mod_eq_of_lt hi];exact .nil (Β _)⟩
 |s+1=>by
  obtain⟨v,k⟩:=uk h hi s;have hs:(i+s) % N.length<N.length:=a2U _ (by omega);obtain⟨m,e⟩:=h _ hs hs;have:((i+s) % N.length+1) % N.length=(i+(s+1)) % N.length:=by rw[Nat.mod_add_mod];rfl
  simp only[this]at e;exact⟨v+m,.via (Β _) k (.edge e)⟩
def conn{N:OP}{W:List Wy}{F:Str->Ht}(hW:WS N W)(gF:∀z,Jd z W (F z))(h:Ring N W N.length){a b:Str}(ha:a∈N)(hb:b∈N):(zM (F a) (sk b)).isSome=true:=by
 obtain⟨i,hi,rfl⟩:=a2V.mp ha;obtain⟨j,hj,rfl⟩:=a2V.mp hb;obtain⟨v,k⟩:=uk h hi (j+N.length-i);have:(i+(j+N.length-i)) % N.length=j:=by rw[show i+(j+N.length-i)=j+N.length by omega,Nat.add_mod_right,Nat.mod_eq_of_lt hj]
 simp only[this]at k;obtain⟨y,_,e⟩:=ae hW (gF _) k 0 (gF _).1.own;rw[e];rfl
def ο(F:Str->Ht)(t u:Tp):Prop:=∃y,zM (F t.2.2.1) (sk u.2.1)=some y/\t.2.2.2.2.1+y<=u.2.2.2.1
def tri{N:OP}{W:List Wy}{F:Str->Ht}{a b c:Str}{u v:Int}(hW:WS N W)(gF:∀z,Jd z W (F z))(hb:b∈N)(h1:zM (F a) (sk b)=some u)(h2:zM (F b) (sk c)=some v):∃y,y<=u+v/\zM (F a) (sk c)=some y:=ae hW (gF a) (af hW (gF b) hb _ (O2 _) h2) u h1
def m8{α:Type}:∀{U:List α}{j:Nat}{x:α},U[j]?=some x->U.set j x=U
 |[],_,_,h=>by cases h
 |a::U,0,x,h=>by cases h;rfl
 |a::U,j+1,x,h=>SS (a::·) (m8 (U:=U) h)
def CS(hL:ϒ P L F)(hO:∀o∈P,zM (F o) (sk o)=some 0)(ha:a∈P)(hb:b∈P)(h2:zc 2 U=.ok (.dt L))(hi:zc i U=.ok (.s a))(hj:U[j]?=some (some (.s b))):∃o d,o∈P/\zM (F a) (sk o)=some d/\Sy (zW (ot true (zb (zc i) (zb (zc j) zm)) (zc 2))) (qb j (zc i)) yH U=.ok (.nx (U.set j (some (.s o)))):=by
 have hj':zc j U=.ok (.s b):=by unfold zc;rw[hj]
 have t:=yX (a:=qb j (zc i)) (b:=yH) (mQ (n:=true) (ms:=zb (zc i) (zb (zc j) zm)) (m:=zc 2) (zp hi (zp hj' rfl)) h2);cases e:zM L [sk a,sk b]with
 |none=>rw[e]at t;exact⟨a,0,ha,hO a ha,t.trans (yy hi)⟩
 |some y=>rw[e]at t;exact⟨b,y,hb,(hL a ha b hb).symm.trans e,t.trans (by rw[m8 hj];rfl)⟩
def i6(h0:zc 0 U=.ok (.sc ns))(h8:zc 8 U=.ok (.i k))(hm:m U=.ok (.i n))(q0:0<=q)(q1:q<=50)(k0:0<=k)(k1:k<=100)(hn:0<n):∃x:Int,0<=x/\x<n/\zg zi (zb (zc 0) (zb (Se zU (mC (.i q)) (Se qS (mC (.i 5)) (zc 8))) (zb m zm))) U=.ok (.i x):=by obtain⟨x,x0,x1,e⟩:=yC (ns:=ns) (k:=q+5*k) (m:=n) (by omega) (by omega) hn;exact⟨x,x0,x1,zz (zp h0 (zp (zo rfl (zo rfl h8 (ZI (by decide) (by decide))) rfl) (zp hm rfl))) e⟩
abbrev tS(ns:Pn)(P:OP)(L:SU)(c m:Int)(T:List Tp)(o:Str)(tm:Int)(r:So):So:=[some (.sc ns),some (.l (P.map .s)),some (.dt L),some (.i c),some (.i m),some (.l (T.map tP)),some (.s o),some (.i tm)]++r
structure E3(P:OP)(F:Str->Ht)(nm:Rg)(T:List Tp):Prop where
 nms:T.map (·.1)=(List.range T.length).map nm
 ok:∀t∈T,SG P F t
 lnk:T.Pairwise (ο F)
structure Nf(P:OP)(F:Str->Ht)(nm:Rg)(T:List Tp)(o:Str)(tm:Int):Prop extends E3 P F nm T where
 here:o∈P
 t0:0<=tm
 t1:tm<=159000000+30000000*(T.length:Int)
 beh:∀t∈T,∃y,zM (F t.2.2.1) (sk o)=some y/\t.2.2.2.2.1+y<=tm
def Ng(hW:WS P W)(gF:∀z,Jd z W (F z))(hL:ϒ P L F)(h5:0<P.length)(hF:∀o∈P,∀z y,zM (F o) (sk z)=some y->0<=y/\y<=12000000)(c0:1<=c)(c1:c<=100000)(hn:∀n:Nat,n<35->qL [.sc ns,.i 7,.i (n:Int)]=.ok (.s (nm n)))(hT:Nf P F nm T o tm)(hl:T.length<12):
  ∃t g tm' r',Nf P F nm (T++[t]) g tm'/\r'.length=5/\Yk (tS ns P L c m T o tm [some (.i (T.length:Int)),r9,r10,r11,r12,r13])=.ok (.nx (tS ns P L c m (T++[t]) g tm' (some (.i (T.length:Int))::r'))):=by
 have hO:∀o∈P,zM (F o) (sk o)=some 0:=λo _=>(gF o).1.own;have hlen:∀U:So,zc 1 U=.ok (.l (P.map .s))->zg jC (zb (zc 1) zm) U=.ok (.i (P.length:Int)):=λU h=>zz (zp h rfl) qQ;have mc:∀U:So,zc 3 U=.ok (.i c)->Se qS (mC (.i 30)) (zc 3) U=.ok (.i (30*c)):=λU h=>zo rfl h (ZI (by decide) (by decide));obtain⟨x1,x10,x11,ex1⟩:=i6 (ns:=ns) (q:=40) (U:=tS ns P L c m T o tm [some (.i (T.length:Int)),r9,r10,r11,r12,r13]) rfl rfl (hlen _ rfl) (by decide) (by decide) (by omega) (by omega) (by omega);obtain⟨a0,ha0,ea0⟩:=KI (xs:=P) x10 x11;obtain⟨a,d,ha,ed,q2⟩:=CS (i:=6) (j:=9) (U:=tS ns P L c m T o tm [some (.i (T.length:Int)),some (.s a0),r10,r11,r12,r13]) hL hO hT.here ha0 rfl rfl rfl;obtain⟨x2,x20,x21,ex2⟩:=i6 (ns:=ns) (q:=41) (U:=tS ns P L c m T o tm [some (.i (T.length:Int)),some (.s a),r10,r11,r12,r13]) rfl rfl (hlen _ rfl) (by decide) (by decide) (by omega) (by omega) (by omega);obtain⟨g0,hg0,eg0⟩:=KI (xs:=P) x20 x21;obtain⟨g,e,hg,ee,q4⟩:=CS (i:=9) (j:=10) (U:=tS ns P L c m T o tm [some (.i (T.length:Int)),some (.s a),some (.s g0),r11,r12,r13]) hL hO ha hg0 rfl rfl rfl;obtain⟨x3,x30,x31,ex3⟩:=i6 (ns:=ns) (q:=42) (m:=mC (.i 2)) (U:=tS ns P L c m T o tm [some (.i (T.length:Int)),some (.s a),some (.s g),r11,r12,r13]) rfl rfl rfl (by decide) (by decide) (by omega) (by omega) (by decide);obtain⟨x4,x40,x41,ex4⟩:=i6 (ns:=ns) (q:=43) (U:=tS ns P L c m T o tm [some (.i (T.length:Int)),some (.s a),some (.s g),r11,r12,r13]) rfl rfl (mc _ rfl) (by decide) (by decide) (by omega) (by omega) (by omega);obtain⟨sp,sp0,sp1,esp⟩:∃s:Int,0<=s/\s<3000000/\x3*x4=s:=by
  rcases(show x3=0\/x3=1 by omega)with rfl|rfl
  .exact⟨0,by decide,by decide,Int.zero_mul _⟩
  .exact⟨x4,x40,by omega,Int.one_mul _⟩
 obtain⟨x5,x50,x51,ex5⟩:=i6 (ns:=ns) (q:=44) (m:=mC (.i 3)) (U:=tS ns P L c m T o tm [some (.i (T.length:Int)),some (.s a),some (.s g),some (.i sp),r12,r13]) rfl rfl rfl (by decide) (by decide) (by omega) (by omega) (by decide);obtain⟨x6,x60,x61,ex6⟩:=i6 (ns:=ns) (q:=45) (U:=tS ns P L c m T o tm [some (.i (T.length:Int)),some (.s a),some (.s g),some (.i sp),r12,r13]) rfl rfl (mc _ rfl) (by decide) (by decide) (by omega) (by omega) (by omega);obtain⟨mo,mo0,mo1,emo⟩:∃s:Int,0<=s/\s<3000000/\x5 % 2*x6=s:=by
  rcases(show x5 % 2=0\/x5 % 2=1 by omega)with h|h<;>rw[h]
  .exact⟨0,by decide,by decide,Int.zero_mul _⟩
  .exact⟨x6,x60,by omega,Int.one_mul _⟩
 have bd:=hF o hT.here a d ed;have be:=hF a ha g e ee;have b1:=hT.t1;have b0:=hT.t0;obtain⟨st,hst⟩:∃s:Int,tm+d+sp=s:=⟨_,rfl⟩;obtain⟨fi,hfi,f0,f1⟩:∃f:Int,max (st+1) (st+e+mo)=f/\st+1<=f/\st+e<=f:=⟨_,rfl,by omega,by omega⟩;have f2:fi<=st+15000000:=by omega
 obtain⟨x7,x70,x71,ex7⟩:=i6 (ns:=ns) (q:=46) (m:=mC (.i 7)) (U:=tS ns P L c m T o fi [some (.i (T.length:Int)),some (.s a),some (.s g),some (.i sp),some (.i mo),some (.i st)]) rfl rfl rfl (by decide) (by decide) (by omega) (by omega) (by decide);have oS:∀{p q:Str}{v:Int}{U:So}{i j:Nat},p∈P->q∈P->zM (F p) (sk q)=some v->zc 2 U=.ok (.dt L)->zc i U=.ok (.s p)->zc j U=.ok (.s q)->mB (zc 2) (zb (zc i) (zb (zc j) zm)) U=.ok (.i v):=λhp hq e h2 hi hj=>cg h2 (zp hi (zp hj rfl)) ((hL _ hp _ hq).trans e);have bt:∀t∈T,ο F t (nm T.length,a,g,st,fi,x7)/\∃y,zM (F t.2.2.1) (sk g)=some y/\t.2.2.2.2.1+y<=fi:=λt ht=>by obtain⟨y,ey,ly⟩:=hT.beh t ht;obtain⟨y1,l1,e1⟩:=tri hW gF hT.here ey ed;obtain⟨y2,l2,e2⟩:=tri hW gF ha e1 ee;exact⟨⟨y1,e1,by show _<=st;omega⟩,y2,e2,by omega⟩
 refine⟨(nm T.length,a,g,st,fi,x7),g,fi,[some (.s a),some (.s g),some (.i sp),some (.i mo),some (.i st)],{ nms:=?_,ok:=?_,lnk:=?_,here:=hg,t0:=by omega,t1:=?_,beh:=?_ },rfl,?_⟩
 .rw[R7,hT.nms,O1,a0T,List.range_succ,R7];rfl
 .intro t ht;rcases T8.mp ht with h|h
  .exact hT.ok t h
  .rw[R9.mp h];exact⟨ha,hg,⟨e,ee,by show e<=fi-st;omega⟩,by show 0<=st;omega,by show st<fi;omega,by show fi<=_;omega,⟨x70,by show x7<=_;omega⟩⟩
 .rw[a2W];exact⟨hT.lnk,a1u _ _,λt ht u hu=>by rw[R9.mp hu];exact(bt t ht).1⟩
 .rw[O1,a0T];omega
 .intro t ht;rcases T8.mp ht with h|h
  .exact(bt t h).2
  .rw[R9.mp h];exact⟨0,hO g hg,by show fi+0<=fi;omega⟩
 .refine zd ⟨_,yy (zo rfl ex1 ea0),zd ⟨_,q2,zd ⟨_,yy (zo rfl ex2 eg0),zd ⟨_,q4,zd ⟨_,yy (zo ex3 ex4 ((ZI (by omega) (by omega)).trans (by rw[esp]))),zd ⟨_,yy (zo (AU ex5 (by decide)) ex6 ((ZI (by omega) (by omega)).trans (by rw[emo]))),zd ⟨tS ns P L c m T o tm [some (.i (T.length:Int)),some (.s a),some (.s g),some (.i sp),some (.i mo),some (.i st)],?_,zd ⟨tS ns P L c m T o fi [some (.i (T.length:Int)),some (.s a),some (.s g),some (.i sp),some (.i mo),some (.i st)],?_,zd ⟨tS ns P L c m (T++[(nm T.length,a,g,st,fi,x7)]) o fi [some (.i (T.length:Int)),some (.s a),some (.s g),some (.i sp),some (.i mo),some (.i st)],?_,rfl⟩⟩⟩⟩⟩⟩⟩⟩⟩
  .rw[<- hst];exact yy (zo (zo rfl (oS hT.here ha ed rfl rfl rfl) rfl) rfl rfl)
  .rw[<- hfi];exact yy (zz (zp (zo rfl rfl rfl) (zp (zo (zo rfl (oS ha hg ee rfl rfl rfl) rfl) rfl rfl) rfl)) rfl)
  .refine(gw (xs:=T.map tP) (y:=tP (nm T.length,a,g,st,fi,x7)) rfl (Y0 (zp (zz (xs:=[.sc ns,.i 7,.i (T.length:Int)]) rfl (hn _ (by omega))) (zp rfl (zp rfl (zp rfl (zp rfl (zp ex7 rfl)))))) (P2 rfl)) (by rw[u8];omega)).trans ?_;rw[show T.map tP++[tP (nm T.length,a,g,st,fi,x7)]=(T++[(nm T.length,a,g,st,fi,x7)]).map tP by rw[R7];rfl];rfl
section
variable {ns:Pn}{P N:OP}{W:List Wy}{F:Str->Ht}{L:SU}{c:Int}{T R:List Tp}{t u:Tp}{o p Sd:Str}{nm:Rg}{ro:PV}
def um(hW:WS P W)(gF:∀z,Jd z W (F z))(hL:ϒ P L F)(h5:0<P.length)(hF:∀o∈P,∀z y,zM (F o) (sk z)=some y->0<=y/\y<=12000000)(c0:1<=c)(c1:c<=100000)(hn:∀n:Nat,n<35->qL [.sc ns,.i 7,.i (n:Int)]=.ok (.s (nm n)))(hm:m<=12):∃T,E3 P F nm T/\T.length=m/\(∀t∈T,t.2.2.2.2.1<=519000000)/\j_ [.sc ns,.l (P.map .s),.dt L,.i c,.i (m:Int)]=.ok (.l (T.map tP)):=by
 obtain⟨x,x0,x1,ex⟩:=yC (ns:=ns) (k:=5) (m:=(P.length:Int)) (by decide) (by decide) (by omega);obtain⟨o,ho,eo⟩:=KI (xs:=P) x0 x1;obtain⟨y,y0,y1,ey⟩:=yC (ns:=ns) (k:=6) (m:=1440*c) (by decide) (by decide) (by omega);obtain⟨U',⟨T,o',tm,r8,r9,r10,r11,r12,r13,lT,hT,hρ⟩,e⟩:=XN (g:=Vr) (b:=Yk) (λk U=>∃(T:List Tp)(o:Str)(tm:Int)(r8 r9 r10 r11 r12 r13:Pu),T.length=k/\Nf P F nm T o tm/\U=tS ns P L c m T o tm [r8,r9,r10,r11,r12,r13]) m (tS ns P L c m [] o (150*c+y) [none,none,none,none,none,none]) ⟨[],o,150*c+y,none,none,none,none,none,none,rfl,{ nms:=rfl,ok:=λt h=>(nomatch h),lnk:=List.Pairwise.nil,here:=ho,t0:=by omega,t1:=by show _<=159000000+30000000*(0:Int);omega,beh:=λt h=>(nomatch h) },rfl⟩ (λk hk U ⟨T,o,tm,r8,r9,r10,r11,r12,r13,lT,hT,hρ⟩=>by
  subst hρ lT;obtain⟨t,g,tm',r',hT',lr,e⟩:=Ng (c:=c) (m:=(m:Int)) (r9:=r9) (r10:=r10) (r11:=r11) (r12:=r12) (r13:=r13) hW gF hL h5 hF c0 c1 hn hT (by omega);obtain⟨a1,a2,a3,a4,a5,rfl⟩:∃a1 a2 a3 a4 a5,r'=[a1,a2,a3,a4,a5]:=by
   match r',lr with
   |[a1,a2,a3,a4,a5],_=>exact⟨a1,a2,a3,a4,a5,rfl⟩
  exact⟨_,rfl,_,⟨T++[t],g,tm',_,a1,a2,a3,a4,a5,by rw[O1];rfl,hT',rfl⟩,.inl e⟩)
 subst hρ;have hb:∀t∈T,t.2.2.2.2.1<=519000000:=λt ht=>by obtain⟨y,ey,l⟩:=hT.beh t ht;have:=(hF _ (hT.ok t ht).goal _ y ey).1;have:=hT.t1;omega
 exact⟨T,⟨hT.nms,hT.ok,hT.lnk⟩,lT,hb,zZ (zd ⟨_,rfl,zd ⟨_,yy (zo rfl (zz (xs:=[.sc ns,.i 5,.i (P.length:Int)]) (zp rfl (zp rfl (zp (zz (zp rfl rfl) qQ) rfl))) ex) eo),zd ⟨_,yy (zo (zo rfl rfl (ZI (by decide) (by decide))) (zz (xs:=[.sc ns,.i 6,.i (1440*c)]) (zp rfl (zp rfl (zp (zo rfl rfl (ZI (by decide) (by decide))) rfl))) ey) rfl),zd ⟨_,yE (fu (n:=m) rfl (by omega)) e,rfl⟩⟩⟩⟩)⟩
def Nh(F:Str->Ht)(t u:Tp):PV:=CL ((zM (F t.2.2.1) (sk u.2.1)).map λy=>u.2.2.2.1-t.2.2.2.2.1-y)
def cj(ha:a U=.ok (Sh N W F))(ho:o∈N)(hp:p∈N)(hm:ms U=.ok [.s o,.s p]):jB [(11,zt)] "length" a ms U=.ok (CL (zM (F o) (sk p))):=X7 ha hm (by decide +kernel) (by decide +kernel) (by decide +kernel) (cf ho hp)
def bA(nd:(T.map (·.1)).Nodup)(ht:t∈T)(ha:a U=.ok (VG ro T))(hm:ms U=.ok [.s t.1]):jB [(10,zr)] "trip" a ms U=.ok (tP t):=(m6 ha hm).trans (uh nd ht)
def Iv(nd:(T.map (·.1)).Nodup)(hT:∀t∈T,SG N F t)(ht:t∈T)(hu:u∈T):oz [VG (Sh N W F) T,.s t.1,.s u.1]=.ok (Nh F t u):=by
 have e5:qb 5 (jB [(11,zt)] "length" (Y9 [10] "roads" (zc 0)) (zb (Se Sg (zc 3) (mC (.i 2))) (zb (Se Sg (zc 4) (mC (.i 1))) zm))) [some (VG (Sh N W F) T),some (.s t.1),some (.s u.1),some (tP t),some (tP u),none]=.ok (.nx [some (VG (Sh N W F) T),some (.s t.1),some (.s u.1),some (tP t),some (tP u),some (CL (zM (F t.2.2.1) (sk u.2.1)))]):=
  yy (cj (jQ rfl) (hT t ht).goal (hT u hu).org rfl)
 have go:=λ{o:Out Fw}(h:zX (Sy (zW (Se (xO false) (zc 5) (mC .n))) (Z0 (mC .n)) yH) (Z0 (Se XJ (Se XJ (Se Sg (zc 4) (mC (.i 3))) (Se Sg (zc 3) (mC (.i 4)))) (zc 5))) [some (VG (Sh N W F) T),some (.s t.1),some (.s u.1),some (tP t),some (tP u),some (CL (zM (F t.2.2.1) (sk u.2.1)))]=o)=>(zd ⟨_,yy (bA nd ht rfl rfl),zd ⟨_,yy (bA nd hu rfl rfl),zd ⟨_,e5,h⟩⟩⟩:EF [some (VG (Sh N W F) T),some (.s t.1),some (.s u.1),none,none,none]=o);unfold Nh;cases e:zM (F t.2.2.1) (sk u.2.1)with
 |none=>rw[e]at go;exact zZ (go (Us ((yX (x:=true) rfl).trans rfl)))
 |some y=>rw[e]at go;exact zZ (go (zd ⟨_,(yX (x:=false) rfl).trans rfl,VD (zo (zo (x:=.i u.2.2.2.1) (y:=.i t.2.2.2.2.1) rfl rfl rfl) (y:=.i y) rfl rfl)⟩))
def gB(nd:(T.map (·.1)).Nodup)(hT:∀t∈T,SG N F t)(ht:t∈T)(hu:u∈T)(h:ο F t u):wI [VG (Sh N W F) T,.s t.1,.s u.1]=.ok (.b true):=by obtain⟨y,ey,ly⟩:=h;have g:=Iv (W:=W) nd hT ht hu;unfold Nh at g;rw[ey]at g;exact zZ (zd ⟨_,yy (zz (xs:=[VG (Sh N W F) T,.s t.1,.s u.1]) rfl g),VD (t4 (x:=true) (y:=true) rfl (zo (y:=.i 0) rfl rfl (by show Out.ok (PV.b (decide (u.2.2.2.1-t.2.2.2.2.1-y ≥ 0)))=_;rw[O9 (by omega)])))⟩)
abbrev Sv(R:List Tp):PV:=.l (R.map λt=>.s t.1)
def uo(nd:(T.map (·.1)).Nodup)(hR:∀t∈R,t∈T):qa [VG ro T,Sv R]=.ok .n:=by
 obtain⟨U',⟨x,rfl⟩,e⟩:=Z4 (g:=Qx) (b:=jO) (λt:Tp=>PV.s t.1) (λ_ U=>∃x,U=[some (VG ro T),some (Sv R),x]) R [some (VG ro T),some (Sv R),none] ⟨none,rfl⟩ (λk hk U ⟨x,hρ⟩=>by
  subst hρ;exact⟨_,rfl,_,⟨some (.s R[k].1),rfl⟩,.inl (zO (bA (t:=R[k]) nd (hR _ (Β _)) rfl rfl))⟩)
 exact VE rfl (yE (zK rfl) e)
def NZ:∀{R:List Tp},R.Pairwise (ο F)->∀q∈R.zip R.tail,q.1∈R/\q.2∈R/\ο F q.1 q.2
 |[],_,q,h=>by cases h
 |[t],_,q,h=>by cases h
 |t::u::R,hp,q,h=>by
  rw[a1b]at hp;rcases P9.mp (show q∈(t,u)::(u::R).zip (u::R).tail from h)with rfl|h
  .exact⟨O0,O4 _ O0,hp.1 u O0⟩
  .obtain⟨a,b,k⟩:=NZ hp.2 q h;exact⟨O4 _ a,O4 _ b,k⟩
def oH(nd:(T.map (·.1)).Nodup)(hT:∀t∈T,SG N F t)(hR:∀t∈R,t∈T)(hp:R.Pairwise (ο F)):yS [VG (Sh N W F) T,Sv R]=.ok .n:=by
 obtain⟨U',⟨x,y,rfl⟩,e⟩:=Z4 (g:=YB) (b:=YC) (λq:Tp×Tp=>PV.t [.s q.1.1,.s q.2.1]) (λ_ U=>∃x y,U=[some (VG (Sh N W F) T),some (Sv R),x,y]) (R.zip R.tail) [some (VG (Sh N W F) T),some (Sv R),none,none] ⟨none,none,rfl⟩ (λk hk U ⟨x,y,hρ⟩=>by
  subst hρ;obtain⟨a,b,l⟩:=NZ hp _ (Β hk);exact⟨_,rfl,_,⟨some (.s (R.zip R.tail)[k].1.1),some (.s (R.zip R.tail)[k].2.1),rfl⟩,.inl ((yX (x:=false) (tZ (yh (zz rfl (gB (W:=W) nd hT (hR _ a) (hR _ b) l))))).trans rfl)⟩)
 have ez:Lq (zb (zc 1) (zb (Ϡ Φ (zc 1) (V7 (mC (.i 1))) oU) zm)) [some (VG (Sh N W F) T),some (Sv R),none,none]=.ok ((R.zip R.tail).map λq=>PV.t [.s q.1.1,.s q.2.1]):=by
  show Out.ok (HI (R.map λt=>PV.s t.1) (l7 (R.map λt=>PV.s t.1) (some 1) none))=_;have:l7 (R.map λt=>PV.s t.1) (some 1) none=R.tail.map λt=>PV.s t.1:=by
   cases R with
   |nil=>rfl
   |cons t R=>rw[A4 (by decide) (by rw[u8,v0];omega)];rfl
  rw[this];unfold HI List.zip;rw[List.zipWith_map,List.map_zipWith]
 exact VE rfl (zd ⟨_,zO (zz rfl (uo nd hR)),yE ez e⟩)
def gC:yM [Sh N W F]=.ok (.l (N.map .s)):=zZ (VD (zz (zp (ub rfl).1 rfl) rfl))
def uq(nd:(T.map (·.1)).Nodup)(hT:∀t∈T,SG N F t)(hR:∀t∈R,t∈T)(hp:R.Pairwise (ο F))(hh:Sd∈N):jm [VG (Sh N W F) T,.s Sd,Sv R]=.ok .n:=
 VE rfl (zd ⟨_,zO (zz (zp rfl (zp (X7 (N:=N) (W:=W) (F:=F) (jQ rfl) (xs:=[]) rfl (by decide +kernel) (by decide +kernel) (by decide +kernel) gC) rfl)) (kl hh)),zO (zz rfl (oH nd hT hR hp))⟩)
def dW(ho:o∈N)(hp:p∈N):jj [Sh N W F,.s o,.s p]=match zM (F o) (sk p)with|none=>.exc 6 [("origin",.s o),("goal",.s p)]|some _=>.ok .n:=by
 have l:=cj (W:=W) (F:=F) (a:=zc 0) (U:=[some (Sh N W F),some (.s o),some (.s p)]) (ms:=zb (zc 1) (zb (zc 2) zm)) rfl ho hp rfl;cases e:zM (F o) (sk p)with
 |none=>rw[e]at l;exact jc ((yX (x:=true) (yh (zo l rfl rfl))).trans rfl)
 |some y=>rw[e]at l;exact VE rfl ((yX (x:=false) (yh (zo l rfl rfl))).trans rfl)
end
def ix0:Sg (.l (x::xs)) (.i 0)=.ok x:=by rw[DZ,Mw];rfl
def ixL(h:xs.getLast?=some x):Sg (.l xs) (.i (-1))=.ok x:=by rw[DZ,Ac,h];rfl
def Iw(h:U[i]?=some (some (.i a)))(hm:m U=.ok (.i b)):GY i (pI λa b=>.i (a+b)) m U=.ok (.nx (U.set i (some (.i (a+b))))):=by unfold GY;rw[h];dsimp only;rw[hm,SE];rfl
def W0(h:ms U=.ok xs)(h2:f xs=.exc c fs):zg f ms U=.exc c fs:=by unfold zg;rw[h,SE,h2]
def vq(h:m U=.exc c fs):jg m U=.exc c fs:=by unfold jg;rw[h];rfl
def fd(F:Str->Ht)(a b:Str):Int:=(zM (F a) (sk b)).getD 0
def rn(F:Str->Ht):Str->List Tp->Int
 |_,[]=>0
 |p,t::R=>fd F p t.2.1+t.2.2.2.2.1-t.2.2.2.1+rn F t.2.2.1 R
def lst:Str->List Tp->Str
 |p,[]=>p
 |_,t::R=>lst t.2.2.1 R
def Ch(F:Str->Ht):Str->List Tp->Prop
 |_,[]=>True
 |p,t::R=>(zM (F p) (sk t.2.1)).isSome=true/\Ch F t.2.2.1 R
section
variable {F:Str->Ht}{t u:Tp}{a b p Sd:Str}
def v7(h:(zM (F a) (sk b)).isSome=true):zM (F a) (sk b)=some (fd F a b):=by
 unfold fd;cases e:zM (F a) (sk b)with
 |none=>rw[e]at h;cases h
 |some x=>rfl
def Iy:∀{R:List Tp}{t:Tp},(t::R).Pairwise (ο F)->Ch F t.2.2.1 R
 |[],_,_=>trivial
 |u::R,t,h=>by rw[a1b]at h;obtain⟨y,e,_⟩:=h.1 u O0;exact⟨by rw[e];rfl,Iy h.2⟩
def X8:∀{R:List Tp}{t:Tp}{p:Str},∃u∈t::R,lst p (t::R)=u.2.2.1/\(t::R).getLast?=some u
 |[],t,_=>⟨t,O0,rfl,rfl⟩
 |v::R,t,p=>by obtain⟨u,hu,e1,e2⟩:=X8 (R:=R) (t:=v) (p:=t.2.2.1);exact⟨u,O4 _ hu,e1,by rw[List.getLast?_cons_cons];exact e2⟩
end
def blk(F:Str->Ht)(Sd:Str):List Tp->Out PV
 |[]=>.ok (.i 0)
 |t::R=>match zM (F Sd) (sk t.2.1)with
  |none=>.exc 6 [("origin",.s Sd),("goal",.s t.2.1)]
  |some _=>match zM (F (lst Sd (t::R))) (sk Sd)with
   |none=>.exc 6 [("origin",.s (lst Sd (t::R))),("goal",.s Sd)]
   |some b=>.ok (.i (rn F Sd (t::R)+b))
section
variable {N:OP}{W:List Wy}{F:Str->Ht}{T R:List Tp}{t u:Tp}{Sd:Str}
abbrev tb(N:OP)(W:List Wy)(F:Str->Ht)(T:List Tp):PV:=VG (Sh N W F) T
def ur{R0:PV}(nd:(T.map (·.1)).Nodup)(hT:∀t∈T,SG N F t):∀{R:List Tp}{p:Str}{m:Int}{x y:Pu},(∀t∈R,t∈T)->p∈N->Ch F p R->∃x' y',wj YD ja (R.map λt=>.s t.1) [some (tb N W F T),some (.s Sd),some R0,some (.s p),some (.i m),x,y]=.ok (.nx [some (tb N W F T),some (.s Sd),some R0,some (.s (lst p R)),some (.i (m+rn F p R)),x',y'])
 |[],p,m,x,y,_,_,_=>⟨x,y,by show _=Out.ok (Fw.nx [_,_,_,_,some (.i (m+0)),_,_]);rw[a3e];rfl⟩
 |t::R,p,m,x,y,hR,hp,hc=>by
  have ht:=hR t O0;have l:=cj (W:=W) (F:=F) (a:=Y9 [10] "roads" (zc 0)) (ms:=zb (zc 3) (zb (Se Sg (zc 6) (mC (.i 1))) zm)) (U:=[some (tb N W F T),some (.s Sd),some R0,some (.s p),some (.i m),some (.s t.1),some (tP t)]) (jQ rfl) hp (hT t ht).org rfl;rw[v7 hc.1]at l;have eb:ja [some (tb N W F T),some (.s Sd),some R0,some (.s p),some (.i m),some (.s t.1),y]=.ok (.nx [some (tb N W F T),some (.s Sd),some R0,some (.s t.2.2.1),some (.i (m+(fd F p t.2.1+t.2.2.2.2.1-t.2.2.2.1))),some (.s t.1),some (tP t)]):=
   zd ⟨_,yy (bA nd ht rfl rfl),zd ⟨_,Iw rfl (zo (zo (y:=.i t.2.2.2.2.1) l rfl rfl) (y:=.i t.2.2.2.1) rfl rfl),rfl⟩⟩
  obtain⟨x',y',e⟩:=ur nd hT (R:=R) (p:=t.2.2.1) (m:=m+(fd F p t.2.1+t.2.2.2.2.1-t.2.2.2.1)) (x:=some (.s t.1)) (y:=some (tP t)) (λu hu=>hR u (O4 _ hu)) (hT t ht).goal hc.2;refine⟨x',y',?_⟩;show(ja [some (tb N W F T),some (.s Sd),some R0,some (.s p),some (.i m),some (.s t.1),y]).bind _=_;rw[eb];refine e.trans ?_;rw[Int.add_assoc];rfl
def A9(nd:(T.map (·.1)).Nodup)(hT:∀t∈T,SG N F t)(hR:∀t∈R,t∈T)(hp:R.Pairwise (ο F))(hh:Sd∈N)(hO:zM (F Sd) (sk Sd)=some 0):yc [tb N W F T,.s Sd,Sv R]=blk F Sd R:=by
 have cr:=uq (W:=W) nd hT hR hp hh;have lenH:=λ{U:So}{q:Str}(h0:zc 0 U=.ok (tb N W F T)) (h3:zc 3 U=.ok (.s q)) (h1:zc 1 U=.ok (.s Sd)) (hq:q∈N)=>cj (W:=W) (F:=F) (a:=Y9 [10] "roads" (zc 0)) (ms:=zb (zc 3) (zb (zc 1) zm)) (jQ h0) hq hh (zp h3 (zp h1 rfl));have go:Ch F Sd R->yb [tb N W F T,.s Sd,Sv R]=.ok .n->lst Sd R∈N->∀b,zM (F (lst Sd R)) (sk Sd)=some b->yc [tb N W F T,.s Sd,Sv R]=.ok (.i (rn F Sd R+b)):=λhc cb hl b eb=>by obtain⟨x,y,e⟩:=ur (W:=W) (R0:=Sv R) (Sd:=Sd) (m:=0) (x:=none) (y:=none) nd hT hR hh hc;rw[Int.zero_add]at e;have l:=lenH (U:=[some (tb N W F T),some (.s Sd),some (Sv R),some (.s (lst Sd R)),some (.i (rn F Sd R)),x,y]) rfl rfl rfl hl;rw[eb]at l;exact zZ (zd ⟨_,zO (zz rfl cb),zd ⟨_,rfl,zd ⟨_,rfl,zd ⟨_,yE (zK rfl) e,VD (zo rfl l rfl)⟩⟩⟩⟩)
 have gt:=λP Q=>yX (a:=P) (b:=Q) (U:=[some (tb N W F T),some (.s Sd),some (Sv R)]) (VC (n:=0) (zz (f:=jC) (ms:=zb (zc 2) zm) (xs:=[Sv R]) rfl qQ));cases R with
 |nil=>exact go trivial (VE rfl (zd ⟨_,zO (zz rfl cr),(gt _ _).trans rfl⟩)) hh 0 hO
 |cons t R=>
  obtain⟨u,hu,e1,e2⟩:=X8 (R:=R) (t:=t) (p:=Sd);rw[O9 (show(((t::R).length:Nat):Int)>0 by rw[v0];omega)]at gt;have ht:=hR t O0;have w1:=dW (W:=W) (F:=F) hh (hT t ht).org;have w2:=dW (W:=W) (F:=F) (hT u (hR u hu)).goal hh;have a1:zb (Y9 [10] "roads" (zc 0)) (zb (zc 1) (zb (Se Sg (jB [(10,zr)] "trip" (zc 0) (zb (Se Sg (zc 2) (mC (.i 0))) zm)) (mC (.i 1))) zm)) [some (tb N W F T),some (.s Sd),some (Sv (t::R))]=.ok [Sh N W F,.s Sd,.s t.2.1]:=zp (jQ rfl) (zp rfl (zp (zo (bA (t:=t) nd ht rfl (zp (zo rfl rfl ix0) rfl)) rfl rfl) rfl));have a2:zb (Y9 [10] "roads" (zc 0)) (zb (Se Sg (jB [(10,zr)] "trip" (zc 0) (zb (Se Sg (zc 2) (To xN (mC (.i 1)))) zm)) (mC (.i 2))) (zb (zc 1) zm)) [some (tb N W F T),some (.s Sd),some (Sv (t::R))]=.ok [Sh N W F,.s u.2.2.1,.s Sd]:=zp (jQ rfl) (zp (zo (bA (t:=u) nd (hR u hu) rfl (zp (zo (y:=.i (-1)) rfl rfl (ixL (by rw[a1y,e2];rfl))) rfl)) rfl rfl) rfl);have ex:∀{c fs},yb [tb N W F T,.s Sd,Sv (t::R)]=.exc c fs->yc [tb N W F T,.s Sd,Sv (t::R)]=.exc c fs:=λh=>jc (Ym (vq (W0 rfl h)));rw[blk];cases f1:zM (F Sd) (sk t.2.1)with
  |none=>rw[f1]at w1;exact ex (jc (zd ⟨_,zO (zz rfl cr),(gt _ _).trans (Ym (vq (W0 a1 w1)))⟩))
  |some d=>
   rw[f1]at w1;rw[<- e1]at w2 a2;cases f2:zM (F (lst Sd (t::R))) (sk Sd)with
   |none=>rw[f2]at w2;exact ex (jc (zd ⟨_,zO (zz rfl cr),(gt _ _).trans (zd ⟨_,zO (zz a1 w1),vq (W0 a2 w2)⟩)⟩))
   |some b=>rw[f2]at w2;exact go ⟨by rw[f1];rfl,Iy hp⟩ (VE rfl (zd ⟨_,zO (zz rfl cr),(gt _ _).trans (zd ⟨_,zO (zz a1 w1),zO (zz a2 w2)⟩)⟩)) (by rw[e1];exact(hT u (hR u hu)).goal) b f2
end
section
variable {ns:Pn}{P N:OP}{W:List Wy}{F:Str->Ht}{L:SU}{c:Int}{T R:List Tp}{t u:Tp}{nm:Rg}{Sd:Str}
def sh(d:Int)(t:Tp):Tp:=(t.1,t.2.1,t.2.2.1,t.2.2.2.1+d,t.2.2.2.2.1+d,t.2.2.2.2.2)
def Iz{d:Int}(hT:E3 P F nm T)(h:∀t∈T,0<=t.2.2.2.1+d/\t.2.2.2.2.1+d<=1000000000):E3 P F nm (T.map (sh d))where
 nms:=by rw[γ,u8];exact hT.nms
 ok:=λt ht=>by obtain⟨u,hu,rfl⟩:=T7.mp ht;have k:=hT.ok u hu;obtain⟨y,ey,ly⟩:=k.len;have:=k.fw;exact{ org:=k.org,goal:=k.goal,len:=⟨y,ey,by show y<=u.2.2.2.2.1+d-(u.2.2.2.1+d);omega⟩,st:=(h u hu).1,fw:=by show u.2.2.2.1+d<u.2.2.2.2.1+d;omega,fin:=(h u hu).2,Bq:=k.Bq }
 lnk:=List.pairwise_map.mpr (hT.lnk.imp λ{a b} ⟨y,ey,l⟩=>⟨y,ey,by show a.2.2.2.2.1+d+y<=b.2.2.2.1+d;omega⟩)
def IA(hl:T.length<=12):SO (zN (zc 1)) [none,some 4] Jl Jm Jo [some (.sc ns),some (.l (T.map tP)),some (.i c),w,some (.i d)]=.ok (.l ((T.map (sh d)).map tP)):=by rw[γ];refine aQ (zK rfl) (Z3 tP (tP∘sh d) (λU=>∃o,U=[o,some (.i d)]) T [none,some (.i d)] ⟨none,rfl⟩ (λt ht U ⟨o,ho⟩=>?_) (by omega));subst ho;exact⟨_,rfl,⟨_,rfl⟩,zo (x:=.t [.s t.1,.s t.2.1,.s t.2.2.1]) (y:=.t [.i (t.2.2.2.1+d),.i (t.2.2.2.2.1+d),.i t.2.2.2.2.2]) rfl (Y0 (zp (zo (x:=.i t.2.2.2.1) rfl rfl rfl) (zp (zo (x:=.i t.2.2.2.2.1) rfl rfl rfl) (zp rfl rfl))) (P2 rfl)) rfl⟩
def A_(hT:E3 P F nm T)(hl:T.length<=12)(hF:∀o∈P,∀z y,zM (F o) (sk z)=some y->0<=y/\y<=12000000)(hb:∀t∈T,t.2.2.2.2.1<=519000000)(c0:1<=c)(c1:c<=100000):∃T',E3 P F nm T'/\T'.length=T.length/\j9 [.sc ns,.l (T.map tP),.i c]=.ok (.l (T'.map tP)):=by
 obtain⟨w,w0,w1,ew⟩:=yC (ns:=ns) (k:=137) (m:=4) (by decide) (by decide) (by decide);have q1:qb 3 (zg zi (zb (zc 0) (zb (mC (.i 137)) (zb (mC (.i 4)) zm)))) [some (.sc ns),some (.l (T.map tP)),some (.i c),none,none]=.ok (.nx [some (.sc ns),some (.l (T.map tP)),some (.i c),some (.i w),none]):=yy (zz (xs:=[.sc ns,.i 137,.i 4]) rfl ew);have e2:∀b,qE false (.l (T.map tP)) (.l [])=.ok (.b b)->Te (zW (Se (qE false) (zc 1) (KA zm))) (zW (Se TU (zc 3) (mC (.i 1)))) [some (.sc ns),some (.l (T.map tP)),some (.i c),some (.i w),none]=.ok (b||decide (w>1)):=λb h=>dR (yh (zo rfl rfl h)) (VC rfl)
 match T,hT,hl,hb,q1,e2 with
 |[],hT,_,_,q1,e2=>exact⟨[],hT,rfl,zZ (zd ⟨_,q1,Us ((yX (x:=true) (e2 true rfl)).trans rfl)⟩)⟩
 |t::R,hT,hl,hb,q1,e2=>
  by_cases hw:w>1
  .exact⟨_,hT,rfl,zZ (zd ⟨_,q1,Us ((yX (x:=true) ((e2 false rfl).trans (by rw[O9 hw];rfl))).trans rfl)⟩)⟩
  .have q2:Sy (Te (zW (Se (qE false) (zc 1) (KA zm))) (zW (Se TU (zc 3) (mC (.i 1))))) (Z0 (zc 1)) yH [some (.sc ns),some (.l ((t::R).map tP)),some (.i c),some (.i w),none]=.ok (.nx [some (.sc ns),some (.l ((t::R).map tP)),some (.i c),some (.i w),none]):=(yX (x:=false) ((e2 false rfl).trans (by rw[O8 hw];rfl))).trans rfl;obtain⟨x,x0,x1,ex⟩:=yC (ns:=ns) (k:=138) (m:=30*c) (by decide) (by decide) (by omega);have q3:qb 4 (Se XJ (zg zi (zb (zc 0) (zb (mC (.i 138)) (zb (Se qS (mC (.i 30)) (zc 2)) zm)))) (Se Sg (Se Sg (zc 1) (mC (.i 0))) (mC (.i 3)))) [some (.sc ns),some (.l ((t::R).map tP)),some (.i c),some (.i w),none]=.ok (.nx [some (.sc ns),some (.l ((t::R).map tP)),some (.i c),some (.i w),some (.i (x-t.2.2.2.1))]):=
    yy (zo (x:=.i x) (y:=.i t.2.2.2.1) (zz (xs:=[.sc ns,.i 138,.i (30*c)]) (zp rfl (zp rfl (zp (zo rfl rfl (ZI (by decide) (by decide))) rfl))) ex) (zo (x:=tP t) (zo rfl rfl ix0) rfl rfl) rfl)
   have pw:=a1b.mp hT.lnk;by_cases h1:w=1
   .subst h1;obtain⟨d,d0,d1,ed⟩:=yC (ns:=ns) (k:=138) (m:=3) (by decide) (by decide) (by decide);obtain⟨z,hz,ez⟩:∃z∈t::R,(t::R).getLast?=some z:=⟨_,List.getLast_mem (a2u _ _),List.getLast?_eq_getLast (a2u _ _)⟩;have lz:∀u∈t::R,u.2.2.2.2.1<=z.2.2.2.2.1:=by
     obtain⟨A,hA⟩:=List.getLast?_eq_some_iff.mp ez;intro u hu;rw[hA,T8,R9]at hu;rcases hu with hu|rfl
     .have l:=hT.lnk;rw[hA,a2W]at l;obtain⟨y,ey,ly⟩:=l.2.2 u hu z O0;have:=(hF _ (hT.ok u (by rw[hA];exact a0L _ hu)).goal _ y ey).1;have:=(hT.ok z hz).fw;omega
     .omega
    have q4:Sy (zW (Se (qE false) (zc 3) (mC (.i 1)))) (qb 4 (Se XJ (Se XJ (Se nZ (mC (.i 10)) (mC (.i 9))) (zg zi (zb (zc 0) (zb (mC (.i 138)) (zb (mC (.i 3)) zm))))) (Se Sg (Se Sg (zc 1) (To xN (mC (.i 1)))) (mC (.i 4))))) yH [some (.sc ns),some (.l ((t::R).map tP)),some (.i c),some (.i 1),some (.i (x-t.2.2.2.1))]=.ok (.nx [some (.sc ns),some (.l ((t::R).map tP)),some (.i c),some (.i 1),some (.i (1000000000-d-z.2.2.2.2.1))]):=
     (yX (x:=true) ((tX (x:=1) rfl).trans rfl)).trans ((if_pos rfl).trans (yy (zo (x:=.i (1000000000-d)) (y:=.i z.2.2.2.2.1) (zo (x:=.i 1000000000) (zo rfl rfl rfl) (zz (xs:=[.sc ns,.i 138,.i 3]) rfl ed) rfl) (zo (x:=tP z) (zo rfl rfl (ixL (by rw[a1y,ez];rfl))) rfl rfl) rfl)))
    refine⟨_,Iz (d:=1000000000-d-z.2.2.2.2.1) hT λu hu=>?_,u8 ..,zZ (zd ⟨_,q1,zd ⟨_,q2,zd ⟨_,q3,zd ⟨_,q4,VD (IA hl)⟩⟩⟩⟩)⟩;have:=lz u hu;have:=hb z hz;have:=(hT.ok u hu).st;omega
   .have q4:Sy (zW (Se (qE false) (zc 3) (mC (.i 1)))) (qb 4 (Se XJ (Se XJ (Se nZ (mC (.i 10)) (mC (.i 9))) (zg zi (zb (zc 0) (zb (mC (.i 138)) (zb (mC (.i 3)) zm))))) (Se Sg (Se Sg (zc 1) (To xN (mC (.i 1)))) (mC (.i 4))))) yH [some (.sc ns),some (.l ((t::R).map tP)),some (.i c),some (.i w),some (.i (x-t.2.2.2.1))]=.ok (.nx [some (.sc ns),some (.l ((t::R).map tP)),some (.i c),some (.i w),some (.i (x-t.2.2.2.1))]):=
     (yX (x:=false) ((tX rfl).trans (by rw[O8 h1]))).trans rfl
    refine⟨_,Iz (d:=x-t.2.2.2.1) hT λu hu=>?_,u8 ..,zZ (zd ⟨_,q1,zd ⟨_,q2,zd ⟨_,q3,zd ⟨_,q4,VD (IA hl)⟩⟩⟩⟩)⟩;have:=hb u hu;have:=(hT.ok t O0).st;have:t.2.2.2.1<=u.2.2.2.1:=by
     rcases P9.mp hu with rfl|hu
     .omega
     .obtain⟨y,ey,ly⟩:=pw.1 u hu;have:=(hF _ (hT.ok t O0).goal _ y ey).1;have:=(hT.ok t O0).fw;omega
    omega
end
section
variable {N:OP}{W:List Wy}{F:Str->Ht}{T R R0 A:List Tp}{t u z:Tp}{Sd p:Str}
def IB(h:c U=.ok x):mIf c a b U=if x=true then a U else b U:=by unfold mIf;rw[h,SE]
def Ss(F:Str->Ht)(Sd:Str):Str->List Tp->List Tp
 |_,[]=>[]
 |p,[t]=>[(t.1,p,Sd,t.2.2.2.1-fd F p t.2.1,t.2.2.2.2.1+fd F t.2.2.1 Sd,t.2.2.2.2.2)]
 |p,t::u::R=>(t.1,p,t.2.2.1,t.2.2.2.1-fd F p t.2.1,t.2.2.2.2.1,t.2.2.2.2.2)::Ss F Sd t.2.2.1 (u::R)
def gl(Sd:Str)(t:Tp)(R:List Tp):Str:=if R=[]then Sd else t.2.2.1
def X9(hO:zM (F t.2.2.1) (sk t.2.2.1)=some 0):Ss F Sd p (t::R)=(t.1,p,gl Sd t R,t.2.2.2.1-fd F p t.2.1,t.2.2.2.2.1+fd F t.2.2.1 (gl Sd t R),t.2.2.2.2.2)::Ss F Sd t.2.2.1 R:=by
 cases R with
 |nil=>rfl
 |cons u R=>show(_,_,_,_,_,_)::_=(_,_,t.2.2.1,_,t.2.2.2.2.1+fd F t.2.2.1 t.2.2.1,_)::_;rw[show fd F t.2.2.1 t.2.2.1=0 by unfold fd;rw[hO];rfl,a3e]
abbrev gS(N:OP)(W:List Wy)(F:Str->Ht)(T:List Tp)(Sd:Str)(R0 M:List Tp)(p:Str)(r:So):So:=[some (tb N W F T),some (.s Sd),some (Sv R0),some (.l (M.map tP)),some (.s p)]++r
def m9(nd:(T.map (·.1)).Nodup)(hT:∀t∈T,SG N F t)(hc:∀a∈N,∀b∈N,(zM (F a) (sk b)).isSome=true)(hO:∀a∈N,zM (F a) (sk a)=some 0)(hh:Sd∈N)(n0:(R0.map (·.1)).Nodup):
  ∀{R A M:List Tp}{p:Str}{x5 x6 x7 x8 x9:Pu},R0=A++R->(∀t∈R,t∈T)->p∈N->M.length+R.length<=1000->∃p' r',wj U4 Yl (R.map λt=>.s t.1) (gS N W F T Sd R0 M p [x5,x6,x7,x8,x9])=.ok (.nx (gS N W F T Sd R0 (M++Ss F Sd p R) p' r'))
 |[],A,M,p,x5,x6,x7,x8,x9,_,_,_,_=>⟨p,_,by show _=Out.ok (Fw.nx (gS N W F T Sd R0 (M++[]) p _));rw[P7];rfl⟩
 |t::R,A,M,p,x5,x6,x7,x8,x9,h0,hR,hp,hl=>by
  have ht:=hR t O0;have hg:=(hT t ht).goal;have hgl:gl Sd t R∈N:=by unfold gl;split;exact hh;exact hg
  obtain⟨z,ez⟩:∃z,R0.getLast?=some z:=by rw[h0,a1Q];cases h:(t::R).getLast? with
   |none=>rw[a2b]at h;cases h
   |some z=>exact⟨z,rfl⟩
  have hz:decide (t.1=z.1)=decide (R=[]):=by
   by_cases e:R=[]
   .subst e;rw[h0,a1Q]at ez;cases ez;exact(O9 (p:=t.1=t.1) rfl).trans rfl
   .rw[O8 e,O8];intro q;rw[h0,R7,O6]at n0;have n1:=(ϊ.mp (a1f.mp n0).2.1).1;refine n1 (q▸ϰ ?_);rw[h0,a1Q,List.getLast?_cons]at ez;cases h:R.getLast? with
    |none=>exact absurd (a2b.mp h) e
    |some v=>rw[h]at ez;cases ez;exact List.mem_of_getLast? h
  have e7:mIf (zW (Se (qE false) (zc 5) (Se Sg (zc 2) (To xN (mC (.i 1)))))) (zc 1) (Se Sg (zc 6) (mC (.i 2))) (gS N W F T Sd R0 M p [some (.s t.1),some (tP t),x7,x8,x9])=.ok (.s (gl Sd t R)):=by
   refine(IB (x:=decide (R=[])) ((yh (zo (y:=.s z.1) rfl (zo rfl rfl (ixL (by rw[a1y,ez];rfl))) Mx)).trans (by rw[hz,ϑ]))).trans ?_;unfold gl;by_cases e:R=[]
   .rw[if_pos (O9 e),if_pos e];rfl
   .rw[if_neg (by rw[O8 e];exact P5),if_neg e];rfl
  have l8:=cj (W:=W) (F:=F) (a:=Y9 [10] "roads" (zc 0)) (ms:=zb (zc 4) (zb (Se Sg (zc 6) (mC (.i 1))) zm)) (U:=gS N W F T Sd R0 M p [some (.s t.1),some (tP t),some (.s (gl Sd t R)),x8,x9]) (jQ rfl) hp (hT t ht).org rfl;rw[v7 (hc _ hp _ (hT t ht).org)]at l8;have l9:=cj (W:=W) (F:=F) (a:=Y9 [10] "roads" (zc 0)) (ms:=zb (Se Sg (zc 6) (mC (.i 2))) (zb (zc 7) zm)) (U:=gS N W F T Sd R0 M p [some (.s t.1),some (tP t),some (.s (gl Sd t R)),some (.i (t.2.2.2.1-fd F p t.2.1)),x9]) (jQ rfl) hg hgl rfl;rw[v7 (hc _ hg _ hgl)]at l9;have eb:Yl (gS N W F T Sd R0 M p [some (.s t.1),x6,x7,x8,x9])=.ok (.nx (gS N W F T Sd R0 (M++[(t.1,p,gl Sd t R,t.2.2.2.1-fd F p t.2.1,t.2.2.2.2.1+fd F t.2.2.1 (gl Sd t R),t.2.2.2.2.2)]) t.2.2.1 [some (.s t.1),some (tP t),some (.s (gl Sd t R)),some (.i (t.2.2.2.1-fd F p t.2.1)),some (.i (t.2.2.2.2.1+fd F t.2.2.1 (gl Sd t R)))])):=by refine zd ⟨_,yy (bA nd ht rfl rfl),zd ⟨_,yy e7,zd ⟨_,yy (zo (x:=.i t.2.2.2.1) rfl l8 rfl),zd ⟨_,yy (zo (x:=.i t.2.2.2.2.1) rfl l9 rfl),zd ⟨_,gw (xs:=M.map tP) rfl (Y0 (xs:=[.s t.1,.s p,.s (gl Sd t R),.i (t.2.2.2.1-fd F p t.2.1),.i (t.2.2.2.2.1+fd F t.2.2.1 (gl Sd t R)),.i t.2.2.2.2.2]) rfl (P2 rfl)) (by rw[u8];omega),?_⟩⟩⟩⟩⟩;show _=Out.ok (Fw.nx [_,_,_,some (.l ((M++[_]).map tP)),_,_,_,_,_,_]);rw[R7];rfl
  obtain⟨p',r',e⟩:=m9 nd hT hc hO hh n0 (R:=R) (A:=A++[t]) (M:=M++[(t.1,p,gl Sd t R,t.2.2.2.1-fd F p t.2.1,t.2.2.2.2.1+fd F t.2.2.1 (gl Sd t R),t.2.2.2.2.2)]) (p:=t.2.2.1) (x5:=some (.s t.1)) (x6:=some (tP t)) (x7:=some (.s (gl Sd t R))) (x8:=some (.i (t.2.2.2.1-fd F p t.2.1))) (x9:=some (.i (t.2.2.2.2.1+fd F t.2.2.1 (gl Sd t R)))) (by rw[h0,S0];rfl) (λu hu=>hR u (O4 _ hu)) hg (by rw[O1];rw[v0]at hl;show M.length+1+_<=_;omega);refine⟨p',r',?_⟩;show(Yl (gS N W F T Sd R0 M p [some (.s t.1),x6,x7,x8,x9])).bind _=_;rw[eb,X9 (hO _ hg)];refine e.trans ?_;rw[S0];rfl
def uu(nd:(T.map (·.1)).Nodup)(hT:∀t∈T,SG N F t)(hc:∀a∈N,∀b∈N,(zM (F a) (sk b)).isSome=true)(hO:∀a∈N,zM (F a) (sk a)=some 0)(hh:Sd∈N)(n0:(R.map (·.1)).Nodup)(hR:∀t∈R,t∈T)(hl:R.length<=1000):ZO [tb N W F T,.s Sd,Sv R]=.ok (.l ((Ss F Sd Sd R).map tP)):=by obtain⟨p',r',e⟩:=m9 (W:=W) nd hT hc hO hh n0 (R:=R) (A:=[]) (M:=[]) (p:=Sd) (x5:=none) (x6:=none) (x7:=none) (x8:=none) (x9:=none) rfl hR hh (by show 0+_<=_;omega);exact zZ (zd ⟨_,rfl,zd ⟨_,rfl,zd ⟨_,yE (zK rfl) e,rfl⟩⟩⟩)
end
section
variable {N:OP}{W:List Wy}{F:Str->Ht}{T R R0 A:List Tp}{t u z:Tp}{Sd p:Str}{Bs:List (List Tp)}
def dup:List Str->List Str->Option Str
 |_,[]=>none
 |s,x::r=>if x∈s then some x else dup (s++[x]) r
def i7{b:OP}:∀{a s:OP},dup s (a++b)=match dup s a with|some z=>some z|none=>dup (s++a) b
 |[],s=>by rw[P7];rfl
 |x::a,s=>by
  show(if x∈s then some x else dup (s++[x]) (a++b))=match(if x∈s then some x else dup (s++[x]) a)with|some z=>some z|none=>dup (s++x::a) b
  by_cases h:x∈s
  .rw[if_pos h,if_pos h]
  .rw[if_neg h,if_neg h,i7,S0];rfl
def m_:∀{r s:OP},dup s r=none->r.Nodup/\∀x∈r,x∉s
 |[],s,_=>⟨List.Pairwise.nil,λ_ h=>nomatch h⟩
 |x::r,s,h=>by
  unfold dup at h;by_cases c:x∈s
  .rw[if_pos c]at h;cases h
  .rw[if_neg c]at h;obtain⟨n,d⟩:=m_ h;exact⟨ϊ.mpr ⟨λq=>d x q (R8 _ O0),n⟩,λy hy=>by
    rcases P9.mp hy with rfl|hy
    .exact c
    .exact λq=>d y hy (a0L _ q)⟩
def Ba{P:OP}{z:Str}(h:z∈P):(zM (ZU P) (sk z)).isSome=true:=ko.symm.trans (List.any_eq_true.mpr ⟨(sk z,.b true),T7.mpr ⟨z,h,rfl⟩,by simp⟩)
def IC{A:Pu}:∀{r s:OP}{o:Pu},s.length+r.length<=1000->(dup s r=none->∃U,wj qV ya (r.map .s) [A,some (.d (ZU s)),o]=.ok (.nx U))/\∀z,dup s r=some z->wj qV ya (r.map .s) [A,some (.d (ZU s)),o]=.exc 4 [("name",.s z)]
 |[],s,o,_=>⟨λ_=>⟨_,rfl⟩,λz h=>nomatch h⟩
 |x::r,s,o,hl=>by
  have t:zW (Se (TN false) (zc 2) (zc 1)) [A,some (.d (ZU s)),some (.s x)]=.ok (zM (ZU s) (sk x)).isSome:=yh (zo rfl rfl (show Out.ok (PV.b (xor false _))=_ by rw[ϑ]));by_cases c:x∈s
  .rw[Ba c]at t;refine⟨λh=>?_,λz h=>?_⟩
   .unfold dup at h;rw[if_pos c]at h;cases h
   .unfold dup at h;rw[if_pos c]at h;cases h;show(ya [A,some (.d (ZU s)),some (.s x)]).bind _=_;rw[show ya [A,some (.d (ZU s)),some (.s x)]=.exc 4 [("name",.s x)]from Ym ((yX t).trans rfl)];rfl
  .rw[X6 c]at t;have eb:ya [A,some (.d (ZU s)),some (.s x)]=.ok (.nx [A,some (.d (ZU (s++[x]))),some (.s x)]):=by refine zd ⟨_,(yX t).trans rfl,?_⟩;show(if(ZU s).length<sizeLine then Out.ok (Fw.nx [A,some (.d (dput (ZU s) (sk x) (.b true))),some (.s x)])else .wall)=_;rw[if_pos (Ϯ (by unfold ZU;rw[u8];exact S6 (a2s _ _) hl) (by decide)),show dput (ZU s) (sk x) (.b true)=ZU (s++[x]) by unfold dput;rw[ko,X6 c];unfold ZU;rw[R7];rfl]
   have k:=IC (A:=A) (r:=r) (s:=s++[x]) (o:=some (.s x)) (by rw[O1];rw[v0]at hl;show s.length+1+_<=_;omega);have g:wj qV ya ((x::r).map .s) [A,some (.d (ZU s)),o]=wj qV ya (r.map .s) [A,some (.d (ZU (s++[x]))),some (.s x)]:=by show(ya [A,some (.d (ZU s)),some (.s x)]).bind _=_;rw[eb];rfl
   rw[g,show dup s (x::r)=dup (s++[x]) r from if_neg c];exact k
def E4(hl:ws.length<=1000):jv [.l (ws.map .s)]=match dup [] ws with|none=>.ok .n|some z=>.exc 4 [("name",.s z)]:=by
 have k:=IC (A:=some (.l (ws.map .s))) (r:=ws) (s:=[]) (o:=none) (by show 0+_<=_;omega);cases e:dup [] ws with
 |none=>obtain⟨U,q⟩:=k.1 e;exact VE rfl (zd ⟨[some (.l (ws.map .s)),some (.d (ZU [])),none],rfl,yE (zK rfl) q⟩)
 |some z=>exact jc (zd ⟨[some (.l (ws.map .s)),some (.d (ZU [])),none],rfl,yE (zK rfl) (k.2 z e)⟩)
abbrev bP(Bs:List (List Tp)):PV:=.l (Bs.map λR=>.l (R.map tP))
abbrev Tc(Bs:List (List Tp)):List Str:=Bs.flatten.map (·.1)
abbrev aS(B:PV)(s:OP)(x y:Pu):So:=[some B,some (.l (s.map .s)),x,y]
def N1{B:PV}{x2:Pu}:∀{R:List Tp}{s:OP}{x3:Pu},s.length+R.length<=1000->(dup s (R.map (·.1))=none->∃x3',wj qT z8 (R.map tP) (aS B s x2 x3)=.ok (.nx (aS B (s++R.map (·.1)) x2 x3')))/\∀z,dup s (R.map (·.1))=some z->wj qT z8 (R.map tP) (aS B s x2 x3)=.ok (.rt (.t [.s "twice",.s z]))
 |[],s,x3,_=>⟨λ_=>⟨x3,by show _=Out.ok (Fw.nx (aS B (s++[]) x2 x3));rw[P7];rfl⟩,λz h=>nomatch h⟩
 |t::R,s,x3,hl=>by
  have c0:zW (Se (TN false) (Se Sg (zc 3) (mC (.i 0))) (zc 1)) (aS B s x2 (some (tP t)))=.ok (decide (t.1∈s)):=yh (zo (x:=.s t.1) rfl rfl (Il.trans (by rw[ϑ])));by_cases c:t.1∈s
  .rw[O9 c]at c0;refine⟨λh=>?_,λz h=>?_⟩
   .rw[O6]at h;unfold dup at h;rw[if_pos c]at h;cases h
   .rw[O6]at h;unfold dup at h;rw[if_pos c]at h;cases h;show(z8 (aS B s x2 (some (tP t)))).bind _=_;rw[show z8 (aS B s x2 (some (tP t)))=.ok (.rt (.t [.s "twice",.s t.1]))from Us ((yX c0).trans (VD (Y0 rfl (P2 rfl))))];rfl
  .rw[O8 c]at c0;have eb:z8 (aS B s x2 (some (tP t)))=.ok (.nx (aS B (s++[t.1]) x2 (some (tP t)))):=by refine zd ⟨_,(yX c0).trans rfl,(gw (xs:=s.map .s) (y:=.s t.1) rfl rfl (by rw[u8];omega)).trans ?_⟩;show Out.ok (Fw.nx [_,_,_,_])=Out.ok (Fw.nx [_,some (.l ((s++[t.1]).map .s)),_,_]);rw[R7];rfl
   have k:=N1 (B:=B) (x2:=x2) (R:=R) (s:=s++[t.1]) (x3:=some (tP t)) (by rw[O1];rw[v0]at hl;show s.length+1+_<=_;omega);have g:wj qT z8 ((t::R).map tP) (aS B s x2 x3)=wj qT z8 (R.map tP) (aS B (s++[t.1]) x2 (some (tP t))):=by show(z8 (aS B s x2 (some (tP t)))).bind _=_;rw[eb];rfl
   rw[g,show dup s ((t::R).map (·.1))=dup (s++[t.1]) (R.map (·.1))from if_neg c,show s++(t::R).map (·.1)=s++[t.1]++R.map (·.1) by rw[S0];rfl];exact k
def N2{B:PV}:∀{Bs:List (List Tp)}{s:OP}{x2 x3:Pu},s.length+Bs.flatten.length<=1000->(dup s (Tc Bs)=none->∃U,wj qU z9 (Bs.map λR=>.l (R.map tP)) (aS B s x2 x3)=.ok (.nx U))/\∀z,dup s (Tc Bs)=some z->wj qU z9 (Bs.map λR=>.l (R.map tP)) (aS B s x2 x3)=.ok (.rt (.t [.s "twice",.s z]))
 |[],s,x2,x3,_=>⟨λ_=>⟨_,rfl⟩,λz h=>nomatch h⟩
 |R::Bs,s,x2,x3,hl=>by
  rw[Μ,O1]at hl;have k:=N1 (B:=B) (x2:=some (.l (R.map tP))) (R:=R) (s:=s) (x3:=x3) (by omega);rw[show Tc (R::Bs)=R.map (·.1)++Tc Bs by unfold Tc;rw[Μ,R7],i7];cases e:dup s (R.map (·.1))with
  |some z=>refine⟨(λh=>nomatch h),λy h=>?_⟩;cases h;show(z9 (aS B s (some (.l (R.map tP))) x3)).bind _=_;rw[show z9 (aS B s (some (.l (R.map tP))) x3)=_ from yE (zK rfl) (k.2 z e)];rfl
  |none=>
   obtain⟨x3',q⟩:=k.1 e;have k2:=N2 (B:=B) (Bs:=Bs) (s:=s++R.map (·.1)) (x2:=some (.l (R.map tP))) (x3:=x3') (by rw[O1,u8];omega);have g:wj qU z9 ((R::Bs).map λR=>.l (R.map tP)) (aS B s x2 x3)=wj qU z9 (Bs.map λR=>.l (R.map tP)) (aS B (s++R.map (·.1)) (some (.l (R.map tP))) x3'):=by show(z9 (aS B s (some (.l (R.map tP))) x3)).bind _=_;rw[show z9 (aS B s (some (.l (R.map tP))) x3)=_ from yE (zK rfl) q];rfl
   rw[g];exact k2
def wd(Bs:List (List Tp)):PV:=match dup [] (Tc Bs)with|none=>.t [.s "right"]|some z=>.t [.s "twice",.s z]
def uv(hl:Bs.flatten.length<=1000):y4 [bP Bs]=.ok (wd Bs):=by
 have k:=N2 (B:=bP Bs) (Bs:=Bs) (s:=[]) (x2:=none) (x3:=none) (by show 0+_<=_;omega);unfold wd;cases e:dup [] (Tc Bs)with
 |none=>obtain⟨U,q⟩:=k.1 e;exact zZ (zd ⟨_,rfl,zd ⟨_,yE (zK rfl) q,VD (Y0 rfl (P2 rfl))⟩⟩)
 |some z=>exact zZ (zd ⟨_,rfl,Us (yE (zK rfl) (k.2 z e))⟩)
def ID(h:U[i]?=some (some (.l xs)))(hm:m U=.ok (.l ys))(hl:xs.length+ys.length<=100000):GX i m U=.ok (.nx (U.set i (some (.l (xs++ys))))):=by unfold GX;rw[h];simp only[hm,SE];rw[if_pos (S6 hl (by decide))]
structure Jn(N:OP)(F:Str->Ht):Prop where
 all:∀a∈N,∀b∈N,(zM (F a) (sk b)).isSome=true
 slf:∀a∈N,zM (F a) (sk a)=some 0
structure Bk(T:List Tp)(F:Str->Ht)(R:List Tp):Prop where
 sub:∀t∈R,t∈T
 lnk:R.Pairwise (ο F)
 nd:(R.map (·.1)).Nodup
 few:R.length<=12
def E5(J:Jn N F)(nd:(T.map (·.1)).Nodup)(hT:∀t∈T,SG N F t)(B:Bk T F R)(hh:Sd∈N):yb [tb N W F T,.s Sd,Sv R]=.ok .n:=by
 have cr:=uq (W:=W) nd hT B.sub B.lnk hh;have gt:=λP Q=>yX (a:=P) (b:=Q) (U:=[some (tb N W F T),some (.s Sd),some (Sv R)]) (VC (n:=0) (zz (f:=jC) (ms:=zb (zc 2) zm) (xs:=[Sv R]) rfl qQ));have hR:=B.sub;cases R with
 |nil=>exact VE rfl (zd ⟨_,zO (zz rfl cr),(gt _ _).trans rfl⟩)
 |cons t R=>obtain⟨u,hu,e1,e2⟩:=X8 (R:=R) (t:=t) (p:=Sd);rw[O9 (show(((t::R).length:Nat):Int)>0 by rw[v0];omega)]at gt;have ht:=hR t O0;have w1:=dW (W:=W) (F:=F) hh (hT t ht).org;have w2:=dW (W:=W) (F:=F) (hT u (hR u hu)).goal hh;rw[v7 (J.all _ hh _ (hT t ht).org)]at w1;rw[v7 (J.all _ (hT u (hR u hu)).goal _ hh)]at w2;have a1:zb (Y9 [10] "roads" (zc 0)) (zb (zc 1) (zb (Se Sg (jB [(10,zr)] "trip" (zc 0) (zb (Se Sg (zc 2) (mC (.i 0))) zm)) (mC (.i 1))) zm)) [some (tb N W F T),some (.s Sd),some (Sv (t::R))]=.ok [Sh N W F,.s Sd,.s t.2.1]:=zp (jQ rfl) (zp rfl (zp (zo (bA (t:=t) nd ht rfl (zp (zo rfl rfl ix0) rfl)) rfl rfl) rfl));have a2:zb (Y9 [10] "roads" (zc 0)) (zb (Se Sg (jB [(10,zr)] "trip" (zc 0) (zb (Se Sg (zc 2) (To xN (mC (.i 1)))) zm)) (mC (.i 2))) (zb (zc 1) zm)) [some (tb N W F T),some (.s Sd),some (Sv (t::R))]=.ok [Sh N W F,.s u.2.2.1,.s Sd]:=zp (jQ rfl) (zp (zo (bA (t:=u) nd (hR u hu) rfl (zp (zo (y:=.i (-1)) rfl rfl (ixL (by rw[a1y,e2];rfl))) rfl)) rfl rfl) rfl);exact VE rfl (zd ⟨_,zO (zz rfl cr),(gt _ _).trans (zd ⟨_,zO (zz a1 w1),zO (zz a2 w2)⟩)⟩)
def E6{z:Str}(hz:z∉T.map (·.1))(hh:Sd∈N):yb [tb N W F T,.s Sd,.l [.s z]]=.exc 7 [("name",.s z)]:=by
 have c1:qa [tb N W F T,.l [.s z]]=.exc 7 [("name",.s z)]:=by refine jc (yE (zK rfl) ?_);show(jO [some (tb N W F T),some (.l [.s z]),some (.s z)]).bind _=_;rw[show jO [some (tb N W F T),some (.l [.s z]),some (.s z)]=.exc 7 [("name",.s z)]from vq ((m6 rfl rfl).trans (ui hz))];rfl
 have c2:yS [tb N W F T,.l [.s z]]=.exc 7 [("name",.s z)]:=jc (Ym (vq (W0 rfl c1)));have c3:jm [tb N W F T,.s Sd,.l [.s z]]=.exc 7 [("name",.s z)]:=jc (zd ⟨_,zO (zz (zp rfl (zp (X7 (N:=N) (W:=W) (F:=F) (jQ rfl) (xs:=[]) rfl (by decide +kernel) (by decide +kernel) (by decide +kernel) gC) rfl)) (kl hh)),vq (W0 rfl c2)⟩);exact jc (Ym (vq (W0 rfl c3)))
def Sm(F:Str->Ht)(Sd:Str)(Bs:List (List Tp)):List Tp:=(Bs.map (Ss F Sd Sd)).flatten
def ng:∀{R:List Tp}{p:Str},(Ss F Sd p R).map (·.1)=R.map (·.1)
 |[],p=>rfl
 |[t],p=>rfl
 |t::u::R,p=>by rw[Ss,O6,ng,O6 (a:=t)]
def Kw:(Ss F Sd p R).length=R.length:=by have:=SS List.length (ng (F:=F) (Sd:=Sd) (R:=R) (p:=p));rw[u8,u8]at this;exact this
def gD:∀{Bs:List (List Tp)},(Sm F Sd Bs).map (·.1)=Tc Bs
 |[]=>rfl
 |R::Bs=>by show(Ss F Sd Sd R++Sm F Sd Bs).map _=(R++Bs.flatten).map _;rw[R7,R7,ng,gD]
def i8:(Sm F Sd Bs).length=Bs.flatten.length:=by have:=SS List.length (gD (F:=F) (Sd:=Sd) (Bs:=Bs));rw[u8,u8]at this;exact this
abbrev TQ(Bs:List (List Tp)):List PV:=Bs.map Sv
abbrev eS(N:OP)(W:List Wy)(F:Str->Ht)(T:List Tp)(Sd:Str)(B:PV)(M:List Tp)(x:Pu):So:=[some (tb N W F T),some (.s Sd),some B,some (.l (M.map tP)),x]
def ai{B:PV}{r:Pe}(J:Jn N F)(nd:(T.map (·.1)).Nodup)(hT:∀t∈T,SG N F t)(hh:Sd∈N):∀{Bs:List (List Tp)}{M:List Tp}{x:Pu},(∀R∈Bs,Bk T F R)->M.length+Bs.flatten.length<=1000->∃x',wj X0 wJ (TQ Bs++r) (eS N W F T Sd B M x)=wj X0 wJ r (eS N W F T Sd B (M++Sm F Sd Bs) x')
 |[],M,x,_,_=>⟨x,by show _=wj X0 wJ r (eS N W F T Sd B (M++[]) x);rw[P7];rfl⟩
 |R::Bs,M,x,hB,hl=>by
  rw[Μ,O1]at hl;have hR:=hB R O0;obtain⟨x',e⟩:=ai (B:=B) (r:=r) J nd hT hh (Bs:=Bs) (M:=M++Ss F Sd Sd R) (x:=some (Sv R)) (λS h=>hB S (O4 _ h)) (by rw[O1,Kw];omega);have eb:wJ (eS N W F T Sd B M (some (Sv R)))=.ok (.nx (eS N W F T Sd B (M++Ss F Sd Sd R) (some (Sv R)))):=by refine zd ⟨_,zO (zz rfl (E5 (W:=W) J nd hT hR hh)),(ID (xs:=M.map tP) (ys:=(Ss F Sd Sd R).map tP) rfl (zz rfl (uu nd hT J.all J.slf hh hR.nd hR.sub (by have:=hR.few;omega))) (by rw[u8,u8,Kw];omega)).trans ?_⟩;show Out.ok (Fw.nx [_,_,_,_,_])=Out.ok (Fw.nx [_,_,_,some (.l ((M++Ss F Sd Sd R).map tP)),_]);rw[R7]
  refine⟨x',?_⟩;show(wJ (eS N W F T Sd B M (some (Sv R)))).bind _=_;rw[eb,show Sm F Sd (R::Bs)=Ss F Sd Sd R++Sm F Sd Bs from rfl,<- S0];exact e
def lgO(F:Str->Ht)(Sd:Str)(Bs:List (List Tp)):Out PV:=match dup [] (Tc Bs)with|none=>.ok (.l ((Sm F Sd Bs).map tP))|some z=>.exc 4 [("name",.s z)]
def i9(J:Jn N F)(nd:(T.map (·.1)).Nodup)(hT:∀t∈T,SG N F t)(hh:Sd∈N)(hB:∀R∈Bs,Bk T F R)(hl:Bs.flatten.length<=1000):qP [tb N W F T,.s Sd,.l (TQ Bs)]=lgO F Sd Bs:=by
 obtain⟨x',e⟩:=ai (W:=W) (B:=.l (TQ Bs)) (r:=[]) J nd hT hh (M:=[]) (x:=none) hB (by show 0+_<=_;omega);rw[P7]at e;have ec:SO (zN (zc 3)) [none] f9 f_ gc (eS N W F T Sd (.l (TQ Bs)) (Sm F Sd Bs) x')=.ok (.l ((Tc Bs).map .s)):=by rw[<- gD (F:=F) (Sd:=Sd),γ];refine aQ (zK rfl) (Z3 tP (PV.s∘(·.1)) (λU=>∃o,U=[o]) (Sm F Sd Bs) [none] ⟨none,rfl⟩ (λt ht U ⟨o,ho⟩=>?_) (by rw[i8];omega));subst ho;exact⟨_,rfl,⟨_,rfl⟩,rfl⟩
 have on:=E4 (ws:=Tc Bs) (by rw[u8];omega);unfold lgO;cases h:dup [] (Tc Bs)with
 |none=>rw[h]at on;exact zZ (zd ⟨_,rfl,zd ⟨_,yE (zK rfl) e,zd ⟨_,zO (zz (zp ec rfl) on),rfl⟩⟩⟩)
 |some z=>rw[h]at on;exact jc (zd ⟨_,rfl,zd ⟨_,yE (zK rfl) e,Ym (vq (W0 (zp ec rfl) on))⟩⟩)
def E7{z:Str}{r:Pe}(J:Jn N F)(nd:(T.map (·.1)).Nodup)(hT:∀t∈T,SG N F t)(hh:Sd∈N)(hB:∀R∈Bs,Bk T F R)(hl:Bs.flatten.length<=1000)(hz:z∉T.map (·.1)):qP [tb N W F T,.s Sd,.l (TQ Bs++.l [.s z]::r)]=.exc 7 [("name",.s z)]:=by obtain⟨x',e⟩:=ai (W:=W) (B:=.l (TQ Bs++.l [.s z]::r)) (r:=.l [.s z]::r) J nd hT hh (M:=[]) (x:=none) hB (by show 0+_<=_;omega);refine jc (zd ⟨_,rfl,Ym (yE (zK rfl) (e.trans ?_))⟩);show(wJ (eS N W F T Sd (.l (TQ Bs++.l [.s z]::r)) _ (some (.l [.s z])))).bind _=_;rw[show wJ (eS N W F T Sd (.l (TQ Bs++.l [.s z]::r)) ([]++Sm F Sd Bs) (some (.l [.s z])))=.exc 7 [("name",.s z)]from Ym (vq (W0 rfl (E6 hz hh)))];rfl
end
section
variable {N:OP}{W:List Wy}{F:Str->Ht}{L:SU}{T R R0 A B:List Tp}{t u z:Tp}{Sd p:Str}{Bs:List (List Tp)}
abbrev uS(L:SU)(Sd:Str)(Bv:PV)(M R:List Tp)(p:Str)(r:So):So:=[some (.dt L),some (.s Sd),some Bv,some (.l (M.map tP)),some (.l (R.map tP)),some (.s p)]++r
def ixA:Sg (.l ((A++t::B).map tP)) (.i (A.length:Int))=.ok (tP t):=by rw[oB (by omega) (by rw[u8,O1,v0];omega),Ϭ];congr 2;show(A++t::B)[((A.length:Int)).toNat]=t;simp
def Bb(J:Jn N F)(hL:ϒ N L F)(ht:SG N F t)(hh:Sd∈N)(hp:p∈N)(hl:M.length<=1000):Yi (uS L Sd Bv M (A++t::B) p [some (.i (A.length:Int)),a,b,c,d,e,f])=.ok (.nx (uS L Sd Bv (M++[(t.1,p,gl Sd t B,t.2.2.2.1-fd F p t.2.1,t.2.2.2.2.1+fd F t.2.2.1 (gl Sd t B),t.2.2.2.2.2)]) (A++t::B) t.2.2.1 [some (.i (A.length:Int)),some (.s t.1),some (.s t.2.1),some (.s (gl Sd t B)),some (.i t.2.2.2.1),some (.i (t.2.2.2.2.1+fd F t.2.2.1 (gl Sd t B))),some (.i t.2.2.2.2.2)])):=by
 have hI:Se Sg (zc 4) (zc 6) (uS L Sd Bv M (A++t::B) p [some (.i (A.length:Int)),a,b,c,d,e,f])=.ok (tP t):=zo rfl rfl ixA;have e1:GZ (ϣ 6 (qr (Sr 7) (qr (Sr 8) (qr (Sr 9) (qr (Sr 10) (qr (Sr 11) (qr (Sr 12) iD))))))) (Se Sg (zc 4) (zc 6)) (uS L Sd Bv M (A++t::B) p [some (.i (A.length:Int)),a,b,c,d,e,f])=.ok (.nx (uS L Sd Bv M (A++t::B) p [some (.i (A.length:Int)),some (.s t.1),some (.s t.2.1),some (.s t.2.2.1),some (.i t.2.2.2.1),some (.i t.2.2.2.2.1),some (.i t.2.2.2.2.2)])):=by unfold GZ;rw[hI,SE];rfl
 have e2:Sy (zW (Se (qE false) (zc 6) (Se XJ (zg jC (zb (zc 4) zm)) (mC (.i 1))))) (zX (qb 11 (Se zU (zc 11) (mB (zc 0) (zb (zc 9) (zb (zc 1) zm))))) (qb 9 (zc 1))) yH (uS L Sd Bv M (A++t::B) p [some (.i (A.length:Int)),some (.s t.1),some (.s t.2.1),some (.s t.2.2.1),some (.i t.2.2.2.1),some (.i t.2.2.2.2.1),some (.i t.2.2.2.2.2)])=.ok (.nx (uS L Sd Bv M (A++t::B) p [some (.i (A.length:Int)),some (.s t.1),some (.s t.2.1),some (.s (gl Sd t B)),some (.i t.2.2.2.1),some (.i (t.2.2.2.2.1+fd F t.2.2.1 (gl Sd t B))),some (.i t.2.2.2.2.2)])):=by
  have q:zW (Se (qE false) (zc 6) (Se XJ (zg jC (zb (zc 4) zm)) (mC (.i 1)))) (uS L Sd Bv M (A++t::B) p [some (.i (A.length:Int)),some (.s t.1),some (.s t.2.1),some (.s t.2.2.1),some (.i t.2.2.2.1),some (.i t.2.2.2.2.1),some (.i t.2.2.2.2.2)])=.ok (decide (B=[])):=by refine yh (zo (y:=.i (((A++t::B).length:Nat)-1)) rfl (zo (zz (f:=jC) (xs:=[.l ((A++t::B).map tP)]) rfl qQ) rfl rfl) (sF.trans ?_));rw[ϑ,O1,v0];congr 2;refine decide_eq_decide.mpr ⟨λh=>a1S (by omega),λh=>by rw[h];show(A.length:Int)=((A.length+(0+1):Nat):Int)-1;omega⟩
  refine(yX q).trans ?_;unfold gl;by_cases h:B=[]
  .rw[if_pos (O9 h),if_pos h];exact zd ⟨_,yy (zo (x:=.i t.2.2.2.2.1) rfl (cg (x:=t.2.2.1) (y:=Sd) rfl rfl ((hL _ ht.goal _ hh).trans (v7 (J.all _ ht.goal _ hh)))) rfl),rfl⟩
  .rw[if_neg (by rw[O8 h];exact P5),if_neg h,show fd F t.2.2.1 t.2.2.1=0 by unfold fd;rw[J.slf _ ht.goal];rfl,a3e];rfl
 refine zd ⟨_,e1,zd ⟨_,e2,zd ⟨_,(gw (xs:=M.map tP) rfl (Y0 (xs:=[.s t.1,.s p,.s (gl Sd t B),.i (t.2.2.2.1-fd F p t.2.1),.i (t.2.2.2.2.1+fd F t.2.2.1 (gl Sd t B)),.i t.2.2.2.2.2]) (zp rfl (zp rfl (zp rfl (zp (zo (x:=.i t.2.2.2.1) rfl (cg (x:=p) (y:=t.2.1) rfl rfl ((hL _ hp _ ht.org).trans (v7 (J.all _ hp _ ht.org)))) rfl) (zp rfl (zp rfl rfl)))))) (P2 rfl)) (by rw[u8];omega)),?_⟩⟩⟩;refine(yy (zo (zo rfl rfl ixA) rfl rfl)).trans ?_;show Out.ok (Fw.nx [_,_,_,_,_,_,_,_,_,_,_,_,_])=Out.ok (Fw.nx [_,_,_,some (.l ((M++[_]).map tP)),_,_,_,_,_,_,_,_,_]);rw[R7 (l₁:=M)];rfl
def OJ(J:Jn N F)(hL:ϒ N L F)(hT:∀t∈R,SG N F t)(hh:Sd∈N)(hl:M.length+R.length<=1000):∃p r,r.length=7/\wj Kt Yi (d8 0 R.length) (uS L Sd Bv M R Sd [a,b,c,d,e,f,g])=.ok (.nx (uS L Sd Bv (M++Ss F Sd Sd R) R p r)):=by
 obtain⟨U',⟨A,B,p,M',a,b,c,d,e,f,g,h1,h2,_,h3,_,h4⟩,q⟩:=XN (g:=Kt) (b:=Yi) (λk U=>∃(A B:List Tp)(p:Str)(M':List Tp)(a b c d e f g:Pu),R=A++B/\A.length=k/\p∈N/\M'++Ss F Sd p B=M++Ss F Sd Sd R/\M'.length+B.length<=1000/\U=uS L Sd Bv M' R p [a,b,c,d,e,f,g]) R.length (uS L Sd Bv M R Sd [a,b,c,d,e,f,g]) ⟨[],R,Sd,M,a,b,c,d,e,f,g,rfl,rfl,hh,rfl,hl,rfl⟩ (λk hk U ⟨A,B,p,M',a,b,c,d,e,f,g,h1,h2,hp,h3,hl,h4⟩=>by
  subst h4 h2;cases B with
  |nil=>rw[h1,P7]at hk;omega
  |cons t B=>
   have ht:=hT t (by rw[h1];exact R8 _ O0);have s:=Bb (L:=L) (A:=A) (B:=B) (Bv:=Bv) (M:=M') (a:=b) (b:=c) (c:=d) (d:=e) (e:=f) (f:=g) J hL ht hh hp (by omega);rw[<- h1]at s;refine⟨_,rfl,_,⟨A++[t],B,t.2.2.1,_,_,_,_,_,_,_,_,by rw[h1,S0];rfl,by rw[O1];rfl,ht.goal,?_,?_,rfl⟩,.inl s⟩
   .rw[<- h3,X9 (J.slf _ ht.goal),S0];rfl
   .rw[O1];rw[v0]at hl;show M'.length+1+_<=_;omega)
 subst h4;have:B=[]:=a1S (by have:=SS List.length h1;rw[O1]at this;omega);subst this;rw[show Ss F Sd p []=[]from rfl,P7]at h3;rw[h3]at q;exact⟨p,_,rfl,q⟩
def Lv{Bv:PV}(J:Jn N F)(hL:ϒ N L F)(hh:Sd∈N):∀{Bs:List (List Tp)}{M:List Tp}{x:Pu}{r:So},(∀R∈Bs,∀t∈R,SG N F t)->M.length+Bs.flatten.length<=1000->r.length=8->∃x' r',wj Ku Kv (Bs.map λR=>.l (R.map tP)) ([some (.dt L),some (.s Sd),some Bv,some (.l (M.map tP)),x]++r)=.ok (.nx ([some (.dt L),some (.s Sd),some Bv,some (.l ((M++Sm F Sd Bs).map tP)),x']++r'))
 |[],M,x,r,_,_,_=>⟨x,r,by show _=Out.ok (Fw.nx ([_,_,_,some (.l ((M++[]).map tP)),_]++r));rw[P7];rfl⟩
 |R::Bs,M,x,r,hT,hl,hr=>by
  obtain⟨r0,a,b,c,d,e,f,g,rfl⟩:∃r0 a b c d e f g,r=[r0,a,b,c,d,e,f,g]:=by
   match r,hr with
   |[r0,a,b,c,d,e,f,g],_=>exact⟨r0,a,b,c,d,e,f,g,rfl⟩
  rw[Μ,O1]at hl;obtain⟨p,r',l',q⟩:=OJ (L:=L) (Bv:=Bv) (M:=M) (R:=R) (a:=a) (b:=b) (c:=c) (d:=d) (e:=e) (f:=f) (g:=g) J hL (hT R O0) hh (by omega);obtain⟨x',r2,q2⟩:=Lv (Bv:=Bv) J hL hh (Bs:=Bs) (M:=M++Ss F Sd Sd R) (x:=some (.l (R.map tP))) (r:=some (.s p)::r') (λS h=>hT S (O4 _ h)) (by rw[O1,Kw];omega) (by rw[v0,l']);refine⟨x',r2,?_⟩;have eb:Kv [some (.dt L),some (.s Sd),some Bv,some (.l (M.map tP)),some (.l (R.map tP)),r0,a,b,c,d,e,f,g]=.ok (.nx (uS L Sd Bv (M++Ss F Sd Sd R) R p r')):=zd ⟨_,rfl,yE (fu (n:=R.length) (zp (zz (f:=jC) (xs:=[.l (R.map tP)]) rfl qQ) rfl) (by omega)) q⟩;rw[O6,fo,show Ku (.l (R.map tP)) ([some (.dt L),some (.s Sd),some Bv,some (.l (M.map tP)),x]++[r0,a,b,c,d,e,f,g])=some [some (.dt L),some (.s Sd),some Bv,some (.l (M.map tP)),some (.l (R.map tP)),r0,a,b,c,d,e,f,g]from rfl,Ur,j3,eb,j3,show Sm F Sd (R::Bs)=Ss F Sd Sd R++Sm F Sd Bs from rfl,<- S0];exact q2
def uw(J:Jn N F)(hL:ϒ N L F)(hh:Sd∈N)(hT:∀R∈Bs,∀t∈R,SG N F t)(hl:Bs.flatten.length<=1000):yf [.dt L,.s Sd,bP Bs]=.ok (.l ((Sm F Sd Bs).map tP)):=by obtain⟨x',r',q⟩:=Lv (Bv:=bP Bs) J hL hh (Bs:=Bs) (M:=[]) (x:=none) (r:=List.replicate 8 none) hT (by show 0+_<=_;omega) rfl;exact zZ (zd ⟨_,rfl,zd ⟨_,yE (zK rfl) q,rfl⟩⟩)
end
def QC:(∀z:Str,aN n (.s z) (.s z)=some true)/\∀i:Int,aN n (.i i) (.i i)=some true:=by
 constructor
 .intro z;rw[B5,O9 rfl]
 .intro i;cases n<;>(show some (i==i)=_;rw[a0Z])
def ZP{f:PN}:∀{xs:Pe},(∀x∈xs,f x x=some true)->uX f xs xs=some true
 |[],_=>rfl
 |x::xs,h=>by show GF (f x x) (uX f xs xs)=_;rw[h x O0,ZP λy hy=>h y (O4 _ hy)];rfl
def ux:aN (n+1) (tP t) (tP t)=some true:=by
 show uX (aN n) [.s t.1,.s t.2.1,.s t.2.2.1,.i t.2.2.2.1,.i t.2.2.2.2.1,.i t.2.2.2.2.2] [.s t.1,.s t.2.1,.s t.2.2.1,.i t.2.2.2.1,.i t.2.2.2.2.1,.i t.2.2.2.2.2]=_;refine ZP λx hx=>?_;simp only[List.mem_cons,List.not_mem_nil,or_false]at hx;rcases hx with rfl|rfl|rfl|rfl|rfl|rfl
 .exact QC.1 _
 .exact QC.1 _
 .exact QC.1 _
 .exact QC.2 _
 .exact QC.2 _
 .exact QC.2 _
def eqT:qE n (tP t) (tP t)=.ok (.b (xor n true)):=by unfold qE;rw[show BX 8 (tP t) (tP t)=some true from ux]
def Lw{T:List Tp}{n:Bool}:qE n (.l (T.map tP)) (.l (T.map tP))=.ok (.b (xor n true)):=by unfold qE;rw[show BX 8 (.l (T.map tP)) (.l (T.map tP))=some true from ZP (f:=aN 7) λx hx=>by obtain⟨t,_,rfl⟩:=T7.mp hx;exact ux]
section
variable {N:OP}{W:List Wy}{F:Str->Ht}{L:SU}{T R R0 A B:List Tp}{t u z:Tp}{Sd p:Str}{Bs:List (List Tp)}
def OK{B:PL}{n:Bool}:qE n (.l (B.map λr=>.l (r.map .s))) (.l (B.map λr=>.l (r.map .s)))=.ok (.b (xor n true)):=by
 unfold qE;rw[show BX 8 (.l (B.map λr=>.l (r.map .s))) (.l (B.map λr=>.l (r.map .s)))=some true from ZP (f:=aN 7) λx hx=>by
  obtain⟨r,_,rfl⟩:=T7.mp hx;exact ZP (f:=aN 6) λy hy=>by obtain⟨z,_,rfl⟩:=T7.mp hy;exact QC.1 _]
def IE:∃x',wj Vl Vm (d8 0 3) [some X,some Yaa,some (tP t),x]=.ok (.nx [some X,some Yaa,some (tP t),x']):=⟨some (.i 2),rfl⟩
def Bc:y_ [.l (R.map tP),.l (R.map tP)]=.ok (.b true):=by
 obtain⟨U',⟨x,y,rfl⟩,e⟩:=Z4 (g:=Vn) (b:=Vo) tP (λ_ U=>∃x y,U=[some (.l (R.map tP)),some (.l (R.map tP)),x,y]) R [some (.l (R.map tP)),some (.l (R.map tP)),none,none] ⟨none,none,rfl⟩ (λk hk U ⟨x,y,hρ⟩=>by
  subst hρ;obtain⟨y',q⟩:=IE (X:=.l (R.map tP)) (Yaa:=.l (R.map tP)) (t:=R[k]) (x:=y);exact⟨_,rfl,_,⟨some (tP R[k]),y',rfl⟩,.inl (zd ⟨_,(yX (x:=false) rfl).trans rfl,yE (fu (n:=3) rfl (by decide)) q⟩)⟩)
 refine zZ (zd ⟨_,(yX (x:=false) (dR (x:=false) (y:=false) rfl (yh (zo (zz (f:=jC) (xs:=[.l (R.map tP)]) rfl qQ) (zz (f:=jC) (xs:=[.l (R.map tP)]) rfl qQ) (sF.trans (by rw[O9 rfl];rfl)))))).trans rfl,zd ⟨_,yE (zK rfl) e,VD (zo rfl rfl Lw)⟩⟩)
def Bd:∀a:Fin 11,∀b:Fin 11,∀n:Fin 35,υ a.val b.val n.val≠"none":=by decide +kernel
def E8{nm:Rg}(h:a+b<=10)(hT:E3 N F (υ a b) T)(hl:T.length<=12):("none":Str)∉T.map (·.1):=by rw[hT.nms];intro q;obtain⟨k,hk,e⟩:=T7.mp q;have:=Λ.mp hk;exact Bd ⟨a,by omega⟩ ⟨b,by omega⟩ ⟨k,by omega⟩ e
end
def gL{α:Type}{A B:List α}{j:Nat}{x:α}(h:A[j]?=some x):(A++B)[j]?=some x:=by rw[T9 (P8.mp h).1];exact h
def i_(ho:mo U G=.ok (.g k) G)(h1:G[k]?=some (.l xs))(ha:ma U G=.ok y G2)(h2:G2[k]?=some (.l xs))(hl:xs.length<=1000):Hq mo ma U G=.nx U (G2.set k (.l (xs++[y]))):=by
 unfold Hq;rw[ho];show(match G[k]? with
  |some (.l _)=>(ma U G).fw λy G2=>match G2[k]? with
   |some (.l xs)=>if xs.length<sizeLine then Ti.nx U (G2.set k (.l (xs++[y])))else .wall
   |_=>.wall
  |_=>.wall)=_
 rw[h1];dsimp only;rw[ha];show(match G2[k]? with
   |some (.l xs)=>if xs.length<sizeLine then Ti.nx U (G2.set k (.l (xs++[y])))else .wall
   |_=>.wall)=_
 rw[h2];dsimp only;rw[if_pos (Nat.lt_of_le_of_lt hl (by decide))]
def ϡ(h:∀r,m r=.ok x):hP [] m U G=.ok (.v x) G:=by
 have v:∀U:ZJ,∃r,KZ [] U=some r:=λU=>by
  induction U with
  |nil=>exact⟨_,rfl⟩
  |cons a U ih=>obtain⟨r,e⟩:=ih;exact⟨none::r,by show(KZ [] U).map _=_;rw[e];rfl⟩
 obtain⟨r,hr⟩:=v U;exact aO hr (h r)
def Lx(h0:KZ bs U=some r)(h2:m r=.ok x)(hc:iH x=some c):hF bs m U G=.ok (.g G.length) (G++[c]):=by unfold hF;rw[h0];dsimp only;rw[h2];dsimp only;rw[hc]
def Wn(h:hm (xs.map some++List.replicate (n-xs.length) none) G=.rt x G1):As n hm xs G=.ok x G1:=by unfold As;rw[h]
section
variable {N:OP}{W:List Wy}{F:Str->Ht}{T R:List Tp}{Sd:Str}{kt kh:Nat}{G:AH}{B:Pe}
def nh:∀{R:List Tp},oW (R.map tP)=true
 |[]=>rfl
 |t::R=>by show(true&&oW (R.map tP))=true;rw[nh];rfl
def IF(h:m1 U G=.nx U' G1):dh cs cs2 m1 j m2 m3 U G=.nx U' G1:=by unfold dh;rw[h]
def Ni(h:m1 U G=.exc c fs G1)(hc:c∈cs)(h2:m2 (U.set j (some (.v (.x c fs)))) G1=.rt x G2):dh cs cs2 m1 j m2 m3 U G=.rt x G2:=by unfold dh;rw[h];dsimp only;rw[if_pos hc,h2]
def Nj(h:m1 U G=.exc c fs G1)(hc:c∉cs)(hc2:c∈cs2)(h2:m3 (U.set j (some (.v (.x c fs)))) G1=.rt x G2):dh cs cs2 m1 j m2 m3 U G=.rt x G2:=by unfold dh;rw[h];dsimp only;rw[if_neg hc,if_pos hc2,h2]
def OL(h0:KZ bs U=none)(h1:Jc G bs U=some r)(h2:m r=.exc c fs)(hi:Ak fs=true):hF bs m U G=.exc c fs G:=by unfold hF;rw[h0];dsimp only;rw[h1];dsimp only;rw[h2];dsimp only;rw[if_pos hi]
def gE(ht:jH G 8 (.g kt)=some (tb N W F T))(hb:jH G 8 (.g kh)=some (.l B)):
  (∀R:List Tp,qP [tb N W F T,.s Sd,.l B]=.ok (.l (R.map tP))->yp [.g kt,.v (.s Sd),.g kh] G=.ok (.t [.v (.t [.s "right"]),.g G.length]) (G++[.l ((R.map tP).map .v)]))/\
  (∀z:Str,qP [tb N W F T,.s Sd,.l B]=.exc 7 [("name",.s z)]->yp [.g kt,.v (.s Sd),.g kh] G=.ok (.v (.t [.t [.s "trip",.s z],.n])) G)/\
  (∀z:Str,qP [tb N W F T,.s Sd,.l B]=.exc 4 [("name",.s z)]->yp [.g kt,.v (.s Sd),.g kh] G=.ok (.v (.t [.t [.s "twice",.s z],.n])) G):=by
 have e3:qF 3 (hP [] (mC .n)) [some (.g kt),some (.v (.s Sd)),some (.g kh),none,none,none] G=.nx [some (.g kt),some (.v (.s Sd)),some (.g kh),some (.v .n),none,none] G:=z5 (ϡ λ_=>rfl);have rs:Jc G RI [some (.g kt),some (.v (.s Sd)),some (.g kh),some (.v .n),none,none]=some [some (tb N W F T),some (.s Sd),some (.l B),none,none,none]:=kO ht (kO rfl (kO hb (ZT (ZT (ZT gp)))));have cx:∀{o:Out PV},qP [tb N W F T,.s Sd,.l B]=o->fq qP (zb (zc 0) (zb (zc 1) (zb (zc 2) zm))) [some (tb N W F T),some (.s Sd),some (.l B),none,none,none]=o:=λh=>h;have bx:∀{c:Nat}{z:Str},qP [tb N W F T,.s Sd,.l B]=.exc c [("name",.s z)]->qF 3 (hF RI (fq qP (zb (zc 0) (zb (zc 1) (zb (zc 2) zm))))) [some (.g kt),some (.v (.s Sd)),some (.g kh),some (.v .n),none,none] G=.exc c [("name",.s z)] G:=λh=>by unfold qF;rw[OL rfl rs (cx h) rfl];rfl
 have x1:∀{c:Nat}{z:Str}{y:Pu},c∈[1,4,5,7,8,9]->xT [1,4,5,7,8,9] "name" (zc 4) [none,none,none,none,some (.x c [("name",.s z)]),y]=.ok (.s z):=λ{c z y} hc=>by show(if c∈[1,4,5,7,8,9]then ZS (List.lookup ("name":Str) [("name",PV.s z)])else .wall)=_;rw[if_pos hc,bT];rfl
 refine⟨λR h=>?_,λz h=>?_,λz h=>?_⟩
 .refine Wn (zw e3 (zw (IF (z5 (Lr rfl rs (cx h) nh rfl))) (Wl ?_)));show((zL (hP [] (V5 (zb (mC (.s "right")) zm))) (zL (qo 3) WB)) _ _).bind _=_;unfold zL;rw[ϡ (m:=V5 (zb (mC (.s "right")) zm)) (x:=.t [.s "right"]) λ_=>Y0 rfl (P2 rfl)];rfl
 .exact Wn (zw e3 (iV (Ni (bx h) O0 (Wl (aO rfl (Y0 (zp (Y0 (zp rfl (zp (x1 (by decide)) rfl)) (P2 rfl)) (zp rfl rfl)) (P2 rfl)))))))
 .exact Wn (zw e3 (iV (Nj (bx h) (by show(4:Nat)∉[7];decide) O0 (zw (z5 (aO (x:=.b false) rfl rfl)) (zw ((Xt (b9 (b:=false) rfl rfl)).trans rfl) (Wl (aO rfl (Y0 (zp (Y0 (zp rfl (zp (x1 (by decide)) rfl)) (P2 rfl)) (zp rfl rfl)) (P2 rfl)))))))))
end
section
def X_(h0:KZ bs U=some r)(h1:mi r=.ok xs)(h:bV g b (xs.map .v) U G=o):fE bs mi g b U G=o:=by unfold fE;rw[h0];dsimp only;rw[h1];exact h
def dX(h1:g x U=some ρ1)(h2:b ρ1 G=.nx ρ2 G2)(h:bV g b xs ρ2 G2=o):bV g b (x::xs) U G=o:=by unfold bV;rw[h1];dsimp only;rw[h2];exact h
def IG{G:AH}{n:Nat}:∀{xs:Pe},(∀x∈xs,TV x=true)->fD (gX G (n+1)) (xs.map .v)=some xs
 |[],_=>rfl
 |x::xs,h=>by show(if TV x=true then some x else none).bind _=_;rw[if_pos (h x O0),IG (xs:=xs) λy hy=>h y (O4 _ hy)];rfl
variable {ns:Pn}{N:OP}{F:Str->Ht}{T a b c R:List Tp}{t:Tp}{nm:Rg}
def Nk(h:i<R.length):Sg (.l (R.map tP)) (.i (i:Int))=.ok (tP R[i]):=by rw[oB (by omega) (by rw[u8];omega),Ϭ];rfl
abbrev SI(a:List Tp):Cell:=.l ((a.map tP).map .v)
abbrev G3(a b c:List Tp):AH:=[SI a,SI b,SI c,.l [.g 0,.g 1,.g 2]]
abbrev kS(ns:Pn)(T:List Tp)(x y z:Option HV):ZJ:=[some (.v (.sc ns)),some (.v (.l (T.map tP))),some (.g 3),x,y,z]
def uy:Cell.l ((a.map tP).map .v++[.v (tP t)])=SI (a++[t]):=by unfold SI;rw[R7,R7];rfl
def Nl(hk:k<T.length)(hl:T.length<=12)(ha:a.Sublist (T.take k))(hb:b.Sublist (T.take k))(hc:c.Sublist (T.take k))(hs:a.length+b.length+c.length<=k):∃a' b' c' y',a'.Sublist (T.take (k+1))/\b'.Sublist (T.take (k+1))/\c'.Sublist (T.take (k+1))/\a'.length+b'.length+c'.length<=k+1/\qy (kS ns T (some (.v (.i (k:Int)))) y none) (G3 a b c)=.nx (kS ns T (some (.v (.i (k:Int)))) y' none) (G3 a' b' c'):=by
 obtain⟨w,w0,w1,ew⟩:=yC (ns:=ns) (k:=110+(k:Int)) (m:=4) (by omega) (by omega) (by decide);have up:∀{x:List Tp},x.Sublist (T.take k)->x.Sublist (T.take (k+1)):=λh=>h.trans (by rw[T6 hk];exact List.sublist_append_left _ _);have un:∀{x:List Tp},x.Sublist (T.take k)->(x++[T[k]]).Sublist (T.take (k+1)):=λh=>by rw[T6 hk];exact h.append (List.Sublist.refl _)
 have e4:qF 4 (hP RY (zg zi (zb (zc 0) (zb (Se zU (mC (.i 110)) (zc 3)) (zb (mC (.i 4)) zm))))) (kS ns T (some (.v (.i (k:Int)))) y none) (G3 a b c)=.nx (kS ns T (some (.v (.i (k:Int)))) (some (.v (.i w))) none) (G3 a b c):=z5 (aO rfl (zz (xs:=[.sc ns,.i (110+(k:Int)),.i 4]) rfl ew));have tt:=b9 (G:=G3 a b c) (bs:=Rr) (U:=kS ns T (some (.v (.i (k:Int)))) (some (.v (.i w))) none) rfl (tY (a:=zc 4) (x:=w) (n:=3) rfl);have ix:∀{G:AH},hP RT (Se Sg (zc 1) (zc 3)) (kS ns T (some (.v (.i (k:Int)))) (some (.v (.i w))) none) G=.ok (.v (tP T[k])) G:=aO rfl (zo rfl rfl (Nk hk));by_cases h3:w<3
 .rw[O9 h3]at tt;have go:=λ{o} (h:Hq (hIx (qo 2) (qo 4)) (hP RT (Se Sg (zc 1) (zc 3))) (kS ns T (some (.v (.i (k:Int)))) (some (.v (.i w))) none) (G3 a b c)=o)=>(zw e4 ((EH tt).trans h):qy (kS ns T (some (.v (.i (k:Int)))) y none) (G3 a b c)=o);obtain rfl|rfl|rfl:w=0\/w=1\/w=2:=by omega
  .refine⟨a++[T[k]],b,c,some (.v (.i 0)),un ha,up hb,up hc,by rw[O1];show a.length+1+_+_<=_;omega,go ((i_ (k:=0) rfl rfl ix rfl (by rw[u8,u8];omega)).trans ?_)⟩;show Ti.nx _ [_,_,_,_]=Ti.nx _ [_,_,_,_];rw[uy]
  .refine⟨a,b++[T[k]],c,some (.v (.i 1)),up ha,un hb,up hc,by rw[O1];show a.length+(b.length+1)+_<=_;omega,go ((i_ (k:=1) rfl rfl ix rfl (by rw[u8,u8];omega)).trans ?_)⟩;show Ti.nx _ [_,_,_,_]=Ti.nx _ [_,_,_,_];rw[uy]
  .refine⟨a,b,c++[T[k]],some (.v (.i 2)),up ha,up hb,un hc,by rw[O1];show a.length+_+(c.length+1)<=_;omega,go ((i_ (k:=2) rfl rfl ix rfl (by rw[u8,u8];omega)).trans ?_)⟩;show Ti.nx _ [_,_,_,_]=Ti.nx _ [_,_,_,_];rw[uy]
 .rw[O8 h3]at tt;exact⟨a,b,c,_,up ha,up hb,up hc,by omega,zw e4 ((Xt tt).trans rfl)⟩
def IH(hl:T.length<=12):∀{m k:Nat}{a b c:List Tp}{x y:Option HV},k+m=T.length->a.Sublist (T.take k)->b.Sublist (T.take k)->c.Sublist (T.take k)->a.length+b.length+c.length<=k->∃a' b' c' x' y',a'.Sublist T/\b'.Sublist T/\c'.Sublist T/\a'.length+b'.length+c'.length<=T.length/\bV vV qy ((List.range' k m).map λi:Nat=>HV.v (.i (i:Int))) (kS ns T x y none) (G3 a b c)=.nx (kS ns T x' y' none) (G3 a' b' c')
 |0,k,a,b,c,x,y,h,ha,hb,hc,hs=>by have:T.take k=T:=a0E (by omega);rw[this]at ha hb hc;exact⟨a,b,c,x,y,ha,hb,hc,by omega,rfl⟩
 |m+1,k,a,b,c,x,y,h,ha,hb,hc,hs=>by obtain⟨a1,b1,c1,y1,a2,b2,c2,s2,e⟩:=Nl (ns:=ns) (y:=y) (by omega) hl ha hb hc hs;obtain⟨a',b',c',x',y',p1,p2,p3,p4,q⟩:=IH hl (m:=m) (k:=k+1) (x:=some (.v (.i (k:Int)))) (y:=y1) (by omega) a2 b2 c2 s2;exact⟨a',b',c',x',y',p1,p2,p3,p4,dX rfl e q⟩
end
section
variable {ns:Pn}{N:OP}{F:Str->Ht}{T a b c R:List Tp}{t:Tp}{G G':AH}
def Rl(G:AH):List Nat->List (List Tp)->Prop
 |[],[]=>True
 |h::hs,d::D=>(G[h]?=some (SI d)/\h≠3)/\Rl G hs D
 |_,_=>False
def Rl.len:∀{hs:OS}{D:List (List Tp)},Rl G hs D->hs.length=D.length
 |[],[],_=>rfl
 |_::_,_::_,h=>SS (·+1) (Rl.len h.2)
def Rl.mono(m:∀(h:Nat)(x:Cell),h≠3->G[h]?=some x->G'[h]?=some x):∀{hs:OS}{D:List (List Tp)},Rl G hs D->Rl G' hs D
 |[],[],_=>trivial
 |_::_,_::_,h=>⟨⟨m _ _ h.1.2 h.1.1,h.1.2⟩,Rl.mono m h.2⟩
def Rl.ins{k:Nat}{d:List Tp}(hk:G[k]?=some (SI d))(k3:k≠3):∀{i:Nat}{hs:OS}{D:List (List Tp)},Rl G hs D->Rl G (hs.take i++k::hs.drop i) (D.take i++d::D.drop i)
 |0,_,_,h=>⟨⟨hk,k3⟩,h⟩
 |_+1,[],[],h=>⟨⟨hk,k3⟩,trivial⟩
 |_+1,_::_,_::_,h=>⟨h.1,Rl.ins hk k3 h.2⟩
def Rl.res{f:HV->Option PV}(hf:∀(k:Nat)(d:List Tp),G[k]?=some (SI d)->f (.g k)=some (.l (d.map tP))):∀{hs:OS}{D:List (List Tp)},Rl G hs D->fD f (hs.map .g)=some (D.map λd=>.l (d.map tP))
 |[],[],_=>rfl
 |_::_,_::_,h=>by rw[O6,O6];unfold fD;rw[hf _ _ h.1.1,Rl.res hf h.2];rfl
structure HB(G:AH)(hs:OS)(D:List (List Tp)):Prop where
 out:G[3]?=some (.l (hs.map .g))
 rel:Rl G hs D
def HB.jH{hs:OS}{D:List (List Tp)}(h:HB G hs D):jH G 8 (.g 3)=some (bP D):=by unfold L2.jH;rw[h.out];show(fD (L2.jH G 7) _).map PV.l=_;rw[h.rel.res λk d e=>v5 (n:=5) e];rfl
def HB.gX{hs:OS}{D:List (List Tp)}(h:HB G hs D):gX G 8 (.g 3)=some (bP D):=by
 unfold L2.gX;rw[h.out];show(fD (L2.gX G 7) _).map PV.l=_;rw[h.rel.res λk d e=>by
  unfold L2.gX;rw[e];show(fD (L2.gX G 6) _).map PV.l=_;rw[IG λx hx=>by obtain⟨t,_,rfl⟩:=T7.mp hx;rfl];rfl]
 rfl
def Nn(h:g (xs.map .v) []=.ok (.g 3) G)(H:HB G hs D):ϸ g xs=.ok (bP D):=by unfold ϸ;rw[h];dsimp only;rw[H.gX]
def Np{k:Nat}{hs:OS}{D:List (List Tp)}{y z:Option HV}(h:HB G hs D)(h4:4<=G.length)(hk:k<2)(hD:D.length<=100)(hT:0<T.length)(hl:T.length<=12):∃(G':AH)(hs':OS)(i:Nat)(t:Tp)(z':Option HV),t∈T/\HB G' hs' (D.take i++[t]::D.drop i)/\4<=G'.length/\jN (kS ns T (some (.v (.i (k:Int)))) y z) G=.nx (kS ns T (some (.v (.i (k:Int)))) y z') G':=by
 obtain⟨w,w0,w1,ew⟩:=yC (ns:=ns) (k:=131+(k:Int)) (m:=(T.length:Int)) (by omega) (by omega) (by omega);obtain⟨i,i0,i1,ei⟩:=yC (ns:=ns) (k:=133+(k:Int)) (m:=(D.length:Int)+1) (by omega) (by omega) (by omega);obtain⟨j,rfl⟩:=Ϩ w0;obtain⟨i,rfl⟩:=Ϩ i0;have hj:j<T.length:=by omega
 have e5:qF 5 (hP RO (Se Sg (zc 1) (zg zi (zb (zc 0) (zb (Se zU (mC (.i 131)) (zc 3)) (zb (zg jC (zb (zc 1) zm)) zm)))))) (kS ns T (some (.v (.i (k:Int)))) y z) G=.nx (kS ns T (some (.v (.i (k:Int)))) y (some (.v (tP T[j])))) G:=z5 (aO rfl (zo rfl (zz (xs:=[.sc ns,.i (131+(k:Int)),.i (T.length:Int)]) (zp rfl (zp rfl (zp (zz (xs:=[.l (T.map tP)]) rfl qQ) rfl))) ew) (Nk hj)));have rs:Jc G RU (kS ns T (some (.v (.i (k:Int)))) y (some (.v (tP T[j]))))=some [some (.sc ns),none,some (bP D),some (.i (k:Int)),none,none]:=kO rfl (yi (kO h.jH (kO rfl (ZT (ZT gp)))));have a1:hP RU (zg zi (zb (zc 0) (zb (Se zU (mC (.i 133)) (zc 3)) (zb (Se zU (zg jC (zb (zc 2) zm)) (mC (.i 1))) zm)))) (kS ns T (some (.v (.i (k:Int)))) y (some (.v (tP T[j])))) G=.ok (.v (.i (i:Int))) G:=EW rfl rs (zz (xs:=[.sc ns,.i (133+(k:Int)),.i ((D.length:Int)+1)]) (zp rfl (zp rfl (zp (zo (zz (f:=jC) (xs:=[bP D]) rfl qQ) rfl rfl) rfl))) ei) rfl;have a2:hF RF (KA (zb (zc 5) zm)) (kS ns T (some (.v (.i (k:Int)))) y (some (.v (tP T[j])))) G=.ok (.g G.length) (G++[SI [T[j]]]):=Lx rfl (tW (xs:=[tP T[j]]) rfl (P2 rfl)) rfl;have o2:(G++[SI [T[j]]])[3]?=some (.l (hs.map .g)):=gL h.out;have ln:=h.rel.len;refine⟨(G++[SI [T[j]]]).set 3 (.l ((hs.take i++G.length::hs.drop i).map .g)),hs.take i++G.length::hs.drop i,i,T[j],some (.v (tP T[j])),Β hj,⟨?_,Rl.ins ?_ (by omega) (h.rel.mono λq x q3 e=>?_)⟩,?_,zw e5 ?_⟩
 .rw[T5 (by rw[O1];omega)]
 .rw[S8 (by omega),ϩ (O2 _),a2n];rfl
 .rw[S8 λe=>q3 e.symm];exact gL e
 .rw[τ,O1];omega
 .unfold Es;rw[show qo 2 (kS ns T (some (.v (.i (k:Int)))) y (some (.v (tP T[j])))) G=.ok (.g 3) G from rfl];show(match G[3]? with
   |some (.l _)=>((zL _ (zL _ WB)) _ G).fw _
   |_=>_)=_
  rw[h.out];dsimp only;unfold zL;rw[a1,show ∀f:HV->AH->HX (List HV),(HX.ok (HV.v (PV.i (i:Int))) G).bind f=f (.v (.i (i:Int))) G from λ_=>rfl,a2];show(match(G++[SI [T[j]]])[3]? with|some (.l xs)=>_|_=>_)=_;rw[o2];dsimp only;rw[if_pos ⟨by omega,by rw[u8];omega,Ϯ (by rw[u8,ln];exact hD) (by decide)⟩,a0U,R7,O6,ϲ,a11]
def E9{D:List (List Tp)}{i:Nat}:(D.take i++[t]::D.drop i).flatten.length=D.flatten.length+1:=by have e:=SS (λl=>(List.flatten l).length) (a1F i D);simp only[List.flatten_append,List.length_append]at e;rw[a23,Μ,O1,O1];show _+(1+_)=_;omega
def II(hl:T.length<=12):∀{m k:Nat}{G:AH}{hs:OS}{D:List (List Tp)}{x y z:Option HV},(0<m->0<T.length)->k+m<=2->HB G hs D->4<=G.length->D.length<=50+k->∃(G':AH)(hs':OS)(D':List (List Tp)) (x' z':Option HV),HB G' hs' D'/\(∀R∈D',R∈D\/∃t∈T,R=[t])/\D'.flatten.length=D.flatten.length+m/\D'.length=D.length+m/\bV vW jN ((List.range' k m).map λi:Nat=>HV.v (.i (i:Int))) (kS ns T x y z) G=.nx (kS ns T x' y z') G'
 |0,k,G,hs,D,x,y,z,_,_,h,_,_=>⟨G,hs,D,x,z,h,λR hR=>.inl hR,rfl,rfl,rfl⟩
 |m+1,k,G,hs,D,x,y,z,h0,hk,h,h4,hD=>by
  obtain⟨G1,hs1,i,t,z1,ht,H1,l1,e1⟩:=Np (ns:=ns) (k:=k) (y:=y) (z:=z) h h4 (by omega) (by omega) (h0 (by omega)) hl;obtain⟨G',hs',D',x',z',H',s',f',g',e'⟩:=II hl (m:=m) (k:=k+1) (x:=some (.v (.i (k:Int)))) (y:=y) (z:=z1) (λ_=>h0 (by omega)) (by omega) H1 l1 (by rw[O1,v0,ϭ,Ϛ];omega);refine⟨G',hs',D',x',z',H',λR hR=>?_,by rw[f',E9];omega,by rw[g',O1,v0,ϭ,Ϛ];omega,dX rfl e1 e'⟩;rcases s' R hR with q|q
  .rcases T8.mp q with q|q
   .exact .inl (a1m q)
   .rcases P9.mp q with q|q
    .exact .inr ⟨t,ht,q⟩
    .exact .inl (List.mem_of_mem_drop q)
  .exact .inr q
def uz(hl:T.length<=12):∃Bs:List (List Tp),(∀R∈Bs,R.Sublist T\/∃t∈T,R=[t])/\Bs.flatten.length<=14/\Bs.length<=100/\ϸ Yj [.sc ns,.l (T.map tP)]=.ok (bP Bs):=by
 obtain⟨a,b,c,x,y,ha,hb,hc,hs,q⟩:=IH (ns:=ns) hl (m:=T.length) (k:=0) (a:=[]) (b:=[]) (c:=[]) (x:=none) (y:=none) (by omega) (a2v _) (a2v _) (a2v _) (O2 _);obtain⟨w,w0,w1,ew⟩:=yC (ns:=ns) (k:=130) (m:=3) (by decide) (by decide) (by decide);obtain⟨n,hn,n2,en⟩:∃n:Nat,(0<n->0<T.length)/\n<=2/\w*(if decide ((T.length:Int)>0)then 1 else 0)=(n:Int):=by
  by_cases h:(T.length:Int)>0
  .rw[O9 h];exact⟨w.toNat,λ_=>by omega,by omega,by show w*1=_;omega⟩
  .rw[O8 h];exact⟨0,λq=>absurd q (by omega),by omega,by show w*0=_;omega⟩
 have H0:HB (G3 a b c) [0,1,2] [a,b,c]:=⟨rfl,⟨rfl,by decide⟩,⟨rfl,by decide⟩,⟨rfl,by decide⟩,trivial⟩;obtain⟨G',hs',D',x',z',H',s',f',g',q'⟩:=II (ns:=ns) hl (m:=n) (k:=0) (x:=x) (y:=y) (z:=none) hn (by omega) H0 (O2 _) (by show 3<=50;omega);refine⟨D',λR hR=>?_,?_,by rw[g'];show 3+n<=100;omega,?_⟩
 .rcases s' R hR with h|h
  .simp only[List.mem_cons,List.not_mem_nil,or_false]at h;rcases h with rfl|rfl|rfl
   .exact .inl ha
   .exact .inl hb
   .exact .inl hc
  .exact .inr h
 .rw[f'];have:[a,b,c].flatten.length=a.length+b.length+c.length:=by simp;omega
  omega
 .have e2:qF 2 (Lk (zL (hF [] (KA zm)) (zL (hF [] (KA zm)) (zL (hF [] (KA zm)) WB)))) [some (.v (.sc ns)),some (.v (.l (T.map tP))),none,none,none,none] []=.nx (kS ns T none none none) (G3 [] [] []):=by have f:∀G:AH,hF [] (KA zm) [some (.v (.sc ns)),some (.v (.l (T.map tP))),none,none,none,none] G=.ok (.g G.length) (G++[.l []]):=λG=>Lx rfl (tW rfl (P2 rfl)) rfl;refine z5 ?_;have b:∀{α β:Type}(x:α)(G:AH)(f:α->AH->HX β),(HX.ok x G).bind f=f x G:=λ_ _ _=>rfl;unfold Lk zL WB;simp only[f,b];exact if_pos (P2 rfl)
  have b1:bV vV qy ((d8 0 ((T.length:Int)).toNat).map .v) (kS ns T none none none) (G3 [] [] [])=.nx (kS ns T x y none) (G3 a b c):=by rw[a0U,KY,γ,a1R];exact q
  have b2:bV vW jN ((d8 0 ((n:Int)).toNat).map .v) (kS ns T x y none) (G3 a b c)=.nx (kS ns T x' y z') G':=by rw[a0U,KY,γ,a1R];exact q'
  have e3:=X_ (bs:=RP) (U:=kS ns T none none none) (mi:=YZ (zb (zg jC (zb (zc 1) zm)) zm)) rfl (Uv (zp (zz (xs:=[.l (T.map tP)]) rfl qQ) rfl) (by omega) (by omega)) b1;have e4:=X_ (bs:=RK) (U:=kS ns T x y none) (mi:=YZ (zb (Se qS (zg zi (zb (zc 0) (zb (mC (.i 130)) (zb (mC (.i 3)) zm)))) (zg oi (zb (Se TU (zg jC (zb (zc 1) zm)) (mC (.i 0))) zm))) zm)) rfl (Uv (n:=(n:Int)) (zp (zo (zz (xs:=[.sc ns,.i 130,.i 3]) rfl ew) (zz (f:=oi) (xs:=[.b (decide ((T.length:Int)>0))]) (zp (zo (zz (xs:=[.l (T.map tP)]) rfl qQ) rfl rfl) rfl) rfl) ((ZI (by omega) (by omega)).trans (by rw[en]))) rfl) (by omega) (by omega)) b2;exact Nn (Wn (zw e2 (zw e3 (zw e4 rfl)))) H'
end
section
variable {N:OP}{W:List Wy}{F:Str->Ht}{T R:List Tp}{t u g:Tp}{Sd p:Str}
def CT(hW:WS N W)(gF:∀z,Jd z W (F z))(J:Jn N F)(hF:∀o∈N,∀z y,zM (F o) (sk z)=some y->0<=y/\y<=12000000)(hh:Sd∈N):∀{R:List Tp}{p:Str},(∀t∈R,SG N F t)->p∈N->(∀g∈Ss F Sd p R,0<=g.2.2.2.1/\g.2.2.2.2.1<=1000000000)->∀g∈Ss F Sd p R,SG N F g
 |[],p,_,_,_,g,hg=>nomatch hg
 |t::R,p,hT,hp,hb,g,hg=>by
  have ht:=hT t O0;have hgl:gl Sd t R∈N:=by unfold gl;split;exact hh;exact ht.goal
  rw[X9 (J.slf _ ht.goal)]at hg hb;rcases P9.mp hg with rfl|hg
  .have b:=hb _ O0;have d1:=v7 (J.all _ hp _ ht.org);have d2:=v7 (J.all _ ht.goal _ hgl);obtain⟨y1,e1,l1⟩:=ht.len;obtain⟨y2,l2,e2⟩:=tri hW gF ht.org d1 e1;obtain⟨y,l,e⟩:=tri hW gF ht.goal e2 d2;have n1:=(hF _ hp _ _ d1).1;have n2:=(hF _ ht.goal _ _ d2).1;have:=ht.fw;exact{ org:=hp,goal:=hgl,len:=⟨y,e,by show y<=t.2.2.2.2.1+fd F t.2.2.1 (gl Sd t R)-(t.2.2.2.1-fd F p t.2.1);omega⟩,st:=b.1,fw:=by show t.2.2.2.1-fd F p t.2.1<t.2.2.2.2.1+fd F t.2.2.1 (gl Sd t R);omega,fin:=b.2,Bq:=ht.Bq }
  .exact CT hW gF J hF hh (R:=R) (p:=t.2.2.1) (λu hu=>hT u (O4 _ hu)) ht.goal (λg h=>hb g (O4 _ h)) g hg
def E_{Bs:List (List Tp)}(hW:WS N W)(gF:∀z,Jd z W (F z))(J:Jn N F)(hF:∀o∈N,∀z y,zM (F o) (sk z)=some y->0<=y/\y<=12000000)(hh:Sd∈N)(hT:∀R∈Bs,∀t∈R,SG N F t)(hb:∀g∈Sm F Sd Bs,0<=g.2.2.2.1/\g.2.2.2.2.1<=1000000000):∀g∈Sm F Sd Bs,SG N F g:=λg hg=>by obtain⟨l,hl,hg'⟩:=a2w.mp hg;obtain⟨R,hR,rfl⟩:=T7.mp hl;exact CT hW gF J hF hh (hT R hR) hh (λq hq=>hb q (a2w.mpr ⟨_,hl,hq⟩)) g hg'
def uA(J:Jn N F)(hh:Sd∈N):∀{R:List Tp}{p:Str},(∀t∈R,SG N F t)->R.Pairwise (ο F)->∀(k:Nat)(a b:Tp),(Ss F Sd p R)[k]?=some a->(Ss F Sd p R)[k+1]?=some b->ο F a b
 |[],p,_,_,k,a,b,h,_=>by cases h
 |[t],p,_,_,k,a,b,_,h=>by cases h
 |t::u::R,p,hT,hp,0,a,b,h1,h2=>by
  have ht:=hT t O0;have hu:=hT u (O4 _ O0);rw[Ss,a1t]at h1;rw[Ss,S4,X9 (J.slf _ hu.goal),a1t]at h2;cases h1;cases h2;obtain⟨y,ey,l⟩:=(a1b.mp hp).1 u O0;have e:fd F t.2.2.1 u.2.1=y:=by unfold fd;rw[ey];rfl
  exact⟨0,J.slf _ ht.goal,by show t.2.2.2.2.1+0<=u.2.2.2.1-fd F t.2.2.1 u.2.1;omega⟩
 |t::u::R,p,hT,hp,k+1,a,b,h1,h2=>by rw[Ss,S4]at h1 h2;exact uA J hh (λv hv=>hT v (O4 _ hv)) (a1b.mp hp).2 k a b h1 h2
def sm:List Tp->Int
 |[]=>0
 |t::R=>t.2.2.2.2.1-t.2.2.2.1+sm R
def CU:∀{R:List Tp},sm (R++[t])=sm R+t.2.2.2.2.1-t.2.2.2.1
 |[]=>by show t.2.2.2.2.1-t.2.2.2.1+0=0+_-_;omega
 |u::R=>by show u.2.2.2.2.1-u.2.2.2.1+sm (R++[t])=u.2.2.2.2.1-u.2.2.2.1+sm R+_-_;rw[CU];omega
def CV:∀{R:List Tp}{t:Tp}{p:Str},sm (Ss F Sd p (t::R))=rn F p (t::R)+fd F (lst p (t::R)) Sd
 |[],t,p=>by show t.2.2.2.2.1+fd F t.2.2.1 Sd-(t.2.2.2.1-fd F p t.2.1)+0=fd F p t.2.1+t.2.2.2.2.1-t.2.2.2.1+0+fd F t.2.2.1 Sd;omega
 |u::R,t,p=>by show t.2.2.2.2.1-(t.2.2.2.1-fd F p t.2.1)+sm (Ss F Sd t.2.2.1 (u::R))=fd F p t.2.1+t.2.2.2.2.1-t.2.2.2.1+rn F t.2.2.1 (u::R)+fd F (lst t.2.2.1 (u::R)) Sd;rw[CV];omega
def Fb(J:Jn N F)(hT:∀t∈R,SG N F t)(hh:Sd∈N):blk F Sd R=.ok (.i (sm (Ss F Sd Sd R))):=by
 cases R with
 |nil=>rfl
 |cons t R=>obtain⟨u,hu,e1,e2⟩:=X8 (R:=R) (t:=t) (p:=Sd);rw[blk,v7 (J.all _ hh _ (hT t O0).org)];show(match zM (F (lst Sd (t::R))) (sk Sd)with|none=>_|some b=>Out.ok (PV.i (rn F Sd (t::R)+b)))=_;rw[v7 (J.all _ (by rw[e1];exact(hT u hu).goal) _ hh),CV]
end
section
variable {N:OP}{W:List Wy}{F:Str->Ht}{T R Ls:List Tp}{t u g:Tp}{Sd p:Str}{G:AH}{ro Bv:PV}{kt km kb n0:Nat}
abbrev vS(ro:PV)(kt:Nat)(Sd:Str)(Bv:PV)(km kb n0:Nat)(R:List Tp)(mi:Int)(k:Option HV):ZJ:=[some (.v ro),some (.g kt),some (.v (.s Sd)),some (.v Bv),some (.g km),some (.g kb),some (.v (.i (n0:Int))),some (.v (.l (R.map tP))),some (.v (Sv R)),some (.v (.i mi)),k]
structure Brd(N:OP)(W:List Wy)(F:Str->Ht)(T Ls:List Tp)(kt km kb:Nat)(G:AH):Prop where
 tab:jH G 8 (.g kt)=some (tb N W F T)
 brd:jH G 8 (.g kb)=some (tb N W F Ls)
 made:jH G 8 (.g km)=some (.l (Ls.map tP))
 nd:(Ls.map (·.1)).Nodup
 ok:∀g∈Ls,SG N F g
 few:Ls.length<=1000
def ixN(h:k<R.length):Sg (Sv R) (.i (k:Int))=.ok (.s R[k].1):=by rw[oB (by omega) (by rw[u8];omega),Ϭ];rfl
def IJ(h:(Ss F Sd p R)[k]?=some a)(hk:k<R.length):a.1=R[k].1:=by have:=SS (·[k]?) (ng (F:=F) (Sd:=Sd) (R:=R) (p:=p));simp only[List.getElem?_map,h,List.getElem?_eq_getElem hk,Option.map_some]at this;exact ν this
def Fc(B:Brd N W F T Ls kt km kb G)(J:Jn N F)(hh:Sd∈N)(hT:∀t∈R,SG N F t)(hp:R.Pairwise (ο F))(hk:k<R.length)(hx:∀(k:Nat)(a:Tp),(Ss F Sd Sd R)[k]?=some a->Ls[n0+k]?=some a)(ha:(Ss F Sd Sd R)[k]?=some a):kD (vS ro kt Sd Bv km kb n0 R mi (some (.v (.i (k:Int))))) G=.nx (vS ro kt Sd Bv km kb n0 R (mi+a.2.2.2.2.1-a.2.2.2.1) (some (.v (.i (k:Int))))) G:=by
 have e:=hx k a ha;obtain⟨hl,ea⟩:=P8.mp e;have hm:a∈Ls:=ϧ e;have n1:=IJ ha hk;have iM:Sg (.l (Ls.map tP)) (.i ((n0:Int)+(k:Int)))=.ok (tP a):=by rw[show(n0:Int)+(k:Int)=((n0+k:Nat):Int) by omega,Nk hl,ea]
 have t1:Tf Rx (zW (Se (qE true) (jB [(10,zr)] "trip" (zc 5) (zb (Se Sg (zc 8) (zc 10)) zm)) (Se Sg (zc 4) (Se zU (zc 6) (zc 10))))) (vS ro kt Sd Bv km kb n0 R mi (some (.v (.i (k:Int))))) G=.ok false G:=
  Wk (r:=[none,none,none,none,some (.l (Ls.map tP)),some (tb N W F Ls),some (.i (n0:Int)),none,some (Sv R),none,some (.i (k:Int))]) rfl (yi (yi (yi (yi (kO B.made (kO B.brd (kO rfl (yi (kO rfl (yi (kO rfl gp))))))))))) (yh (zo (bA (t:=a) B.nd hm rfl (zp (zo rfl rfl ((ixN hk).trans (by rw[n1]))) rfl)) (zo rfl (zo rfl rfl rfl) iM) eqT))
 have t2:Tf Rw (BU (zW (Se TU (zc 10) (mC (.i 0)))) (iu (zW (zg wI (zb (zc 5) (zb (Se Sg (zc 8) (Se XJ (zc 10) (mC (.i 1)))) (zb (Se Sg (zc 8) (zc 10)) zm))))))) (vS ro kt Sd Bv km kb n0 R mi (some (.v (.i (k:Int))))) G=.ok false G:=by
  refine Wk (r:=[none,none,none,none,none,some (tb N W F Ls),none,none,some (Sv R),none,some (.i (k:Int))]) rfl (yi (yi (yi (yi (yi (kO B.brd (yi (yi (kO rfl (yi (kO rfl gp))))))))))) ?_;cases k with
  |zero=>exact EG ((VC (x:=0) rfl).trans rfl)
  |succ j=>obtain⟨b,hb⟩:∃b,(Ss F Sd Sd R)[j]?=some b:=⟨_,P1 (by rw[Kw];omega)⟩;have nb:=IJ hb (by omega);have lk:=uA J hh hT hp j b a hb ha;refine(CF (x:=true) (y:=false) ((VC (x:=((j+1:Nat):Int)) rfl).trans (by rw[O9 (by omega)])) (tZ (yh (zz (xs:=[tb N W F Ls,.s b.1,.s a.1]) (zp rfl (zp (zo (y:=.i (j:Int)) rfl (zo (x:=.i ((j+1:Nat):Int)) rfl rfl ?_) ((ixN (by omega)).trans (by rw[nb]))) (zp (zo rfl rfl ((ixN hk).trans (by rw[n1]))) rfl))) (gB B.nd B.ok (ϧ (hx j b hb)) hm lk))))).trans rfl;show Out.ok (PV.i (((j+1:Nat):Int)-1))=_;rw[show((j+1:Nat):Int)-1=(j:Int) by omega]
 have rs:Jc G RJ (vS ro kt Sd Bv km kb n0 R mi (some (.v (.i (k:Int)))))=some [none,none,none,none,some (.l (Ls.map tP)),none,some (.i (n0:Int)),none,none,some (.i mi),some (.i (k:Int))]:=yi (yi (yi (yi (kO B.made (yi (kO rfl (yi (yi (kO rfl (kO rfl gp))))))))));have i4:=λ(q:Int) (z:PV) (h:Sg (tP a) (.i q)=.ok z)=>zo (f:=Sg) (a:=Se Sg (zc 4) (Se zU (zc 6) (zc 10))) (b:=mC (.i q)) (U:=[none,none,none,none,some (.l (Ls.map tP)),none,some (.i (n0:Int)),none,none,some (.i mi),some (.i (k:Int))]) (zo rfl (zo rfl rfl rfl) iM) rfl h;exact zw ((Xt t1).trans rfl) (zw ((Xt t2).trans rfl) (z5 (EW rfl rs (zo (zo rfl (i4 4 (.i a.2.2.2.2.1) rfl) rfl) (i4 3 (.i a.2.2.2.1) rfl) rfl) rfl)))
def uB(B:Brd N W F T Ls kt km kb G)(J:Jn N F)(hh:Sd∈N)(hT:∀t∈R,SG N F t)(hp:R.Pairwise (ο F))(hx:∀(k:Nat)(a:Tp),(Ss F Sd Sd R)[k]?=some a->Ls[n0+k]?=some a):∀{m k:Nat}{x:Option HV},k+m=R.length->∃x',bV Zj kD ((List.range' k m).map λi:Nat=>HV.v (.i (i:Int))) (vS ro kt Sd Bv km kb n0 R (sm ((Ss F Sd Sd R).take k)) x) G=.nx (vS ro kt Sd Bv km kb n0 R (sm (Ss F Sd Sd R)) x') G
 |0,k,x,h=>⟨x,by rw[a0E (by rw[Kw];omega)];rfl⟩
 |m+1,k,x,h=>by
  have hk:k<(Ss F Sd Sd R).length:=by rw[Kw];omega
  have s:=Fc (ro:=ro) (Bv:=Bv) (n0:=n0) (mi:=sm ((Ss F Sd Sd R).take k)) B J hh hT hp (show k<R.length by omega) hx (P1 hk);obtain⟨x',e⟩:=uB B J hh hT hp hx (m:=m) (k:=k+1) (x:=some (.v (.i (k:Int)))) (by omega);rw[T6 hk,CU]at e;exact⟨x',dX rfl s e⟩
abbrev wS(ro:PV)(kt:Nat)(Sd:Str)(Bv:PV)(km kb n0:Nat)(a b c d:Option HV):ZJ:=[some (.v ro),some (.g kt),some (.v (.s Sd)),some (.v Bv),some (.g km),some (.g kb),some (.v (.i (n0:Int))),a,b,c,d]
def IK(B:Brd N W F T Ls kt km kb G)(J:Jn N F)(hh:Sd∈N)(nd:(T.map (·.1)).Nodup)(hT:∀t∈T,SG N F t)(K:Bk T F R)(hx:∀(k:Nat)(a:Tp),(Ss F Sd Sd R)[k]?=some a->Ls[n0+k]?=some a):∃b' c' d',Zk (wS ro kt Sd Bv km kb n0 (some (.v (.l (R.map tP)))) b c d) G=.nx (wS ro kt Sd Bv km kb (n0+R.length) (some (.v (.l (R.map tP)))) b' c' d') G:=by
 have hR:∀t∈R,SG N F t:=λt h=>hT t (K.sub t h);have few:=K.few;obtain⟨x',e⟩:=uB (ro:=ro) (Bv:=Bv) (R:=R) (n0:=n0) B J hh hR K.lnk hx (m:=R.length) (k:=0) (x:=d) (by omega);have ls:Tq Zg Zh Zi (R.map tP) [none] []=.ok (Sv R):=Z3 tP (λt=>PV.s t.1) (λU=>∃o,U=[o]) _ _ ⟨none,rfl⟩ (λt _ U ⟨o,ho⟩=>by subst ho;exact⟨_,rfl,⟨_,rfl⟩,zo rfl rfl rfl⟩) (by omega);have e8:qF 8 (hP RG (SO (zN (zc 7)) [none] Zg Zh Zi)) (wS ro kt Sd Bv km kb n0 (some (.v (.l (R.map tP)))) b c d) G=.nx (wS ro kt Sd Bv km kb n0 (some (.v (.l (R.map tP)))) (some (.v (Sv R))) c d) G:=z5 (aO rfl (aQ (zK rfl) ls));have e9:qF 9 (hP [] (mC (.i 0))) (wS ro kt Sd Bv km kb n0 (some (.v (.l (R.map tP)))) (some (.v (Sv R))) c d) G=.nx (vS ro kt Sd Bv km kb n0 R 0 d) G:=z5 (ϡ λ_=>rfl);have bl:bV Zj kD ((d8 0 ((R.length:Int)).toNat).map .v) (vS ro kt Sd Bv km kb n0 R 0 d) G=.nx (vS ro kt Sd Bv km kb n0 R (sm (Ss F Sd Sd R)) x') G:=by rw[a0U,KY,γ,a1R];exact e
 have el:=X_ (bs:=RD) (U:=vS ro kt Sd Bv km kb n0 R 0 d) (mi:=YZ (zb (zg jC (zb (zc 8) zm)) zm)) rfl (Uv (zp (zz (f:=jC) (xs:=[Sv R]) rfl qQ) rfl) (by omega) (by omega)) bl;have bk:=A9 (W:=W) nd hT K.sub K.lnk hh (J.slf _ hh);rw[Fb J hR hh]at bk;have ti:Tf RA (zW (Se (qE true) (zc 9) (zg yc (zb (zc 1) (zb (zc 2) (zb (zc 8) zm)))))) (vS ro kt Sd Bv km kb n0 R (sm (Ss F Sd Sd R)) x') G=.ok false G:=
  Wk (r:=[none,some (tb N W F T),some (.s Sd),none,none,none,none,none,some (Sv R),some (.i (sm (Ss F Sd Sd R))),none]) rfl (yi (kO B.tab (kO rfl (yi (yi (yi (yi (yi (kO rfl (kO rfl (ZT gp))))))))))) (yh (zo rfl (zz rfl bk) (sF.trans (by rw[O9 rfl];rfl))))
 have e6:qF 6 (hP RM (Se zU (zc 6) (zg jC (zb (zc 8) zm)))) (vS ro kt Sd Bv km kb n0 R (sm (Ss F Sd Sd R)) x') G=.nx (wS ro kt Sd Bv km kb (n0+R.length) (some (.v (.l (R.map tP)))) (some (.v (Sv R))) (some (.v (.i (sm (Ss F Sd Sd R))))) x') G:=z5 (aO rfl (zo rfl (zz (f:=jC) (xs:=[Sv R]) rfl qQ) (by show Out.ok (PV.i ((n0:Int)+(R.length:Int)))=_;rw[show(n0:Int)+(R.length:Int)=((n0+R.length:Nat):Int) by omega])));exact⟨_,_,_,zw e8 (zw e9 (zw el (zw ((Xt ti).trans rfl) e6)))⟩
def CW(B:Brd N W F T Ls kt km kb G)(J:Jn N F)(hh:Sd∈N)(nd:(T.map (·.1)).Nodup)(hT:∀t∈T,SG N F t):∀{Bs:List (List Tp)}{X:List Tp}{a b c d:Option HV},(∀R∈Bs,Bk T F R)->Ls=X++Sm F Sd Bs->∃a' b' c' d',bV Jv Zk ((Bs.map λR=>PV.l (R.map tP)).map .v) (wS ro kt Sd Bv km kb X.length a b c d) G=.nx (wS ro kt Sd Bv km kb Ls.length a' b' c' d') G
 |[],X,a,b,c,d,_,h=>⟨a,b,c,d,by rw[h,show Sm F Sd []=[]from rfl,P7];rfl⟩
 |R::Bs,X,a,b,c,d,hB,h=>by
  have h':Ls=(X++Ss F Sd Sd R)++Sm F Sd Bs:=by rw[h,S0];rfl
  obtain⟨b1,c1,d1,e⟩:=IK (ro:=ro) (Bv:=Bv) (n0:=X.length) (b:=b) (c:=c) (d:=d) B J hh nd hT (hB R O0) λk q hq=>by rw[h',S0,ϩ (by omega),show X.length+k-X.length=k by omega];exact gL hq
  obtain⟨a',b',c',d',e'⟩:=CW B J hh nd hT (Bs:=Bs) (X:=X++Ss F Sd Sd R) (a:=some (.v (.l (R.map tP)))) (b:=b1) (c:=c1) (d:=d1) (λS hS=>hB S (O4 _ hS)) h';rw[O1,Kw]at e';exact⟨a',b',c',d',dX rfl e e'⟩
end
section
variable {N:OP}{W:List Wy}{F:Str->Ht}{T R:List Tp}{Sd:Str}{G:AH}{kt km:Nat}{Bs:List (List Tp)}
def Jb(h:m U G=.ok x G1)(h2:ms U G1=.ok xs G2):zL m ms U G=.ok (x::xs) G2:=by unfold zL;rw[h];show(ms U G1).bind _=_;rw[h2];rfl
def CY(h:ms U G=.ok xs G1)(hg:g (.g G1.length::xs) (G1++[.o c []])=.ok (.v .n) G2):Ep c g ms U G=.ok (.g G1.length) G2:=by
 unfold Ep;rw[h];show(match g (.g G1.length::xs) (G1++[.o c []])with
  |.ok (.v .n) G2=>HX.ok (HV.g G1.length) G2
  |.exc c fs G2=>.exc c fs G2
  |_=>.wall)=_
 rw[hg]
def Fd:jH (m4 A ro T) 8 (.g A.length)=some (VG ro T):=by refine ah (n:=5) (j:=A.length+1) (i:=A.length+2) ?_ ?_ ?_<;>(unfold m4;rw[ϩ (by omega)];simp)
def Be(hK:∀X,jH (G++X) 8 (.g kt)=some (tb N W F T))(hm:G[km]?=some (SI (Sm F Sd Bs)))(J:Jn N F)(hh:Sd∈N)(nd:(T.map (·.1)).Nodup)(hT:∀t∈T,SG N F t)(hB:∀R∈Bs,Bk T F R)(hn:∀t∈T,Nm t.1)(hl:Bs.flatten.length<=40)(hd:(Tc Bs).Nodup)(hL:∀g∈Sm F Sd Bs,SG N F g):∃X,yN [.v (Sh N W F),.g kt,.v (.s Sd),.v (bP Bs),.g km] G=.ok (.v (.b true)) (G++X):=by
 have ndL:((Sm F Sd Bs).map (·.1)).Nodup:=by rw[gD];exact hd
 have Sv:∀g∈Sm F Sd Bs,Nm g.1:=λg hg=>by
  have:g.1∈Tc Bs:=by rw[<- gD (F:=F) (Sd:=Sd)];exact ϰ hg
  obtain⟨t,ht,e⟩:=T7.mp this;obtain⟨R,hR,ht⟩:=a2w.mp ht;rw[<- e];exact hn t ((hB R hR).sub t ht)
 have ll:(Sm F Sd Bs).length<=40:=by rw[i8];exact hl
 have rm:∀X,jH (G++X) 8 (.g km)=some (.l ((Sm F Sd Bs).map tP)):=λX=>v5 (n:=6) (gL hm);have f4:hF Rr (zg wu (zb (zc 4) zm)) [some (.v (Sh N W F)),some (.g kt),some (.v (.s Sd)),some (.v (bP Bs)),some (.g km),none,none,none,none,none,none] G=.ok (.g G.length) (G++[SI (Sm F Sd Bs)]):=by have r0:=rm [];rw[P7]at r0;exact Lr rfl (yi (yi (yi (yi (kO r0 (ZT (ZT (ZT (ZT (ZT (ZT gp))))))))))) (zz (xs:=[.l ((Sm F Sd Bs).map tP)]) rfl rfl) nh rfl
 have ti:=m5 (N:=N) (W:=W) (F:=F) (A:=G++[SI (Sm F Sd Bs)]) (j:=G.length) (T:=Sm F Sd Bs) (by rw[ϩ (O2 _),a2n];rfl) (λg hg=>⟨hL g hg,Sv g hg⟩) ndL ll;have e5:=z5 (i:=5) (U:=[some (.v (Sh N W F)),some (.g kt),some (.v (.s Sd)),some (.v (bP Bs)),some (.g km),none,none,none,none,none,none]) (CY (c:=10) (g:=qM) (ms:=zL (qo 0) (zL (hF Rr (zg wu (zb (zc 4) zm))) WB)) (Jb rfl (Jb f4 rfl)) ti);have ea:∀k,jH (m4 (G++[SI (Sm F Sd Bs)]) (Sh N W F) (Sm F Sd Bs)) 8 (.g k)=jH (G++([SI (Sm F Sd Bs)]++[.o 10 [("roads",.v (Sh N W F)),("by_name",.g ((G++[SI (Sm F Sd Bs)]).length+1)),("order",.g ((G++[SI (Sm F Sd Bs)]).length+2))],.d (vK (VF (Sm F Sd Bs))),.l ((Ir (Sm F Sd Bs)).map .v)])) 8 (.g k):=λk=>by unfold m4;rw[S0]
 have B:Brd N W F T (Sm F Sd Bs) kt km (G++[SI (Sm F Sd Bs)]).length (m4 (G++[SI (Sm F Sd Bs)]) (Sh N W F) (Sm F Sd Bs)):=⟨(ea kt).trans (hK _),Fd,(ea km).trans (rm _),ndL,hL,by omega⟩;obtain⟨a',b',c',d',eo⟩:=CW (ro:=Sh N W F) (Bv:=bP Bs) B J hh nd hT (Bs:=Bs) (X:=[]) (a:=none) (b:=none) (c:=none) (d:=none) hB rfl;have e6:qF 6 (hP [] (mC (.i 0))) [some (.v (Sh N W F)),some (.g kt),some (.v (.s Sd)),some (.v (bP Bs)),some (.g km),some (.g (G++[SI (Sm F Sd Bs)]).length),none,none,none,none,none] (m4 (G++[SI (Sm F Sd Bs)]) (Sh N W F) (Sm F Sd Bs))=.nx (wS (Sh N W F) kt Sd (bP Bs) km (G++[SI (Sm F Sd Bs)]).length 0 none none none none) (m4 (G++[SI (Sm F Sd Bs)]) (Sh N W F) (Sm F Sd Bs)):=z5 (ϡ λ_=>rfl);have el:=X_ (bs:=RL) (U:=wS (Sh N W F) kt Sd (bP Bs) km (G++[SI (Sm F Sd Bs)]).length 0 none none none none) (mi:=zN (zc 3)) rfl (zK rfl) eo;have fin:yN [.v (Sh N W F),.g kt,.v (.s Sd),.v (bP Bs),.g km] G=.ok (.v (.b true)) (m4 (G++[SI (Sm F Sd Bs)]) (Sh N W F) (Sm F Sd Bs)):=Wn (zw e5 (zw e6 (zw el (Wl (EW (r:=[none,none,none,none,some (.l ((Sm F Sd Bs).map tP)),none,some (.i ((Sm F Sd Bs).length:Int)),none,none,none,none]) rfl (yi (yi (yi (yi (kO B.made (yi (kO rfl (ZT (ZT (ZT (ZT gp))))))))))) (zo rfl (zz (f:=jC) (xs:=[.l ((Sm F Sd Bs).map tP)]) rfl qQ) (sF.trans (by rw[O9 rfl];rfl))) rfl)))));exact⟨_,fin.trans (by unfold m4;rw[S0])⟩
end
section
variable {ns:Pn}{P:OP}{W:List Wy}{F:Str->Ht}{L:SU}{c:Int}{T:List Tp}{Sd:Str}{Bs:List (List Tp)}
abbrev lA(ns:Pn)(c:Int)(P:OP)(W:List Wy)(L:SU)(T:List Tp)(r:ZJ):ZJ:=[some (.v (.sc ns)),some (.v (.i c)),some (.v (.l (P.map .s))),some (.v (.l (W.map wP))),some (.v (.dt L)),some (.v (.l (T.map tP)))]++r
structure Kn(P:OP)(W:List Wy)(F:Str->Ht)(L:SU)(T:List Tp)(Sd:Str)(Bs:List (List Tp)):Prop where
 ws:WS P W
 gF:∀z,Jd z W (F z)
 far:∀o∈P,∀z y,zM (F o) (sk z)=some y->0<=y/\y<=12000000
 jn:Jn P F
 lk:ϒ P L F
 pos:0<P.length
 pl:P.length<=5
 nd:(T.map (·.1)).Nodup
 ok:∀t∈T,SG P F t
 nm:∀t∈T,Nm t.1
 non:("none":Str)∉T.map (·.1)
 len:T.length<=12
 hom:Sd∈P
 bk:∀R∈Bs,Bk T F R
 few:Bs.flatten.length<=14
 bl:Bs.length<=100
abbrev GB(P:OP)(W:List Wy)(F:Str->Ht)(T:List Tp):AH:=m4 [SI T] (Sh P W F) T
def rok(hW:WS P W)(nd:P.Nodup)(hP:∀z∈P,Nm z)(h1:P.length<=5)(h2:W.length<=13):ROk P W:=by constructor<;>first|exact nd|exact hP|omega|exact hW.ok
def Bf(rest:∀(c:Int)(P:OP)(W:List Wy)(F:Str->Ht)(L:SU)(T:List Tp)(Sd:Str) (Bs:List (List Tp)),Kn P W F L T Sd Bs->∃G,uC (lA ns c P W L T ([some (.v (Sh P W F)),some (.g 1),some (.v (.s Sd)),some (.v (bP Bs))]++List.replicate 8 none)) (GB P W F T)=.rt (.v (.b true)) G):∃G,tT [.v (.sc ns)] []=.ok (.v (.b true)) G:=by
 obtain⟨x1,x10,x11,ex1⟩:=yC (ns:=ns) (k:=3) (m:=3) (by decide) (by decide) (by decide);obtain⟨c,hc,ec⟩:=Ih (xs:=[1,40,100000]) x10 x11;have c01:1<=c/\c<=100000:=by simp only[List.mem_cons,List.not_mem_nil,or_false]at hc;omega
 obtain⟨x2,x20,x21,ex2⟩:=yC (ns:=ns) (k:=2) (m:=5) (by decide) (by decide) (by decide);obtain⟨n,hn⟩:=Ϩ x20;subst hn;obtain⟨a,b,ab,ea⟩:=m7 (ns:=ns) (k:=0) (by decide) (by decide);obtain⟨a',b',ab',ea'⟩:=m7 (ns:=ns) (k:=7) (by decide) (by decide);obtain⟨P,eP⟩:∃P:List Str,(List.range (1+n)).map (υ a b)=P:=⟨_,rfl⟩;have lP:P.length=1+n:=by rw[<- eP,u8,ό]
 have ndP:P.Nodup:=by rw[<- eP];exact CQ (by omega)
 have nmP:∀z∈P,Nm z:=λz hz=>by rw[<- eP]at hz;obtain⟨k,hk,rfl⟩:=T7.mp hz;exact CP ab (by have:=Λ.mp hk;omega)
 have s2:Tq dH dI dJ (d8 0 (1+n)) [none,some (.sc ns)] []=.ok (.l (P.map .s)):=by rw[KY,<- eP,γ];exact Z3 (λk:Nat=>PV.i (k:Int)) (λk=>PV.s (υ a b k)) (λU=>∃o,U=[o,some (.sc ns)]) _ _ ⟨none,rfl⟩ (λk hk U ⟨o,ho⟩=>by subst ho;exact⟨_,rfl,⟨_,rfl⟩,zz rfl (ea k (by have:=Λ.mp hk;omega))⟩) (by rw[ό];omega)
 obtain⟨W,lW,wsW,rW,eW⟩:=A8 (ns:=ns) (N:=P) (c:=c) (by omega) (by omega) c01.1 c01.2;have R:=rok wsW ndP nmP (by omega) lW;obtain⟨F,kF⟩:=iY R;have gF:=λz=>(kF z).1;obtain⟨L,hL,eL⟩:=iZ wsW (by omega) (by omega) gF;have far:∀o∈P,∀z y,zM (F o) (sk z)=some y->0<=y/\y<=12000000:=λo ho z y e=>by have:=oF wsW (gF o) ho e;omega
 obtain⟨x4,x40,x41,ex4⟩:=yC (ns:=ns) (k:=8) (m:=13) (by decide) (by decide) (by decide);obtain⟨m,hm⟩:=Ϩ x40;subst hm;obtain⟨T0,hT0,lT0,bT0,eT0⟩:=um (ns:=ns) (m:=m) wsW gF hL (by omega) far c01.1 c01.2 ea' (by omega);obtain⟨T,hT,lT,eT⟩:=A_ (ns:=ns) (c:=c) hT0 (by omega) far bT0 c01.1 c01.2;have lT:T.length<=12:=by omega
 have ndT:(T.map (·.1)).Nodup:=by rw[hT.nms];exact CQ (by omega)
 have nmT:∀t∈T,Nm t.1:=λt ht=>by have h:=ϰ (f:=(·.1)) ht;rw[hT.nms]at h;obtain⟨k,hk,e⟩:=T7.mp h;rw[<- e];exact CP ab' (by have:=Λ.mp hk;omega)
 have i1:=ES R (λz=>(kF z).2);obtain⟨x6,x60,x61,ex6⟩:=yC (ns:=ns) (k:=18) (m:=(P.length:Int)) (by decide) (by decide) (by omega);obtain⟨Sd,hh,eh⟩:=KI (xs:=P) x60 x61;obtain⟨Bs,sB,fB,lB,eB⟩:=uz (ns:=ns) (T:=T) lT;have K:Kn P W F L T Sd Bs:=⟨wsW,gF,far,⟨λa ha b hb=>conn wsW gF rW ha hb,λa _=>(gF a).1.own⟩,hL,by omega,by omega,ndT,hT.ok,nmT,E8 (nm:=υ a' b') ab' hT lT,lT,hh,λR hR=>by
  rcases sB R hR with s|⟨t,ht,rfl⟩
  .exact⟨λt h=>s.subset h,hT.lnk.sublist s,ndT.sublist (s.map _),S6 s.length_le lT⟩
  .exact⟨λu hu=>by rw[R9.mp hu];exact ht,a1u _ _,a1u _ _,by show 1<=12;omega⟩,fB,lB⟩
 obtain⟨G,eR⟩:=rest c P W F L T Sd Bs K;have e2:qF 2 (hP [true] (SO (YZ (zb (Se zU (mC (.i 1)) (zg zi (zb (zc 0) (zb (mC (.i 2)) (zb (mC (.i 5)) zm))))) zm)) [none,some 0] dH dI dJ)) ([some (.v (.sc ns)),some (.v (.i c))]++List.replicate 16 none) []=.nx ([some (.v (.sc ns)),some (.v (.i c)),some (.v (.l (P.map .s)))]++List.replicate 15 none) []:=z5 (aO rfl (aQ (Uv (n:=1+(n:Int)) (zp (zo rfl (zz (xs:=[.sc ns,.i 2,.i 5]) rfl ex2) rfl) rfl) (by omega) (by omega)) (by rw[show(1+(n:Int)).toNat=1+n by omega];exact s2)));have q7:qF 7 (Ep 10 qM (zL (qo 6) (zL (hF RF (zg wu (zb (zc 5) zm))) WB))) (lA ns c P W L T (some (.v (Sh P W F))::List.replicate 11 none)) []=.nx (lA ns c P W L T (some (.v (Sh P W F))::some (.g 1)::List.replicate 10 none)) (GB P W F T):=
  z5 (CY (G1:=[SI T]) (Jb rfl (Jb (Lx rfl (zz (xs:=[.l (T.map tP)]) rfl rfl) rfl) rfl)) (m5 (A:=[SI T]) (j:=0) rfl (λt ht=>⟨hT.ok t ht,nmT t ht⟩) ndT (by omega)))
 exact⟨G,Wn (zw (z5 (aO rfl (zo (tW (xs:=[.i 1,.i 40,.i 100000]) rfl (P2 rfl)) (zz (xs:=[.sc ns,.i 3,.i 3]) rfl ex1) ec))) (zw e2 (zw (z5 (aO rfl (zz (zp rfl (zp rfl (zp rfl (zp rfl rfl)))) eW))) (zw (z5 (aO rfl (zz rfl eL))) (zw (z5 (aO rfl (zz (zp rfl (zp (zz (zp rfl (zp rfl (zp rfl (zp rfl (zp (zz (xs:=[.sc ns,.i 8,.i 13]) rfl ex4) rfl))))) eT0) (zp rfl rfl))) eT))) (zw (z5 (aO rfl (zz rfl i1))) (zw q7 (zw (z5 (aO rfl (zo rfl (zz (xs:=[.sc ns,.i 18,.i (P.length:Int)]) (zp rfl (zp rfl (zp (zz (zp rfl rfl) qQ) rfl))) ex6) eh))) (zw (z5 (aO rfl (zz rfl eB))) eR)))))))))⟩
end
section
variable {ns:Pn}{P:OP}{W:List Wy}{F:Str->Ht}{L:SU}{c:Int}{T Ls:List Tp}{Sd:Str}{Bs:List (List Tp)}{G:AH}
def Fe(h:m U G=.ok x G1)(hg:g x U=some U'):Ed g m U G=.nx U' G1:=by unfold Ed;rw[h];show(match g x U with|some U'=>Ti.nx U' G1|none=>.wall)=_;rw[hg]
def nj(h:ms U G=.ok xs G)(h2:f xs G=.ok x G1):K3 f ms U G=.ok x G1:=by unfold K3;rw[h];exact h2
def IL{bs:OW}{m:ME}{U:ZJ}{r:So}{x:PV}{c:Cell}(h1:WD G bs U=some r)(h2:m r=.ok x)(hc:iH x=some c):Ϣ bs m U G=.ok (.g G.length) (G++[c]):=by unfold Ϣ;rw[h1];dsimp only;rw[h2];dsimp only;rw[hc]
abbrev nB(D:PL):List PV:=D.map λr=>.l (r.map .s)
abbrev nD(Bs:List (List Tp)):List (List Str):=Bs.map λR=>R.map (·.1)
def uD:TQ Bs=nB (nD Bs):=by unfold TQ nB nD Sv;rw[γ];congr 1;funext R;show PV.l _=PV.l ((R.map (·.1)).map .s);rw[γ];rfl
def Bg(h9:zc 9 r=.ok (bP Bs))(hl:Bs.length<=1000)(hf:aP r [none]=[none])(hR:∀R∈Bs,R.length<=12):SO (zN (zc 9)) [none] X2 X3 X4 r=.ok (.l (nB (nD Bs))):=by rw[<- uD];refine aQ (zK h9) ?_;rw[hf];refine Z3 (λR:List Tp=>PV.l (R.map tP)) Sv (λU=>∃o,U=[o]) _ _ ⟨none,rfl⟩ (λR hR' U ⟨o,ho⟩=>?_) (by omega);subst ho;exact⟨_,rfl,⟨_,rfl⟩,aQ (zK rfl) (Z3 tP (λt=>PV.s t.1) (λU=>∃o,U=[o]) _ _ ⟨none,rfl⟩ (λt _ U ⟨o,ho⟩=>by subst ho;exact⟨_,rfl,⟨_,rfl⟩,zo rfl rfl rfl⟩) (by have:=hR R hR';omega))⟩
def uE(h:zc 10 r=.ok (.l (nB D)))(hf:aP r [none]=[none])(hl:D.length<=1000):SO (zN (zc 10)) [none] Vu Vv Vw r=.ok (.l (nB D)):=by refine aQ (zK h) ?_;rw[hf];exact Z3 (λr:List Str=>PV.l (r.map .s)) (λr:List Str=>PV.l (r.map .s)) (λU=>∃o,U=[o]) _ _ ⟨none,rfl⟩ (λR _ U ⟨o,ho⟩=>by subst ho;exact⟨_,rfl,⟨_,rfl⟩,zz rfl rfl⟩) (by omega)
def Bh(g:Tp):Bool:=decide (g.2.2.2.1<0)||decide (g.2.2.2.2.1>1000000000)
def uF(h:zc 11 r=.ok (.l (Ls.map tP)))(hf:aP r [none]=[none])(hl:Ls.length<=1000):SO (zN (zc 11)) [none] Vx Vy Vz r=.ok (.l ((Ls.filter Bh).map tP)):=by
 refine aQ (zK h) ?_;rw[hf];refine(cW tP Bh tP (λU=>∃o,U=[o]) Ls [none] [] ⟨none,rfl⟩ (λg _ U ⟨o,ho⟩=>?_) (by show 0+_<=_;omega)).trans ?_
 .subst ho;exact⟨_,rfl,⟨_,rfl⟩,dR (tY (x:=g.2.2.2.1) rfl) (yh (zo (x:=.i g.2.2.2.2.1) (y:=.i 1000000000) rfl (zo rfl rfl rfl) rfl)),λ_=>rfl⟩
 .rfl
def Ff(h:m U G=.ok (.g k) G1)(hk:G1[k]?=some (.l xs)):Cc m U G=.nx U (G1.set k (.l [])):=by unfold Cc;rw[h];show(match G1[k]? with|some (.l _)=>Ti.nx U (G1.set k (.l []))|_=>.wall)=_;rw[hk]
end
section
variable {ns:Pn}{P:OP}{W:List Wy}{F:Str->Ht}{L:SU}{c:Int}{T:List Tp}{Sd:Str}{Bs:List (List Tp)}
abbrev GR(P:OP)(W:List Wy)(F:Str->Ht)(T:List Tp)(D:PL)(h5:List HV)(Ls:List Tp):AH:=GB P W F T++[.l ((nB D).map .v),.l h5,SI Ls]
def Nr:qE false (.l (R.map tP)) (.l [])=.ok (.b (decide (R=[]))):=by
 cases R with
 |nil=>rfl
 |cons t R=>rw[O8 (a2u _ _)];rfl
def Bi{d:ZJ}(K:Kn P W F L T Sd Bs)(hd:dup [] (Tc Bs)=none):∃X,hAnd (Tf Rp (zW (zc 15))) (Ca (Cb (K3 yN (zL (qo 6) (zL (qo 7) (zL (qo 8) (zL (qo 9) (zL (qo 14) WB)))))))) (lA ns c P W L T [some (.v (Sh P W F)),some (.g 1),some (.v (.s Sd)),some (.v (bP Bs)),some (.g 4),some (.v (.l ((Sm F Sd Bs).map tP))),some (.g 5),some (.v (.t [.s "right"])),some (.g 6),some (.v (.b (decide ((Sm F Sd Bs).filter Bh=[])))),none,none]) (GR P W F T D h5 (Sm F Sd Bs))=.ok false (GR P W F T D h5 (Sm F Sd Bs)++X):=by
 have t:=b9 (G:=GR P W F T D h5 (Sm F Sd Bs)) (bs:=Rp) (m:=zW (zc 15)) (b:=decide ((Sm F Sd Bs).filter Bh=[])) (U:=lA ns c P W L T [some (.v (Sh P W F)),some (.g 1),some (.v (.s Sd)),some (.v (bP Bs)),some (.g 4),some (.v (.l ((Sm F Sd Bs).map tP))),some (.g 5),some (.v (.t [.s "right"])),some (.g 6),some (.v (.b (decide ((Sm F Sd Bs).filter Bh=[])))),none,none]) rfl (yh rfl);unfold hAnd;rw[t];by_cases h:(Sm F Sd Bs).filter Bh=[]
 .have hin:∀g∈Sm F Sd Bs,0<=g.2.2.2.1/\g.2.2.2.2.1<=1000000000:=λg hg=>by have:=List.filter_eq_nil_iff.mp h g hg;unfold Bh at this;simp only[Bool.or_eq_true,decide_eq_true_eq,not_or]at this;omega
  obtain⟨X,e⟩:=Be (G:=GR P W F T D h5 (Sm F Sd Bs)) (kt:=1) (km:=6) (λX=>ah (n:=5) (j:=2) (i:=3) rfl rfl rfl) rfl K.jn K.hom K.nd K.ok K.bk K.nm (by have:=K.few;omega) (m_ hd).1 (E_ K.ws K.gF K.jn K.far K.hom (λR hR t ht=>K.ok t ((K.bk R hR).sub t ht)) hin);refine⟨X,?_⟩;rw[O9 h];show(Ca (Cb (K3 yN _)) _ _)=_;unfold Ca Cb;rw[nj (xs:=[.v (Sh P W F),.g 1,.v (.s Sd),.v (bP Bs),.g 6]) rfl e];rfl
 .refine⟨[],?_⟩;rw[O8 h,P7];rfl
def Bj(h:dup [] (Tc Bs)=none):dup [] (Tc (Bs.take n))=none:=by
 have e:Tc Bs=Tc (Bs.take n)++Tc (Bs.drop n):=by unfold Tc;rw[<- R7,<- a23,a1F]
 rw[e,i7]at h;cases q:dup [] (Tc (Bs.take n))with
 |none=>rfl
 |some z=>rw[q]at h;cases h
def dY:(Bs.take n).flatten.length<=Bs.flatten.length:=by have e:=SS (λl=>(List.flatten l).length) (a1F n Bs);simp only[List.flatten_append,List.length_append]at e;omega
def Nt(K:Kn P W F L T Sd Bs)(hd:dup [] (Tc Bs)=none):∃G',Nq (lA ns c P W L T [some (.v (Sh P W F)),some (.g 1),some (.v (.s Sd)),some (.v (bP Bs)),some (.g 4),d,some (.g 5),some (.v (.t [.s "right"])),some (.g 6),none,none,none]) (GR P W F T (nD Bs) h5 (Sm F Sd Bs))=.rt (.v (.b true)) G':=by
 have few:=K.few;have hTB:∀R∈Bs,∀t∈R,SG P F t:=λR hR t ht=>K.ok t ((K.bk R hR).sub t ht);have rT:∀h5 X,jH (GR P W F T (nD Bs) h5 (Sm F Sd Bs)++X) 8 (.g 1)=some (tb P W F T):=λ_ _=>ah (n:=5) (j:=2) (i:=3) rfl rfl rfl;have rN:∀h5 X,jH (GR P W F T (nD Bs) h5 (Sm F Sd Bs)++X) 8 (.g 4)=some (.l (TQ Bs)):=λ_ _=>by rw[uD];exact v5 (n:=6) rfl
 have rM:∀h5 X,jH (GR P W F T (nD Bs) h5 (Sm F Sd Bs)++X) 8 (.g 6)=some (.l ((Sm F Sd Bs).map tP)):=λ_ _=>v5 (n:=6) rfl;have rM0:jH (GR P W F T (nD Bs) h5 (Sm F Sd Bs)) 8 (.g 6)=some (.l ((Sm F Sd Bs).map tP)):=by have:=rM h5 [];rw[P7]at this;exact this
 have due:=uw K.jn K.lk K.hom hTB (by omega);obtain⟨X,et⟩:=Bi (ns:=ns) (c:=c) (h5:=h5) (D:=nD Bs) (d:=[]) K hd;obtain⟨x,x0,x1,ex⟩:=yC (ns:=ns) (k:=20) (m:=(P.length:Int)) (by decide) (by decide) (by have:=K.pos;omega);obtain⟨oth,ho,eo⟩:=KI (xs:=P) x0 x1;have Lv:=uw (Sd:=oth) K.jn K.lk ho hTB (by omega);have lg2:=i9 (W:=W) (Sd:=oth) K.jn K.nd K.ok ho K.bk (by omega);have lg3:=i9 (W:=W) (Bs:=Bs.take 1) K.jn K.nd K.ok K.hom (λR hR=>K.bk R (a1m hR)) (by have:=dY (Bs:=Bs) (n:=1);omega);have due3:=uw (Bs:=Bs.take 1) K.jn K.lk K.hom (λR hR=>hTB R (a1m hR)) (by have:=dY (Bs:=Bs) (n:=1);omega);unfold lgO at lg2 lg3;rw[hd]at lg2;rw[Bj hd]at lg3;have s1:Φ (.l (TQ Bs)) none (some 1)=.ok (.l (TQ (Bs.take 1))):=by show Out.ok (PV.l (l7 (TQ Bs) none (some 1)))=_;rw[CN (by decide),<- ϲ];rfl
 have s2:Φ (bP Bs) none (some 1)=.ok (bP (Bs.take 1)):=by show Out.ok (PV.l (l7 (Bs.map λR=>.l (R.map tP)) none (some 1)))=_;rw[CN (by decide),<- ϲ];rfl
 have q5:Cc (qo 12) (lA ns c P W L T [some (.v (Sh P W F)),some (.g 1),some (.v (.s Sd)),some (.v (bP Bs)),some (.g 4),some (.v (.l ((Sm F Sd Bs).map tP))),some (.g 5),some (.v (.t [.s "right"])),some (.g 6),some (.v (.b (decide ((Sm F Sd Bs).filter Bh=[])))),none,none]) (GR P W F T (nD Bs) h5 (Sm F Sd Bs)++X)=.nx (lA ns c P W L T [some (.v (Sh P W F)),some (.g 1),some (.v (.s Sd)),some (.v (bP Bs)),some (.g 4),some (.v (.l ((Sm F Sd Bs).map tP))),some (.g 5),some (.v (.t [.s "right"])),some (.g 6),some (.v (.b (decide ((Sm F Sd Bs).filter Bh=[])))),none,none]) (GR P W F T (nD Bs) [] (Sm F Sd Bs)++X):=(Ff (k:=5) rfl rfl).trans rfl;have rM2:jH (GR P W F T (nD Bs) [] (Sm F Sd Bs)++X++[SI (Sm F Sd (Bs.take 1))]) 8 (.g 6)=some (.l ((Sm F Sd Bs).map tP)):=by rw[S0];exact rM _ _
 have rL:jH (GR P W F T (nD Bs) [] (Sm F Sd Bs)++X++[SI (Sm F Sd (Bs.take 1))]) 8 (.g (GR P W F T (nD Bs) [] (Sm F Sd Bs)++X).length)=some (.l ((Sm F Sd (Bs.take 1)).map tP)):=v5 (n:=6) (by rw[ϩ (O2 _),a2n];rfl);have w1:=uF (Ls:=Sm F Sd Bs) (r:=[none,none,none,none,none,none,none,none,none,none,none,some (.l ((Sm F Sd Bs).map tP)),none,none,none,none,none,none]) rfl rfl (by rw[i8];omega);refine⟨_,zw (z5 (aO rfl (zz rfl due))) (zw ((Xt (Wk rfl (yi (yi (yi (yi (yi (yi (yi (yi (yi (yi (yi (kO rfl (yi (yi (kO rM0 (ZT (ZT (ZT gp)))))))))))))))))) (tZ (yh (zz rfl Bc))))).trans rfl) (zw (z5 (aO rfl (zo w1 (tW rfl (P2 rfl)) Nr))) (zw ((Xt et).trans rfl) (zw q5 (zw (z5 (aO rfl (zo rfl (zz (xs:=[.sc ns,.i 20,.i (P.length:Int)]) (zp rfl (zp rfl (zp (zz (zp rfl rfl) qQ) rfl))) ex) eo))) (zw ((Xt (Wk (b:=false) rfl (yi (yi (yi (yi (kO rfl (yi (yi (kO (rT _ _) (yi (kO rfl (kO (rN _ _) (yi (yi (yi (yi (yi (kO rfl (ZT gp)))))))))))))))))) (yh (zo (zz rfl lg2) (zz rfl Lv) Lw)))).trans rfl) (zw (z5 (Lr (c:=SI (Sm F Sd (Bs.take 1))) rfl (yi (yi (yi (yi (yi (yi (yi (kO (rT _ _) (kO rfl (yi (kO (rN _ _) (ZT (ZT (ZT (ZT (ZT (ZT (ZT gp)))))))))))))))))) (zz (xs:=[tb P W F T,.s Sd,.l (TQ (Bs.take 1))]) (zp rfl (zp rfl (zp s1 rfl))) lg3) nh rfl)) (Wl (EW rfl (yi (yi (yi (yi (kO rfl (yi (yi (yi (kO rfl (kO rfl (yi (kO rfl (yi (yi (kO rM2 (yi (yi (kO rL gp)))))))))))))))))) (t4 (x:=true) (y:=true) (zo rfl (zz (xs:=[.dt L,.s Sd,bP (Bs.take 1)]) (zp rfl (zp rfl (zp s2 rfl))) due3) Lw) (zo rfl rfl Lw)) rfl)))))))))⟩
end
section
variable {ns:Pn}{P:OP}{W:List Wy}{F:Str->Ht}{L:SU}{c:Int}{T:List Tp}{Sd:Str}{Bs:List (List Tp)}{D:PL}{w:PV}
abbrev GH(P:OP)(W:List Wy)(F:Str->Ht)(T:List Tp)(D:PL):AH:=GB P W F T++[.l ((nB D).map .v)]
abbrev lB(ns:Pn)(c:Int)(P:OP)(W:List Wy)(F:Str->Ht)(L:SU)(T:List Tp)(Sd:Str)(Bs:List (List Tp))(w:PV)(r:ZJ):ZJ:=lA ns c P W L T ([some (.v (Sh P W F)),some (.g 1),some (.v (.s Sd)),some (.v (bP Bs)),some (.g 4),some (.v w)]++r)
section
variable {G:AH}
def CZ:∀{xs:Pe},sR (xs.map .v)=some xs
 |[]=>rfl
 |x::xs=>by show(sR (xs.map .v)).map (x::·)=_;rw[CZ];rfl
def ON:WD G bs []=some []:=by cases bs<;>rfl
def Fh(h:WD G [] U=some r):WD G [] (a::U)=some (none::r):=by show(WD G [] U).map _=_;rw[h];rfl
def u6(h:WD G bs U=some r):WD G (false::bs) (a::U)=some (none::r):=by show(WD G bs U).map _=_;rw[h];rfl
def OO(hk:G[k]?=some (.l (xs.map .v)))(h:WD G bs U=some r):WD G (true::bs) (some (.g k)::U)=some (some (.l xs)::r):=by show((G[k]?).bind Ef).bind _=_;rw[hk,h];show(Option.map PV.l (sR (xs.map .v))).bind _=_;rw[CZ];rfl
end
def IP(h:∀x∈xs,∃z,x=.s z):qE n (.t xs) (.t xs)=.ok (.b (xor n true)):=by unfold qE;rw[show BX 8 (.t xs) (.t xs)=some true from ZP (f:=aN 7) λx hx=>by obtain⟨z,rfl⟩:=h x hx;exact QC.1 _]
def IQ(hD:D.length<=1000):qF 12 (Ϣ Rt (SO (zN (zc 10)) [none] Vu Vv Vw)) (lB ns c P W F L T Sd Bs w (List.replicate 6 none)) (GH P W F T D)=.nx (lB ns c P W F L T Sd Bs w (some (.g 5)::List.replicate 5 none)) (GH P W F T D++[.l ((nB D).map .v)]):=by
 have s0:WD (GH P W F T D) Rt (lB ns c P W F L T Sd Bs w (List.replicate 6 none))=some [none,none,none,none,none,none,none,none,none,none,some (.l (nB D)),none,none,none,none,none,none,none]:=by exact(u6 (u6 (u6 (u6 (u6 (u6 (u6 (u6 (u6 (u6 (OO rfl (Fh (Fh (Fh (Fh (Fh (Fh (Fh ON))))))))))))))))))
 exact z5 (IL s0 (uE rfl rfl hD) rfl)
def uG(r4:jH G 8 (.g 4)=some (.l (nB D)))(r5:jH G 8 (.g 5)=some (.l (nB D)))(hw:qE true u v=.ok (.b false)):Tf Ru (Te (zW (Se (qE true) (zc 13) (zc 11))) (zW (Se (qE true) (zc 12) (zc 10)))) (lB ns c P W F L T Sd Bs v (some (.g 5)::some (.v u)::o::List.replicate 3 none)) G=.ok false G:=
 Wk rfl (yi (yi (yi (yi (yi (yi (yi (yi (yi (yi (kO r4 (kO rfl (kO r5 (kO rfl (ZT (ZT (ZT (ZT gp)))))))))))))))))) (dR (x:=false) (y:=false) (yh (zo rfl rfl hw)) (yh (zo rfl rfl OK)))
end
section
variable {ns:Pn}{P:OP}{W:List Wy}{F:Str->Ht}{L:SU}{c:Int}{T:List Tp}{Sd:Str}{Bs:List (List Tp)}{D:PL}{w:PV}
def C0{x y:HV}(h:yp [.g 1,.v (.s Sd),.g 5] (GH P W F T D++[.l ((nB D).map .v)])=.ok x G')(hg:hgT 2 (Y_ (χ 13) (Y_ (χ 14) om)) x (lB ns c P W F L T Sd Bs w (some (.g 5)::List.replicate 5 none))=some r):Ed (hgT 2 (Y_ (χ 13) (Y_ (χ 14) om))) (K3 yp (zL (qo 7) (zL (qo 8) (zL (qo 12) WB)))) (lB ns c P W F L T Sd Bs w (some (.g 5)::List.replicate 5 none)) (GH P W F T D++[.l ((nB D).map .v)])=.nx r G':=Fe (nj (xs:=[.g 1,.v (.s Sd),.g 5]) rfl h) hg
def C1(hD:D.length<=1000)(h:yp [.g 1,.v (.s Sd),.g 5] (GH P W F T D++[.l ((nB D).map .v)])=.ok (.v (.t [.t [.s a,.s z],.n])) (GH P W F T D++[.l ((nB D).map .v)])):∃G',Fg (lB ns c P W F L T Sd Bs (.t [.s a,.s z]) (List.replicate 6 none)) (GH P W F T D)=.rt (.v (.b true)) G':=by
 have hw:qE true (.t [.s a,.s z]) (.t [.s a,.s z])=.ok (.b false):=IP λx hx=>by simp only[List.mem_cons,List.not_mem_nil,or_false]at hx;rcases hx with rfl|rfl<;>exact⟨_,rfl⟩
 exact⟨_,zw (IQ hD) (zw (C0 (y:=.v .n) h rfl) (zw ((Xt (uG (D:=D) (v5 (n:=6) rfl) (v5 (n:=6) rfl) hw)).trans rfl) (iV ((EH (b9 (b:=true) rfl (yh (zo rfl (Y0 rfl (P2 rfl)) (by
  rw[My];show(match GF (aN 7 (.s a) (.s "right")) (some false)with|some b=>Out.ok (PV.b (xor true b))|none=>.wall)=_;rw[B5];cases decide (a="right")<;>rfl))))).trans (Wl (ϡ λ_=>rfl))))))⟩
def Fi(K:Kn P W F L T Sd Bs)(hl:Bs.length<=1000):∃G',Fg (lB ns c P W F L T Sd Bs (wd Bs) (List.replicate 6 none)) (GH P W F T (nD Bs))=.rt (.v (.b true)) G':=by
 have lg:=i9 (W:=W) K.jn K.nd K.ok K.hom K.bk (by have:=K.few;omega);rw[uD]at lg;have al:=gE (G:=GH P W F T (nD Bs)++[.l ((nB (nD Bs)).map .v)]) (N:=P) (W:=W) (F:=F) (T:=T) (Sd:=Sd) (kt:=1) (kh:=5) (B:=nB (nD Bs)) (ah (n:=5) (j:=2) (i:=3) rfl rfl rfl) (v5 (n:=6) rfl);have hD:(nD Bs).length<=1000:=by rw[u8];exact hl
 unfold lgO at lg;unfold wd;cases hd:dup [] (Tc Bs)with
 |some z=>rw[hd]at lg;exact C1 hD (al.2.2 z lg)
 |none=>
  rw[hd]at lg;obtain⟨G',e⟩:=Nt (ns:=ns) (c:=c) (h5:=(nB (nD Bs)).map .v) (d:=some (.v (.t [.s "right"]))) K hd;have hw:∀n,qE n (.t [.s "right"]) (.t [.s "right"])=.ok (.b (xor n true)):=λn=>IP λx hx=>by rw[R9.mp hx];exact⟨_,rfl⟩
  exact⟨G',zw (IQ hD) (zw (C0 (y:=.v .n) (al.1 _ lg) rfl) (zw ((Xt (uG (D:=nD Bs) (v5 (n:=6) rfl) (v5 (n:=6) rfl) (hw true))).trans rfl) (zw ((Xt (b9 (b:=false) rfl (yh (zo rfl (Y0 rfl (P2 rfl)) (hw true))))).trans rfl) e)))⟩
def Fj(K:Kn P W F L T Sd Bs)(hl:Bs.length<=100):∃G',Fg (lB ns c P W F L T Sd Bs (.t [.s "trip",.s "none"]) (List.replicate 6 none)) (GH P W F T ((nD Bs).take i++[("none":Str)]::(nD Bs).drop i))=.rt (.v (.b true)) G':=by have lg:=E7 (W:=W) (Bs:=Bs.take i) (r:=nB ((nD Bs).drop i)) K.jn K.nd K.ok K.hom (λR hR=>K.bk R (a1m hR)) (by have:=dY (Bs:=Bs) (n:=i);have:=K.few;omega) K.non;rw[uD,show nB (nD (Bs.take i))++PV.l [.s "none"]::nB ((nD Bs).drop i)=nB ((nD Bs).take i++[("none":Str)]::(nD Bs).drop i) by rw[show nD (Bs.take i)=(nD Bs).take i from ϲ];unfold nB;rw[R7,O6];rfl]at lg;have al:=gE (G:=GH P W F T ((nD Bs).take i++[("none":Str)]::(nD Bs).drop i)++[.l ((nB ((nD Bs).take i++[("none":Str)]::(nD Bs).drop i)).map .v)]) (N:=P) (W:=W) (F:=F) (T:=T) (Sd:=Sd) (kt:=1) (kh:=5) (B:=nB ((nD Bs).take i++[("none":Str)]::(nD Bs).drop i)) (ah (n:=5) (j:=2) (i:=3) rfl rfl rfl) (v5 (n:=6) rfl);exact C1 (by rw[O1,v0,ϭ,Ϛ,u8];omega) (al.2.1 _ lg)
end
section
variable {ns:Pn}{P:OP}{W:List Wy}{F:Str->Ht}{L:SU}{c:Int}{T:List Tp}{Sd:Str}{Bs:List (List Tp)}
def Bl(hi:i<=Bs.length)(hl:Bs.length<=100)(hm:m (lB ns c P W F L T Sd Bs (wd Bs) (List.replicate 6 none)) (GH P W F T (nD Bs))=.ok (.v (.i (i:Int))) (GH P W F T (nD Bs))):Es (qo 10) (zL m (zL (hP [] (KA (zb (mC (.s "none")) zm))) WB)) (lB ns c P W F L T Sd Bs (wd Bs) (List.replicate 6 none)) (GH P W F T (nD Bs))=.nx (lB ns c P W F L T Sd Bs (wd Bs) (List.replicate 6 none)) (GH P W F T ((nD Bs).take i++[("none":Str)]::(nD Bs).drop i)):=by
 have a2:zL m (zL (hP [] (KA (zb (mC (.s "none")) zm))) WB) (lB ns c P W F L T Sd Bs (wd Bs) (List.replicate 6 none)) (GH P W F T (nD Bs))=.ok [.v (.i (i:Int)),.v (.l [.s "none"])] (GH P W F T (nD Bs)):=Jb hm (Jb (ϡ λ_=>tW rfl (P2 rfl)) rfl);unfold Es;rw[show qo 10 (lB ns c P W F L T Sd Bs (wd Bs) (List.replicate 6 none)) (GH P W F T (nD Bs))=.ok (.g 4) (GH P W F T (nD Bs))from rfl];show(match(GH P W F T (nD Bs))[4]? with
  |some (.l _)=>((zL m _) _ (GH P W F T (nD Bs))).fw _
  |_=>.wall)=_
 rw[show(GH P W F T (nD Bs))[4]?=some (.l ((nB (nD Bs)).map .v))from rfl];dsimp only;rw[a2];show(match(GH P W F T (nD Bs))[4]? with|some (.l xs)=>if 0<=(i:Int)/\(i:Int).toNat<=xs.length/\xs.length<sizeLine then Ti.nx _ ((GH P W F T (nD Bs)).set 4 (.l (xs.take (i:Int).toNat++HV.v (.l [.s "none"])::xs.drop (i:Int).toNat)))else .wall|_=>.wall)=_;rw[show(GH P W F T (nD Bs))[4]?=some (.l ((nB (nD Bs)).map .v))from rfl];dsimp only;rw[if_pos ⟨by omega,by rw[u8,u8,u8];omega,Ϯ (by rw[u8,u8,u8];exact hl) (by decide)⟩,a0U];show Ti.nx _ (GB P W F T++[.l _])=Ti.nx _ (GB P W F T++[.l ((nB ((nD Bs).take i++[("none":Str)]::(nD Bs).drop i)).map .v)]);rw[show(nB ((nD Bs).take i++[("none":Str)]::(nD Bs).drop i)).map HV.v=((nB (nD Bs)).map .v).take i++HV.v (.l [.s "none"])::((nB (nD Bs)).map .v).drop i by unfold nB;rw[R7,R7,O6,O6,ϲ,ϲ,a11,a11];rfl]
end
def Fm{ns:Pn}{P:OP}{W:List Wy}{F:Str->Ht}{L:SU}{c:Int}{T:List Tp}{Sd:Str}{Bs:List (List Tp)}(K:Kn P W F L T Sd Bs)(hl:Bs.length<=100):∃G,uC (lA ns c P W L T ([some (.v (Sh P W F)),some (.g 1),some (.v (.s Sd)),some (.v (bP Bs))]++List.replicate 8 none)) (GB P W F T)=.rt (.v (.b true)) G:=by
 obtain⟨x,_,_,ex⟩:=yC (ns:=ns) (k:=135) (m:=5) (by decide) (by decide) (by decide);obtain⟨i,i0,i1,ei⟩:=yC (ns:=ns) (k:=136) (m:=(Bs.length:Int)+1) (by decide) (by decide) (by omega);obtain⟨i,rfl⟩:=Ϩ i0;have q10:qF 10 (hF Rq (SO (zN (zc 9)) [none] X2 X3 X4)) (lA ns c P W L T ([some (.v (Sh P W F)),some (.g 1),some (.v (.s Sd)),some (.v (bP Bs))]++List.replicate 8 none)) (GB P W F T)=.nx (lA ns c P W L T ([some (.v (Sh P W F)),some (.g 1),some (.v (.s Sd)),some (.v (bP Bs)),some (.g 4)]++List.replicate 7 none)) (GH P W F T (nD Bs)):=z5 (Lx rfl (Bg rfl (by omega) rfl λR hR=>(K.bk R hR).few) rfl);have q11:qF 11 (hP Rq (zg y4 (zb (zc 9) zm))) (lA ns c P W L T ([some (.v (Sh P W F)),some (.g 1),some (.v (.s Sd)),some (.v (bP Bs)),some (.g 4)]++List.replicate 7 none)) (GH P W F T (nD Bs))=.nx (lB ns c P W F L T Sd Bs (wd Bs) (List.replicate 6 none)) (GH P W F T (nD Bs)):=z5 (aO rfl (zz rfl (uv (by have:=K.few;omega))));have tt:=b9 (G:=GH P W F T (nD Bs)) (bs:=[true]) (U:=lB ns c P W F L T Sd Bs (wd Bs) (List.replicate 6 none)) rfl (tX (n:=1) (zz (f:=zi) (ms:=zb (zc 0) (zb (mC (.i 135)) (zb (mC (.i 5)) zm))) (xs:=[.sc ns,.i 135,.i 5]) rfl ex));by_cases h:x=1
 .rw[O9 h]at tt;obtain⟨G,e⟩:=Fj (ns:=ns) (c:=c) (i:=i) K hl;have r4:jH (GH P W F T (nD Bs)) 8 (.g 4)=some (.l (TQ Bs)):=by rw[uD];exact v5 (n:=6) rfl
  have am:=EW (G:=GH P W F T (nD Bs)) (bs:=RH) (U:=lB ns c P W F L T Sd Bs (wd Bs) (List.replicate 6 none)) (m:=zg zi (zb (zc 0) (zb (mC (.i 136)) (zb (Se zU (zg jC (zb (zc 10) zm)) (mC (.i 1))) zm)))) rfl (kO rfl (yi (yi (yi (yi (yi (yi (yi (yi (yi (kO r4 (ZT (ZT (ZT (ZT (ZT (ZT (ZT gp)))))))))))))))))) (zz (xs:=[.sc ns,.i 136,.i ((Bs.length:Int)+1)]) (zp rfl (zp rfl (zp (zo (zz (f:=jC) (xs:=[.l (TQ Bs)]) rfl qQ) rfl rfl) rfl))) ei) rfl;exact⟨G,zw q10 (zw q11 (zw ((EH tt).trans (zw (Bl (by omega) hl am) (z5 (ϡ λ_=>Y0 rfl (P2 rfl))))) e))⟩
 .rw[O8 h]at tt;obtain⟨G,e⟩:=Fi (ns:=ns) (c:=c) K (by omega);exact⟨G,zw q10 (zw q11 (zw ((Xt tt).trans rfl) e))⟩
def Bm(ns:Pn)(_:ns.length<=k):∃G,tT [.v (.sc ns)] []=.ok (.v (.b true)) G:=Bf λc P W F L T Sd Bs K=>Fm K K.bl
end NCS
def uH(K:Pq):Sp:=λvs H Q _=>∃(a:Addr)(ns:Pn),vs=[.ref a]/\Sq K H a (ns.map V.int)/\ns.length<=63/\∀H',Q (.bl true) H'
def all_mk{l:W.OpenLaw}{w:Pk}{K:Pq}{h:Heap}{mg:OQ}{fa Zz ke jV wc yD jq wg qN jA ki qW qD qC Kz W_ W9 QY VN k_ JP k9 YI Zw vi YU vd QX jU wN JU YJ kH jd kf Zv vc JG wO kE JT JQ JL we kG QP uU cz kg YX jT VU VT QT aE nt V1 aG Xa VM V3 YQ VQ lb:Addr}{Xh Xf QV VW YS JC YO YG JY vh YT YN QO wR wM JD YW JI YK ZR JR YV JV wQ JE JN JM JX QR JW QQ uO cy ZQ YL QS VZ VP QZ aJ nu VS aF Xd VX VO YH VY lD:Pl}{gO JK YM JF nr cu nv gQ cw gU QU V2:Tok}(X:K.In h)(G:h.Ns mainGlobals mg)(hfa:mg "law"=some (.ref fa))(iN:W.nsIn K mainGlobals "LIMIT"=some (some (.int 1000000000 gO)))(Qn:W.nsIn K mainGlobals "NAME_SIGNS"=some (some (.str "abcdefghijklmnopqrstuvwxyz0123456789" JK)))(Zd:W.nsIn K mainGlobals "LONGEST_NAME"=some (some (.int 12 YM)))(Qo:W.nsIn K mainGlobals "MOST_TRIPS"=some (some (.int 40 JF)))(K_:W.nsIn K mainGlobals "NAME"=some (some (.int 0 nr)))(wA:W.nsIn K mainGlobals "ORIGIN"=some (some (.int 1 cu)))(Jh:W.nsIn K mainGlobals "GOAL"=some (some (.int 2 nv)))(Yc:W.nsIn K mainGlobals "START"=some (some (.int 3 gQ)))(vn:W.nsIn K mainGlobals "FINISH"=some (some (.int 4 cw)))(dv:W.nsIn K mainGlobals "SEATS"=some (some (.int 5 gU)))(Yd:W.nsIn K mainGlobals "MOST_PLACES"=some (some (.int 12 QU)))(Kp:W.nsIn K mainGlobals "MOST_WAYS"=some (some (.int 60 V2)))(Qp:ξ K "FleetError" Zz)(Va:ξ K "BadName" ke)(Kq:ξ K "BadNumber" jV)(UJ:ξ K "TooMany" wc)(UK:ξ K "Twice" yD)(Vb:ξ K "NoPlace" jq)(UL:ξ K "NoWay" wg)(XY:ξ K "NoTrip" qN)(Wf:ξ K "Backward" jA)(UM:ξ K "TooFast" ki)(dw:ξ K "Table" qW)(iO:ξ K "Roads" qD)(Q9:ξ K "Unlinked" qC)(UN:ξ K "TooLong" Kz)(tI:Ε K "bool")(tJ:Ε K "dict")(AK:Ε K "int")(z6:Ε K "isinstance")(j5:Ε K "len")(Qq:Ε K "list")(EC:Ε K "max")(vG:Ε K "range")(dy:Ε K "sorted")(ED:Ε K "str")(iP:Ε K "tuple")(EE:Ε K "zip")(zx:SH K "_law_draw" V_ W_ Xh)(vt:SH K "_law_ways" Wa W9 Xf)(qJ:SH K "_law_lengths" Z6 QY QV)(Ye:SH K "_law_moved" Ke VN VW)(oN:SY K wc k_)(JH:SA K "__init__" "TooMany.__init__" wX k_ YS)(jt:SH K "check_most" Qa JP JC)(oM:SY K ke k9)(JO:SA K "__init__" "BadName.__init__" wY k9 YO)(kr:SH K "checked_name" wZ YI YG)(Br:SY K yD Zw)(Xc:SA K "__init__" "Twice.__init__" Qb Zw JY)(yJ:SH K "checked_new_name" jI vi vh)(ky:SH K "check_places" w4 YU YT)(oI:SY K jq vd)(JJ:SA K "__init__" "NoPlace.__init__" w6 vd YN)(yK:SH K "check_place" Z7 QX QO)(gT:SY K jV jU)(YR:SA K "__init__" "BadNumber.__init__" kW jU wR)(yn:SH K "checked_number" kX wN wM)(wB:SH K "check_ways" Qc JU JD)(qh:SH K "heights_from" w8 YJ YW)(gP:W.findIn K (.ref qD) "__init__"=some (some (.ref kH)))(Xb:SA K "__init__" "Roads.__init__" Qd kH JI)(bI:W.findIn K (.ref qD) "length"=some (some (.ref jd)))(Zy:SA K "length" "Roads.length" w_ jd YK)(lp:SY K jA kf)(QN:SA K "__init__" "Backward.__init__" vC kf ZR)(Bt:SY K wg Zv)(Xg:SA K "__init__" "NoWay.__init__" Qe Zv JR)(oJ:SY K ki vc)(JS:SA K "__init__" "TooFast.__init__" Za vc YV)(wC:SH K "check_trip" Qf JG JV)(qe:SH K "place_in_order" kY wO wQ)(gR:W.findIn K (.ref qW) "__init__"=some (some (.ref kE)))(Xe:SA K "__init__" "Table.__init__" Qg kE JE)(ju:SH K "_law_blocks" Qh JT JN)(wD:SH K "_law_second" Qi JQ JM)(wF:SH K "check_once" Qj JL JX)(uN:SY K qN we)(V0:SA K "__init__" "NoTrip.__init__" Z8 we QR)(gM:W.findIn K (.ref qW) "trip"=some (some (.ref kG)))(QW:SA K "trip" "Table.trip" Qk kG JW)(vo:SH K "check_trips" Z9 QP QQ)(AL:SH K "gap" EA uU uO)(Vc:SH K "linked" dj cz cy)(lC:SY K qC kg)(Q1:SA K "__init__" "Unlinked.__init__" vD kg ZQ)(kA:SH K "check_linked" Zb YX YL)(d6:W.findIn K (.ref qD) "names"=some (some (.ref jT)))(Yr:SA K "names" "Roads.names" Z_ jT QS)(Yf:SH K "check_row" Kf VU VZ)(vH:SH K "check_way" Kg VT VP)(jJ:SH K "check_block" Ya QT QZ)(ZM:SH K "legs_of" UB aE aJ)(Yt:SH K "legs" tH nt nu)(j6:SH K "_law_asked" Kh V1 VS)(qf:SH K "_law_due" UC aG aF)(ZN:SH K "_law_name" Wb Xa Xd)(j7:SH K "_law_trips" Ki VM VX)(Yg:SH K "_law_alike" Kj V3 VO)(kB:SH K "block_length" Zc YQ YH)(j8:SH K "_law_taken" Kk VQ VY)(tK:SH K "law" EB lb lD)(lx:YY K ke)(Xz:W.takerIn K ke "name"=some none)(Xu:W.findIn K (.ref ke) "name"=some none)(d3:YY K jV)(Ky:W.takerIn K jV "value"=some none)(lq:YY K wc)(Xx:W.takerIn K wc "most"=some none)(uK:YY K yD)(uP:XIs K yD)(xcbTwice_Twice:Catch K yD yD true)(xcnNoTrip_Twice:Catch K yD qN false)(bE:W.takerIn K yD "name"=some none)(bJ:W.findIn K (.ref yD) "name"=some none)(lj:YY K jq)(Xy:W.takerIn K jq "name"=some none)(Xv:W.findIn K (.ref jq) "name"=some none)(uM:YY K wg)(XA:W.takerIn K wg "origin"=some none)(bG:W.takerIn K wg "goal"=some none)(oK:YY K qN)(xcbNoTrip_NoTrip:Catch K qN qN true)(aC:W.takerIn K qN "name"=some none)(aB:W.findIn K (.ref qN) "name"=some none)(gN:YY K jA)(Wr:W.takerIn K jA "name"=some none)(Wq:W.findIn K (.ref jA) "name"=some none)(lh:YY K ki)(Xw:W.takerIn K ki "name"=some none)(XE:W.findIn K (.ref ki) "name"=some none)(gK:YY K qC)(VR:W.takerIn K qC "first"=some none)(Kx:W.takerIn K qC "second"=some none)(uL:TL K qW)(uT:W.makesIn K qW=true)(uI:W.keepIn K (.ref qW)=true)(Ws:W.findIn K (.ref qW) "by_name"=some none)(aH:W.findIn K (.ref qW) "order"=some none)(aL:W.findIn K (.ref qW) "roads"=some none)(bD:W.isFn K (.ref kG)=true)(bH:W.isFn K (.ref kE)=true)(uJ:TL K qD)(uR:W.makesIn K qD=true)(uQ:W.keepIn K (.ref qD)=true)(Wt:W.findIn K (.ref qD) "lengths"=some none)(XB:W.findIn K (.ref qD) "places"=some none)(bF:W.findIn K (.ref qD) "ways"=some none)(XF:W.isFn K (.ref jd)=true)(aI:W.isFn K (.ref jT)=true)(bC:W.isFn K (.ref kH)=true)(Qv:W.kitOne K (.type "list") (.type "list")=some true)(Zf:W.kitOne K (.type "tuple") (.type "tuple")=some true)(Qw:W.kitOne K (.type "bool") (.type "bool")=some true)(Kr:W.kitOne K (.type "int") (.type "bool")=some false)(Wi:W.kitOne K (.type "int") (.type "int")=some true)(Ks:W.kitOne K (.type "bool") (.type "int")=some true)(Wj:W.kitOne K (.type "str") (.type "str")=some true)(vI:Cp K yD Kz)(kZ:Cp K yD qC)(Yh:Cp K yD wg)(vJ:Cp K yD jq)(jL:NM K yD Zz)
  : ∃fd:FuncData,(∀(s:OV)(v:Value),BindsTo s fd ⟨[v],[]⟩ [("_law_script",v)])/\∀base:Heap,K.In base->base.Ns mainGlobals mg->yW l.prog w K mg base (Sj l.prog w) 12 fa fd ["_law_script"] (uH K):=by
 have e:lb=fa:=by have e:=hfa.symm.trans (SR X G tK.1);injection e with e;injection e with e;exact e.symm
 subst e;have T:Txt K mg ⟨Zz,ke,jV,wc,yD,jq,wg,qN,jA,ki,qW,qD,qC,Kz,W_,W9,QY,VN,k_,JP,k9,YI,Zw,vi,YU,vd,QX,jU,wN,JU,YJ,kH,jd,kf,Zv,vc,JG,wO,kE,JT,JQ,JL,we,kG,QP,uU,cz,kg,YX,jT,VU,VT,QT,aE,nt,V1,aG,Xa,VM,V3,YQ,VQ,lb,Xh,Xf,QV,VW,YS,JC,YO,YG,JY,vh,YT,YN,QO,wR,wM,JD,YW,JI,YK,ZR,JR,YV,JV,wQ,JE,JN,JM,JX,QR,JW,QQ,uO,cy,ZQ,YL,QS,VZ,VP,QZ,aJ,nu,VS,aF,Xd,VX,VO,YH,VY,lD,gO,JK,YM,JF,nr,cu,nv,gQ,cw,gU,QU,V2⟩:=⟨⟨SR X G iN,SR X G Qn,SR X G Zd,SR X G Qo,SR X G K_,SR X G wA,SR X G Jh,SR X G Yc⟩,⟨SR X G vn,SR X G dv,SR X G Yd,SR X G Kp,SR X G Qp,SR X G Va,SR X G Kq,SR X G UJ⟩,⟨SR X G UK,SR X G Vb,SR X G UL,SR X G XY,SR X G Wf,SR X G UM,SR X G dw,SR X G iO⟩,⟨SR X G Q9,SR X G UN,Α X G tI,Α X G tJ,Α X G AK,Α X G z6,Α X G j5,Α X G Qq⟩,⟨Α X G EC,Α X G vG,Α X G dy,Α X G ED,Α X G iP,Α X G EE,yk X G zx Tw,yk X G vt bn4⟩,⟨yk X G qJ Tt,yk X G Ye Tw,JH,JH.binds Tt,yk X G jt Tt,JO,JO.binds Tt,yk X G kr Ϥ⟩,⟨Xc,Xc.binds Tt,yk X G yJ Tt,yk X G ky Ϥ,JJ,JJ.binds Tt,yk X G yK Tt,YR⟩,⟨YR.binds Tt,yk X G yn Tt,yk X G wB Tt,yk X G qh Tt,Xb,Xb.binds Tw,Zy,Zy.binds Tw⟩,⟨QN,QN.binds Tt,Xg,Xg.binds Tw,JS,JS.binds Tt,yk X G wC Tw,yk X G qe Ϥ⟩,⟨Xe,Xe.binds Tw,yk X G ju Tt,yk X G wD Ϥ,yk X G wF Ϥ,V0,V0.binds Tt,QW⟩,⟨QW.binds Tt,yk X G vo Tt,yk X G AL Tw,yk X G Vc Tw,Q1,Q1.binds Tw,yk X G kA Tt,Yr⟩,⟨Yr.binds Ϥ,yk X G Yf Tw,yk X G vH Tw,yk X G jJ Tw,yk X G ZM Tw,yk X G Yt Tw,yk X G j6 Tw,yk X G qf Tw⟩,⟨yk X G ZN Tw,yk X G j7 bn5,yk X G Yg Tt,yk X G kB Tw,yk X G j8 bn5,yk X G tK Ϥ,lx,oM⟩,⟨Xz,Xu,d3,gT,Ky,lq,oN,Xx⟩,⟨uK,uP,Br,xcbTwice_Twice,xcnNoTrip_Twice,bE,bJ,lj⟩,⟨oI,Xy,Xv,uM,Bt,XA,bG,oK⟩,⟨uN,xcbNoTrip_NoTrip,aC,aB,gN,lp,Wr,Wq⟩,⟨lh,oJ,Xw,XE,gK,lC,VR,Kx⟩,⟨uL,Ws,aH,aL,⟨gM,bD,QW.kp⟩,⟨uT,gR,bH,uI⟩,uJ,Wt⟩,⟨XB,bF,⟨bI,XF,Zy.kp⟩,⟨d6,aI,Yr.kp⟩,⟨uR,gP,bC,uQ⟩,Qv,Zf,Qw⟩,⟨Kr,Wi,Ks,Wj,vI,kZ,Yh,vJ⟩,jL⟩;have eb:∀(s:OV)(v:Value),BindsTo s lD ⟨[v],[]⟩ [("_law_script",v)]:=by obtain⟨_,_,_,_,_,_,_,_,_,rfl,_,_⟩:=tK.2.ex;exact λs v=>.of_eq rfl
 refine⟨_,eb,λbase _ _=>(Ig T).imp λvs H Q E ⟨p,ns,e,hS,hl,k⟩=>?_⟩;subst e;exact Ee hS (Bm ns hl) k
def walk{l:W.OpenLaw}{q:Pg}{loose:OP}{XP:(Str->Option Value)->Heap->Prop}{YP:World->Heap->Prop}{d:DefRec}{K:Params->W.Frag}(hn:l.most=some 63)(hdf:d.params.defaults=[])(hY:∀(w:Pk)(h:Heap),YP w h->(K w.params).In h)(F:∀(w:Pk)(mg:OQ)(fa:Addr)(h:Heap),(K w.params).In h->h.Ns mainGlobals mg->mg d.name=some (.ref fa)-> ∃fd:FuncData,(∀(s:OV)(u:Value),BindsTo s fd ⟨[u],[]⟩ [("_law_script",u)])/\∀base:Heap,(K w.params).In base->base.Ns mainGlobals mg->yW l.prog w (K w.params) mg base (Sj l.prog w) 12 fa fd ["_law_script"] (uH (K w.params))):
  W.WalkO q loose XP YP l.row.toRowW d [] (λf vs=>PySem.call f vs):=
 L2.Dt (n:=63) (k:=12) (x:="_law_script") (CX:=λw=>Sj l.prog w) (sp:=λw=>uH (K w.params)) hn (by decide) hdf ⟨rfl,by decide,by decide⟩ hY F (λ_ H a ns hl hO hS=>⟨a,ns,rfl,hS,hl,λ_=>rfl⟩) λ_ _ _ _ _ z=>ft z
end K45
open PySem PySem.W PyProof.Rows
namespace PySem.W.Fast
def tw13994983282137584337:=0
def tw15188984140518018937:=0
def tw10237138255227610039:=0
def tw6751703563190425700:=0
def tw4619209775243857393:=0
def tw16911376004573770047:=0
def tw12484703848895319272:=0
def tw2300808317885822066:=0
def tw12405289898088139785:=0
def tw10542034960763304401:=0
def tw1963680167582588391:=0
def tw5028448051717885879:=0
def tw4115582958234888053:=0
def tw1856455863828529808:=0
def tw10399515642441588959:=0
def tw17462923666278644466:=0
def tw14177962069335839625:=0
def tw9235405371153376718:=0
def tw14608379016677362018:=0
def tw6584440182057215903:=0
def tw2550803043029236857:=0
def tw15095094502083805307:=0
def tw16520497200988572483:=0
def tw16488625141082607539:=0
def tw4795731588320585309:=0
def tw7015935997916049066:=0
def tw5832717147814121611:=0
def tw2197392058854943639:=0
def tw14252711664842465454:=0
def tw370694295879913089:=0
def tw1135955547572745996:=0
def tw10576295664945856199:=0
def tw7964295522694152630:=0
def tw12275651212871215414:=0
def tw13925806336338294877:=0
def tw4387764632024004823:=0
def tw10281417029059987157:=0
def tw12281083919261961377:=0
def tw12377817987871544886:=0
def tw4207355586957228395:=0
def tw6246035213299466952:=0
def tw3562647097779404110:=0
def tw17168211846815603408:=0
def tw6387083689709089867:=0
def tw8259454580750065201:=0
def tw14890510181289229189:=0
def tw2223157435891988527:=0
def tw4814219477626547083:=0
def tw10110937032507595502:=0
def tw1738063446990260258:=0
def tw15200561302569197016:=0
def tw8130675019291672229:=0
def tw18135315188744841745:=0
def tw13383379683181875130:=0
def tw6186020527880291655:=0
def tw6457721745940320152:=0
def tw14951516478134048311:=0
def tw10057428156442493743:=0
def tw16335340389227756458:=0
def tw13881449894600884314:=0
def tw9776106497455027894:=0
def tw2823496043998829876:=0
def tw14684785092294753897:=0
def tw17783569816596910268:=0
def tw10869352283178051022:=0
def tw3385165441678960837:=0
def tw11797064674217962606:=0
def tw1155609136399341949:=0
def tw3528783399206603693:=0
def tw10740792804626180428:=0
def tw189522424000212598:=0
def tw7440332356966206002:=0
def tw7727148586208163764:=0
def tw3595679133697869728:=0
def tw18358777323437703801:=0
def tw9916298207443778671:=0
def tw6013467689204250541:=0
def tw17573130940204496266:=0
def tw3300954154377236198:=0
def tw10805122614805980501:=0
def tw6025276952299630625:=0
def tw14248161651749032839:=0
def tw8060313263150599896:=0
def tw7986634263312253194:=0
def tw2883976900898284523:=0
def tw12593030054311200239:=0
def tw5740759279945904948:=0
def tw8606545713129017634:=0
def tw17053829988493990337:=0
def tw2500737092749918615:=0
def tw17366859396078377343:=0
def tw3632771638300582596:=0
def tw17089146817597358651:=0
def tw8532797844644657048:=0
def tw17563557669150766833:=0
def tw8168632930415476135:=0
def tw3721474908654084496:=0
def tw1473338577288703083:=0
def tw7745047552499017001:=0
def tw2608299619651001045:=0
def tw16514374745579656873:=0
def tw16192278128596147115:=0
def tw16092261014231904955:=0
def tw11320130614794776150:=0
def tw868108878378430720:=0
def tw5876473807615112282:=0
def tw11286686673418205417:=0
def tw928047050649137307:=0
def tw6644792058266474658:=0
def tw1076885041993421193:=0
def tw10824059703766086243:=0
def tw3571395563242703722:=0
def tw7455181042479982163:=0
def tw17941572607003365473:=0
def tw6434407171359125476:=0
def tw12296857378366600502:=0
def tw10289268932156715465:=0
def tw2029654653992244087:=0
def tw2727138277597594483:=0
def tw4709272429707702247:=0
def tw18087318711528244031:=0
def tw6788748558434463697:=0
def tw16741909723729972750:=0
def tw16318689868985227489:=0
def tw6034415114660128393:=0
def tw15081532487458962217:=0
def tw1358504009829264188:=0
def tw8454203179513706644:=0
def tw12888241752426917174:=0
def tw1579168293014297758:=0
def tw15653564296254189520:=0
def tw5990183429439617095:=0
def tw1365312744589710881:=0
def tw2121723383132511870:=0
def tw12035753649124531646:=0
def tw3049212639652836855:=0
def tw8801781491033808266:=0
def tw14050002721768197266:=0
def tw948837190524292982:=0
def tw13497636310700106240:=0
def tw1151580774619619747:=0
def tw14246234102641032471:=0
def tw14369736787641077794:=0
def tw3449920163097266480:=0
def tw5408457803790361390:=0
def tw17889369907016506954:=0
def tw2013474819284266800:=0
def tw2448692780746986219:=0
def tw9527108765187271842:=0
def tw12544569903546464547:=0
def tw12712042544323240796:=0
def tw1458711570626237330:=0
def tw8758230970461201612:=0
def tw13635215890800800717:=0
def tw8539130696074141636:=0
def tw8597818369291357005:=0
def tw15166877192297994278:=0
def tw8124569369039835534:=0
def tw7122808885004777476:=0
def tw17627093137915926390:=0
def tw10055602149400929850:=0
def tw18274575312479901128:=0
def tw18368467472363924495:=0
def tw17401272662241170272:=0
def tw8327834638508122782:=0
def tw12089238409918308917:=0
def tw443848800948388214:=0
def tw158101472229789906:=0
def tw8472806009538139419:=0
def tw5631178508136248204:=0
end PySem.W.Fast
set_option maxRecDepth 100000 in
set_option maxHeartbeats 0 in
theorem PySem.Challenge.cw_fleetpath_k45_legs_are_trips_holds : PySem.Challenge.rw_fleetpath_k45_legs_are_trips.Holds := by
 w_on;o_law;k_head;(case hw=>w_witness2)
 k_fill
 refine K45.walk (l:=PySem.Challenge.rw_fleetpath_k45_legs_are_trips) rfl rfl (λw h Yaa=>PySem.W.kIn_of Yaa) ?F
 case F=>
  intro w mg fa h KX G hmg;refine' K45.all_mk KX G hmg ?_ ?_ ?_ ?_ ?_ ?_ ?_ ?_ ?_ ?_ ?_ ?_ ?_ ?_ ?_ ?_ ?_ ?_ ?_ ?_ ?_ ?_ ?_ ?_ ?_ ?_ ?_ ?_ ?_ ?_ ?_ ?_ ?_ ?_ ?_ ?_ ?_ ?_ ?_ ?_ ?_ ?_ ?_ ?_ ?_ ?_ ?_ ?_ ?_ ?_ ?_ ?_ ?_ ?_ ?_ ?_ ?_ ?_ ?_ ?_ ?_ ?_ ?_ ?_ ?_ ?_ ?_ ?_ ?_ ?_ ?_ ?_ ?_ ?_ ?_ ?_ ?_ ?_ ?_ ?_ ?_ ?_ ?_ ?_ ?_ ?_ ?_ ?_ ?_ ?_ ?_ ?_ ?_ ?_ ?_ ?_ ?_ ?_ ?_ ?_ ?_ ?_ ?_ ?_ ?_ ?_ ?_ ?_ ?_ ?_ ?_ ?_ ?_ ?_ ?_ ?_ ?_ ?_ ?_ ?_ ?_ ?_ ?_ ?_ ?_ ?_ ?_ ?_ ?_ ?_ ?_ ?_ ?_ ?_ ?_ ?_ ?_ ?_ ?_ ?_ ?_ ?_ ?_ ?_ ?_ ?_ ?_ ?_ ?_ ?_ ?_ ?_ ?_ ?_ ?_ ?_ ?_ ?_ ?_ ?_ ?_ ?_ ?_
  all_goals try(first|((first|refine'⟨?_,L2.BL ?_ ?_ ?_⟩|refine' L2.BL ?_ ?_ ?_|refine' K45.HL ?_ ?_ ?_ ?_ ?_)<;>try first|k_is|kernel_rfl)|(show _=_;first|k_is|kernel_rfl)|(first|refine⟨?_,?_,?_,?_,?_⟩|refine⟨?_,?_,?_,?_⟩|refine⟨?_,?_,?_⟩)<;>first|k_is|kernel_rfl)

