import PyProof.Rows.All
import Wide.All
import OpenK.AllK
import Wide.FinOn
import Lean
import PyProof.EqAt
import PyProof.EqKinds
import PyProof.TupleCall
import PyProof.NeKinds
import PyProof.Rows.CountFlat
import PyProof.Rows.SumAny
import PyProof.Rows.Range3
import KE.KEqDict
import KE.KRevIter
import PyProof.DictIter
import PyProof.DictWalks
import PyProof.IsiH_list
import KE.KDictOf
import PyProof.Rows.SetFrom
import PyProof.Conv_int_bool
import PyProof.Rows.StrNews
import PyProof.CallStr
import PyProof.Rows.StrMeet
import PyProof.FitsReplace
import PyProof.MeetsStr3
import PyProof.Rows.StrSplitAre
import PyProof.StrLawsIn
import PyProof.ReprLen
import PyProof.StrLawsChain
import KE.IntTextLaws
import PyProof.Rows.StrClose5
import KE.KSortTup
import PyProof.Rows.SortKey
import PyProof.DictUpdate
import KE.KDictSum
import PyProof.WalksEnum
import PyProof.EnumMake
import PyProof.ZipIter
import PyProof.Rows.EnumRows
import PyProof.Rows.ZipForRows
import PyProof.Rows.FactsT2
import PyProof.Rows.SortStr
import PyProof.TupleIter
import KE.KLam
import PySem.Challenge.RW_fleetpath_k35_chains
set_option compiler.extract_closed false
set_option bootstrap.genMatcherCode false
set_option genInjectivity false
set_option genSizeOf false
set_option genSizeOfSpec false
set_option Elab.async false
set_option linter.all false
set_option maxRecDepth 100000
noncomputable section
def f8:=@PySem.wpAny_bind
def u8:=@List.length_map
def v4:=@Option.map_eq_some_iff
def B0:=@List.length_cons
def B3:=@List.mem_cons_self
def B4:=@List.mem_cons_of_mem
def B5:=@List.length_append
def B6:=@PySem.Heap.get?_push_of_some
def B7:=@Nat.le_refl
def B8:=@PySem.wpAny_pure
def B9:=@List.getElem?_eq_getElem
def C0:=@PySem.Heap.lt_size
def C4:=@List.getElem?_eq_some_iff
def C5:=@List.mem_cons
def C6:=@List.mem_append_right
def C7:=@List.mem_singleton
def C8:=@List.map_cons
def C9:=@Bool.false_ne_true
def D0:=@Nat.lt_of_lt_of_le
def D2:=@Nat.ne_of_lt
def D3:=@List.map_map
def D4:=@PySem.AutoSeq1.wpAny_loadPart'
def D5:=@List.getElem?_map
def D6:=@List.length_range
def D7:=@List.mem_append_left
def D8:=@PySem.Heap.get?_update_other
def D9:=@List.size_toArray
def E1:=@List.mem_map
def E2:=@PySem.Heap.get?_push_size
def E3:=@Nat.le_trans
def E4:=@List.getElem?_set_self
def E5:=@List.getElem?_set_ne
def E6:=@Option.bind_eq_some_iff
def E7:=@List.mem_filter
def E8:=@List.getElem?_cons_succ
def E9:=@List.mem_append
def F0:=@List.append_nil
def F1:=@Nat.lt_of_le_of_lt
def F2:=@List.getElem?_append_left
def F3:=@List.append_assoc
def F4:=@List.getElem?_append_right
def F5:=@List.length_set
def F6:=@List.mem_range
def F7:=@Nat.zero_le
def F8:=@List.map_append
def F9:=@beq_iff_eq
def G0:=@PySem.Heap.get?_update_self
def G5:=@decide_eq_false
def G6:=@List.nodup_cons
def G7:=@PySem.wpAny_holding
def G8:=@List.lookup_cons
def G9:=@Option.some.inj
def L4:=@PySem.wpAny_mono
def L5:=@decide_eq_true
def L6:=@List.nodup_append
def L7:=@PySem.Around.under_plainId
def L8:=@Option.isSome_iff_exists
def L9:=@Classical.choose_spec
def M1:=@PySem.MeetsSeq3.plain_eq_loop
def M3:=@PySem.plainId_quiet
def M4:=@List.getD_eq_getElem?_getD
def M5:=@congrArg
def M6:=@List.flatten_cons
def M7:=@of_decide_eq_true
def M8:=@Nat.lt_irrefl
def M9:=@Nat.ne_of_gt
def N4:=@PySem.sizeLine_eq
def N5:=@PySem.Str.length_append
def N6:=@PySem.codeAny_builtin
def N7:=@PySem.wpAny_Call_Name_kw
def N8:=@Nat.sub_self
def N9:=@PySem.Paired.length
def O0:=@List.any_cons
def O1:=@PySem.wpAny_updateSeq
def O2:=@beq_eq_false_iff_ne
def O3:=@PySem.mem_of_lookup
def O4:=@List.replicate_succ
def O5:=@List.not_mem_nil
def O6:=@List.getElem_range
def O7:=@List.drop_eq_getElem_cons
def O8:=@List.mem_of_getElem?
def O9:=@List.map_congr_left
def P0:=@List.filter_sublist
def P4:=@List.length_take
def P5:=@List.all_eq_true
def P6:=@Nat.lt_succ_self
def P7:=@beq_self_eq_true
def P8:=@List.nodup_nil
def P9:=@PyProof.Rows.callWith_type1
def R4:=@PySem.W.mg_none_of
def R7:=@PySem.wpAny_passesOwn
def R8:=@List.length_replicate
def R9:=@PySem.builtinLookup_eq_fast
def S0:=@Nat.not_lt_zero
def S4:=@List.set_append_right
def S5:=@PySem.wpAny_newObj_type
def S6:=@Int.toNat_natCast
def S7:=@Classical.byContradiction
def S8:=@PySem.wpAny_typeOf
def S9:=@PySem.F.plain_max_loop
def T0:=@List.filter_cons
def T1:=@Nat.le_add_right
def T2:=@List.getElem_mem
def T4:=@Array.length_toList
def T5:=@List.mem_map_of_mem
def T6:=@List.getElem?_replicate
def T7:=@PySem.MeetsSeq3.entry_eq_loop
def T8:=@PySem.wpAny_standAt
def T9:=@PySem.tupleKind_room_in1
def W1:=@PySem.wpAny_truthy_bool
def a0a:=@Nat.le_of_lt
def a0b:=@List.map_nil
def a0c:=@Nat.lt_trans
def a0d:=@PySem.wpAny_call
def a0e:=@PySem.codeAny_call_builtin
def a0f:=@PySem.wpAny_isInstance
def a0g:=@List.getElem_map
def a0h:=@List.mem_flatten
def a0i:=@Nat.le_succ
def a0j:=@PySem.wpAny_letGo
def a0k:=@List.filterMap_cons
def a0l:=@List.foldl_cons
def a0m:=@List.find?_cons
def a0n:=@List.getElem?_eq_none_iff
def a0o:=@PySem.typeLookup_type
def a0p:=@PySem.F.plain_extend_loop
def a0q:=@PySem.Calls.spliced_cons
def a0r:=@PySem.codeAny_mono
def a0s:=@PySem.Heap.size_push
def a0t:=@Bool.false_xor
def a0u:=@PySem.F.plainAttrs_list
def a0v:=@List.getElem?_cons_zero
def a0w:=@PySem.Calls.callWith_builtin
def a0x:=@PySem.wpAny_of_eq
def a0y:=@List.all_cons
def a0z:=@PySem.wpAny_attempt
def a0A:=@List.drop_length
def a0B:=@List.take_length
def a0C:=@List.countP_cons
def a0D:=@List.length_singleton
def a0E:=@PySem.F.slot_dict_get
def a0F:=@List.getElem?_reverse
def a0G:=@List.countP_le_length
def a0H:=@PySem.wpAny_execs_nil
def a0I:=@List.nil_append
def a0J:=@List.length_nil
def a0K:=@PySem.wpAny_specialOf
def a0L:=@List.getElem?_append
def a0M:=@PySem.codeAny_extend_loopS
def a0N:=@Nat.zero_add
def a0O:=@PySem.wpAny_rule
def a0P:=@Int.emod_nonneg
def a0Q:=@PySem.Heap.get?_update_ne
def a0R:=@List.flatten_append
def a0S:=@PySem.wpAny_loadPart
def a0T:=@Bool.and_false
def a0U:=@PySem.wpAny_seqItems
def a0V:=@PySem.wpAny_tryCatch
def a0W:=@List.countP_eq_length_filter
def a0X:=@PySem.wpAny_field
def a0Y:=@PySem.wpAny_richCompare_same_room
def a0Z:=@of_decide_eq_false
def a00:=@List.set_cons_zero
def a01:=@PySem.Calls.Name_function_global
def a02:=@Array.getElem?_eq_some_iff
def a03:=@Bool.true_and
def a04:=@Bool.true_xor
def a05:=@PySem.Moved.eq_with
def a06:=@Array.perm_iff_toList_perm
def a07:=@PyProof.Rows.listUpdate_at
def a08:=@List.sum_cons
def a09:=@PySem.Calls.spliced_nil
def a1a:=@Option.isSome_map
def a1b:=@Nat.le_of_succ_le
def a1c:=@Nat.lt_succ_of_lt
def a1d:=@PySem.wpAny_pyIter_dict
def a1e:=@PySem.wpAny_load
def a1f:=@List.pairwise_iff_getElem
def a1g:=@List.mem_or_eq_of_mem_set
def a1h:=@Iff.rfl
def a1i:=@PySem.W.mg_of
def a1j:=@PySem.call_meetsIn
def a1k:=@PySem.W.looks_findIn
def a1l:=@PySem.wpAny_comprehension_free
def a1m:=@PySem.SeqAt.RcAt.lists_lengths
def a1n:=@PySem.F.slot_list_append
def a1o:=@PySem.F.type_list_append
def a1p:=@PySem.F.args_list_init_2
def a1q:=@Nat.succ_lt_succ
def a1r:=@PyProof.Rows.KeyOrd.kle_trans
def a1s:=@PyProof.Rows.KeyOrd.klt_asymm
def a1t:=@List.cons_append
def a1u:=@List.eq_of_mem_replicate
def a1v:=@List.set_set
def a1w:=@PySem.F.args_dict_get_3
def a1x:=@PySem.F.typeCall_list_1
def a1y:=@PySem.F.entry_list_init
def a1z:=@PySem.F.plain_list_iadd
def a1A:=@List.of_mem_zip
def a1B:=@PySem.SeqAt.EqAt.same
def a1C:=@PySem.pushCells_keeps
def a1D:=@PySem.W.cellsFrom_some
def a1E:=@PyProof.Rows.subscriptTail_builtinR
def a1F:=@PySem.F.entry_dict_get
def a1G:=@PySem.W.looks_mroIn
def a1H:=@PyProof.Rows.boot_list
def a1I:=@PySem.AutoSeq1.sub_list_list
def a1J:=@PySem.wpAny_setField
def a1K:=@PySem.isSubtype_type
def a1L:=@PySem.callType_codes
def a1M:=@List.take_succ
def a1N:=@List.countP_mono_left
def a1O:=@Array.mem_toList_iff
def a1P:=@PySem.Around.frames_deeper
def a1Q:=@PySem.Calls.evalArgs_plain
def a1R:=@PySem.call_meets
def a1S:=@Bool.and_eq_true_iff
def a1T:=@PySem.F.slot_list_eq
def a1U:=@PySem.F.slot_list_ne
def a1V:=@List.mem_iff_getElem
def a1W:=@List.filter_eq_self
def a1X:=@PySem.F.called_list
def a1Y:=@List.length_reverse
def a1Z:=@List.toList_toArray
def a10:=@Int.toNat_of_nonneg
def a11:=@List.getElem_of_mem
def a12:=@PySem.SeqAt.EqAt.int_str
def a13:=@PySem.SeqAt.EqAt.str_int
def a14:=@List.mem_filterMap
def a15:=@Array.find?_toList
def a16:=@PySem.W.callWith_K
def a17:=@PySem.wpAny_evalAll_cons
def a18:=@PySem.seqIndex_neg
def a19:=@PySem.Code.quiet_builtin
def a2a:=@Nat.le_of_eq
def a2b:=@PySem.wpAny_mkText
def a2c:=@Array.forIn_toList
def a2d:=@List.set_cons_succ
def a2e:=@Int.emod_lt_of_pos
def a2f:=@Int.natCast_nonneg
def a2g:=@List.map_set
def a2h:=@Sum.inl.inj
def a2i:=@Sum.inr.inj
def a2j:=@PySem.seqIndex_of
def a2k:=@PySem.W.looks_clsIn
def a2l:=@PySem.ItemsOf.nil
def a2m:=@PySem.wpAny_throw
def a2n:=@Int.le_refl
section
open PySem PySem.Spec PyProof.Rows PySem.W
abbrev B_:=(Value->Shared->Prop)
abbrev Ca:=(List (Addr×Obj))
abbrev Cb:=List Nat
abbrev Cc:=(Str->Option Value)
abbrev Cd:=(Addr->Prop)
abbrev Ce:=Shared
abbrev Cg:=List Value
abbrev Ci:=List Expr
abbrev Cj:=List Bool
abbrev Cm:=(Nat->Addr)
abbrev Cn:=List Str
abbrev Co:=Expr
abbrev Cq:=Program
abbrev Cr:=PySem.W.Frag
abbrev Ct:=List (Option Nat)
abbrev Cv:=World
abbrev Cz:=Around
abbrev CA:=FuncData
abbrev CB:=Array (Option Value)
abbrev CC:=List Int
abbrev CF:=(List (Str×Addr))
abbrev CG:=Array Value
abbrev CH:=Option Addr
abbrev CM:=List Addr
abbrev CN:=(List (Str×NameKind))
abbrev CO:=Frag
abbrev CQ:=List Stmt
abbrev CU:=Option Int
abbrev CV:=Stmt
abbrev CW:=(List (Str×Value))
abbrev CY:=Array Nat
abbrev CZ:=W.Frag
abbrev C_:=(Nat->Nat->Bool)
abbrev De:=(Str->Option NameKind)
abbrev Dj:=Option Expr
abbrev Dk:=(Value->Option Bool)
abbrev Dl:=(Nat->Prop)
abbrev Dm:=(Nat->Value)
abbrev Dq:=(Nat->Bool)
end
abbrev Dt:List Nat:=[0,0,0,0,0,0,0,0,0,0,0]
namespace L2
open PySem PySem.Spec PyProof.Rows
abbrev Key:=Sum Int Str
abbrev Cp:=List Key
abbrev Cs:=(List (Key×Key))
abbrev CK:=List (List Key)
abbrev CS:=(Key->Int)
abbrev CT:=Key
abbrev Dd:=(List (Key×Value))
abbrev Dg:=(List (Key×Int))
abbrev Dp:=(Nat->Key)
def Xj:Key->Value->Bool
 |.inl k,v=>Value.isInt k v
 |.inr x,v=>Value.isStrOf x v
def By(w:Cv):Key->Int
 |.inl k=>hashInt k
 |.inr x=>hashStr w x
def zO:∀{k:CT}{v:Value},Xj k v=true->(∃i t,k=Sum.inl i/\v=Value.int i t)\/(∃x t,k=Sum.inr x/\v=Value.str x t)
 |.inl i,v,h=>by obtain⟨t,e⟩:=Value.isInt_shape (k:=i) (v:=v) h;exact .inl ⟨i,t,rfl,e⟩
 |.inr x,v,h=>by obtain⟨t,e⟩:=Value.isStrOf_shape (x:=x) (v:=v) h;exact .inr ⟨x,t,rfl,e⟩
def bM(i:Int)(t:Tok):Xj (.inl i) (.int i t)=true:=by simp[Xj,Value.isInt]
def bN(x:Str)(t:Tok):Xj (.inr x) (.str x t)=true:=by simp[Xj,Value.isStrOf]
def rh(a b:Int):decide ((Sum.inl a:Key)=Sum.inl b)=(a==b):=by
 by_cases e:a=b
 .subst e;simp
 .have h:¬(Sum.inl a:Key)=Sum.inl b:=λq=>e (a2h q);rw[G5 h];exact(O2.mpr e).symm
def rj(a b:Str):decide ((Sum.inr a:Key)=Sum.inr b)=decide (a=b):=by
 by_cases e:a=b
 .subst e;simp
 .have h:¬(Sum.inr a:Key)=Sum.inr b:=λq=>e (a2i q);rw[G5 h,G5 e]
def rn(a:Int)(b:Str):decide ((Sum.inl a:Key)=Sum.inr b)=false:=G5 (λq=>nomatch q)
def rq(a:Str)(b:Int):decide ((Sum.inr a:Key)=Sum.inl b)=false:=G5 (λq=>nomatch q)
def z7(prog:Cq)(w:Cv):PySem.KeyKind prog w Key where
 is:=Xj
 hash:=By w
 inj:=λv a b ha hb=>by
  rcases zO ha with⟨i,t,rfl,rfl⟩|⟨x,t,rfl,rfl⟩
  .rcases zO hb with⟨j,u,rfl,e⟩|⟨y,u,rfl,e⟩
   .injection e with e1 _;rw[e1]
   .exact nomatch e
  .rcases zO hb with⟨j,u,rfl,e⟩|⟨y,u,rfl,e⟩
   .exact nomatch e
   .injection e with e1 _;rw[e1]
 byValue:=λk v h=>by rcases zO h with⟨i,t,rfl,rfl⟩|⟨x,t,rfl,rfl⟩<;>rfl
 pyHash:=λhv h=>by
  rcases zO hv with⟨i,t,rfl,rfl⟩|⟨x,t,rfl,rfl⟩
  .exact wpAny_pyHash_int h
  .exact wpAny_pyHash_str h
 eqBool:=λhu hv h=>by
  rcases zO hu with⟨i,t,rfl,rfl⟩|⟨x,t,rfl,rfl⟩
  .rcases zO hv with⟨j,u,rfl,rfl⟩|⟨y,u,rfl,rfl⟩
   .rw[rh]at h;exact wpAny_eqBool_int h
   .rw[rn]at h;exact a12 i t y u _ _ _ _ h
  .rcases zO hv with⟨j,u,rfl,rfl⟩|⟨y,u,rfl,rfl⟩
   .rw[rq]at h;exact a13 x t j u _ _ _ _ h
   .rw[rj]at h;exact wpAny_eqBool_str h
 «strs»:=λk x t v h=>by
  rcases zO h with⟨i,u,rfl,e⟩|⟨y,u,rfl,e⟩
  .exact nomatch e
  .injection e with e1 _
   subst e1;cases v<;>rfl
def Kx(prog:Cq)(w:Cv)(k:CT)(v:Value):(z7 prog w).is k v=Xj k v:=rfl
def Xk(prog:Cq)(w:Cv)(i:Int)(t:Tok):(z7 prog w).is (.inl i) (.int i t)=true:=bM i t
def Xl(prog:Cq)(w:Cv)(x:Str)(t:Tok):(z7 prog w).is (.inr x) (.str x t)=true:=bN x t
inductive V where
 |non|bl (b:Bool)|int (i:Int)|str (x:Str)|byt (b:Array UInt8)|flt (b:UInt64)|ref (a:Addr)|ty (n:String)
abbrev Cf:=(List (Key×V))
abbrev Ck:=List V
abbrev CP:=(List (Str×V))
abbrev Dh:=(List (List Key×V))
def RelV:V->Value->Prop
 |.non,u=>u=Value.none
 |.bl b,u=>u=Value.bool b
 |.int i,u=>∃t,u=Value.int i t
 |.str x,u=>∃t,u=Value.str x t
 |.byt b,u=>∃t,u=Value.bytes b t
 |.flt b,u=>∃t,u=Value.float b t
 |.ref a,u=>u=Value.ref a
 |.ty n,u=>u=Value.type n
abbrev Vals:List V->List Value->Prop:=Paired RelV
def Vals.length(r:Vals xs us):xs.length=us.length:=N9 r
def Vals.get:∀{xs:Ck}{us:Cg}{i:Nat}{x:V},Vals xs us->xs[i]?=some x->∃u,us[i]?=some u/\RelV x u
 |_,_,_,_,.nil,e=>by simp at e
 |_,_,0,_,.cons r _,e=>by simp at e;subst e;exact⟨_,rfl,r⟩
 |_,_,i+1,x,.cons _ t,e=>by obtain⟨u,h1,h2⟩:=Vals.get (i:=i) (x:=x) t (by simpa using e);exact⟨u,by simpa using h1,h2⟩
def Vals.set{x:V}{u:Value}(r:RelV x u):∀{xs:Ck}{us:Cg}(i:Nat),Vals xs us->Vals (xs.set i x) (us.set i u)
 |_,_,_,.nil=>.nil
 |_,_,0,.cons _ t=>.cons r t
 |_,_,i+1,.cons q t=>.cons q (Vals.set r i t)
def Vals.append:∀{xs ys:Ck}{us ws:Cg},Vals xs us->Vals ys ws->Vals (xs++ys) (us++ws)
 |_,_,_,_,.nil,s=>s
 |_,_,_,_,.cons r t,s=>.cons r (Vals.append t s)
def Vals.take:∀{xs:Ck}{us:Cg}(n:Nat),Vals xs us->Vals (xs.take n) (us.take n)
 |_,_,0,_=>.nil
 |_,_,_+1,.nil=>.nil
 |_,_,n+1,.cons r t=>.cons r (Vals.take n t)
def Vals.drop:∀{xs:Ck}{us:Cg}(n:Nat),Vals xs us->Vals (xs.drop n) (us.drop n)
 |_,_,0,r=>r
 |_,_,_+1,.nil=>.nil
 |_,_,n+1,.cons _ t=>Vals.drop n t
def K4:Option V->Option Value->Prop
 |some v,some u=>RelV v u
 |none,none=>True
 |_,_=>False
def KV{κ:Type}:List (κ×V)->List (κ×Value)->Prop:=Paired λ(p:κ×V) (q:κ×Value)=>p.1=q.1/\RelV p.2 q.2
def kV:Key->V
 |.inl i=>.int i
 |.inr x=>.str x
inductive HO where
 |lst (xs:Ck)
 |tup (xs:Ck)
 |dK (kvs:Cf)|dT (kvs:Dh)
 |set (S:Int->Bool) (n:Nat)
 |ins (C dx:Addr) (fs:CP)
 |own (x:Addr)
 |xd (fs:CP)
 |met (f x:Addr)
 |rng (lo hi:Int)
 |frz (o:Obj) (u:HO)
 |tbl (ps:CG)
 |ext (φ:Heap->Prop)
abbrev Hp:=Addr->Option HO
def upd(H:Hp)(a:Addr)(o:HO):Hp:=λb=>if b=a then some o else H b
def zb:upd H a o a=some o:=by unfold upd;rw[if_pos rfl]
def zc(h:b≠a):upd H a o b=H b:=by unfold upd;rw[if_neg h]
def YW:upd (upd H a o) a u=upd H a u:=by
 funext b;unfold upd;split<;>rfl
def xC{H:Hp}{a b:Addr}{o u:HO}(h:H a=some o)(h':H b=some u)(d:o≠u):a≠b:=by intro e;subst e;rw[h]at h';exact d (G9 h')
def yC{H:Hp}{a b:Addr}{o:HO}(h:H a=some o)(h':H b=none):a≠b:=by intro e;subst e;rw[h]at h';cases h'
section
variable (P:Cq) (w:Cv)
def yk(H:Hp)(h:Heap)(a:Addr):HO->Prop
 |.lst xs=>xs.length<=sizeLine/\∃(its:Cg)(n:Nat),Vals xs its/\h.get? a=some { cls:=.type "list",data:=.seq its.toArray n }
 |.tup xs=>xs.length<=sizeLine/\∃its:List Value,Vals xs its/\IsTup h a its.toArray
 |.dK kvs=>kvs.length<=sizeLine/\(a==sysModules)=false/\∃vs,KV kvs vs/\h.DictOf (z7 P w) a vs
 |.dT kvs=>kvs.length<=sizeLine/\(a==sysModules)=false/\∃xs:List (List Key×Addr×Value),
   Paired (λ(p:List Key×V) (q:List Key×Addr×Value)=>p.1=q.1/\H q.2.1=some (.tup (p.1.map kV))/\RelV p.2 q.2.2) kvs xs/\
   ∃o es ep,h.get? a=some o/\o.ExactDict/\o.data=.dict es ep/\es.toList=xs.map (entryOfKey (tupleKind (z7 P w)))/\(xs.map (·.1)).Nodup
 |.set S n=>h.SetOf (intKind P w) a S n
 |.ins C dx fs=>H dx=some (.own a)/\fs.length<=1000/\dx≠a/\h.get? a=some (PySem.W.instObj C dx)/\
   ∃mA,h.Ns1 dx mA/\(∀f,K4 (fs.lookup f) (mA f))/\PySem.Within mA (fs.map (·.1))
 |.own _=>∃o,h.get? a=some o
 |.xd fs=>∃mA,h.Ns1 a mA/\∀f,K4 (fs.lookup f) (mA f)
 |.rng lo hi=>∃t u v,h.get? a=some { cls:=.type "range",data:=.fields #[.int lo t,.int hi u,.int 1 v] }
 |.frz o u=>h.get? a=some o/\yk H h a u
 |.tbl ps=>h.get? a=some { cls:=.none,data:=.fields ps }
 |.met f x=>h.get? a=some (PySem.W.methodObj (.ref f) (.ref x))
 |.ext φ=>φ h/\(∃o,h.get? a=some o)/\∀h1 h2:Heap,φ h1->(∀o,h1.get? a=some o->h2.get? a=some o)->φ h2
def HOk(H:Hp)(h:Heap):Prop:=∀a o,H a=some o->yk P w H h a o
end
section
variable {P:Cq}{w:Cv}{H H':Hp}{h h':Heap}{a:Addr}{o:HO}
def yk.lt(x:yk P w H h a o):a<h.objs.size:=by
 cases o with
 |lst xs=>obtain⟨_,_,_,_,e⟩:=x;exact C0 e
 |tup xs=>obtain⟨_,_,_,p⟩:=x;exact p.lt
 |dK kvs=>obtain⟨_,_,_,_,o,_,_,e,_⟩:=x;exact C0 e
 |dT kvs=>obtain⟨_,_,_,_,o,_,_,e,_⟩:=x;exact C0 e
 |set S n=>obtain⟨o,_,_,_,e,_⟩:=x;exact C0 e
 |ins C dx fs=>obtain⟨_,_,_,e,_⟩:=x;exact C0 e
 |own y=>obtain⟨_,e⟩:=x;exact C0 e
 |xd fs=>obtain⟨_,⟨_,_,_,e,_⟩,_⟩:=x;exact C0 e
 |rng lo hi=>obtain⟨_,_,_,e⟩:=x;exact C0 e
 |frz ob u=>obtain⟨e,_⟩:=x;exact C0 e
 |tbl ps=>exact C0 (show h.get? a=some _ from x)
 |met f y=>exact C0 (show h.get? a=some _ from x)
 |ext φ=>obtain⟨_,⟨_,e⟩,_⟩:=x;exact C0 e
def Paired.xD{α β:Type}{F G:α->β->Prop}:∀{l₁:List α}{l₂:List β},Paired F l₁ l₂->(∀a b,F a b->G a b)->Paired G l₁ l₂
 |_,_,.nil,_=>.nil
 |_,_,.cons r t,f=>.cons (f _ _ r) (Paired.xD t f)
def yk.fP(x:yk P w H h a o)(k:∀b u,(b=a\/H b=some (.own a))->h.get? b=some u->h'.get? b=some u)
  (ho:∀b,H b=some (.own a)->H' b=some (.own a)) (ht:∀b xs,H b=some (.tup xs)->H' b=some (.tup xs)):yk P w H' h' a o:=by
 induction o with
 |lst xs=>obtain⟨z,its,n,r,e⟩:=x;exact⟨z,its,n,r,k _ _ (.inl rfl) e⟩
 |tup xs=>obtain⟨z,its,r,ob,e,c⟩:=x;exact⟨z,its,r,ob,k _ _ (.inl rfl) e,c⟩
 |dK kvs=>obtain⟨z,y,vs,r,ob,es,ep,e,c⟩:=x;exact⟨z,y,vs,r,ob,es,ep,k _ _ (.inl rfl) e,c⟩
 |dT kvs=>obtain⟨z,y,xs,r,ob,es,ep,e,c⟩:=x;exact⟨z,y,xs,Paired.xD r λp q z=>⟨z.1,ht _ _ z.2.1,z.2.2⟩,ob,es,ep,k _ _ (.inl rfl) e,c⟩
 |set S n=>obtain⟨ob,es,ep,t,e,c⟩:=x;exact⟨ob,es,ep,t,k _ _ (.inl rfl) e,c⟩
 |ins C dx fs=>obtain⟨d,z,ne,e,mA,⟨od,es,ep,e2,c⟩,r⟩:=x;exact⟨ho _ d,z,ne,k _ _ (.inl rfl) e,mA,⟨od,es,ep,k _ _ (.inr d) e2,c⟩,r⟩
 |own y=>obtain⟨ob,e⟩:=x;exact⟨ob,k _ _ (.inl rfl) e⟩
 |xd fs=>obtain⟨mA,⟨od,es,ep,e,c⟩,r⟩:=x;exact⟨mA,⟨od,es,ep,k _ _ (.inl rfl) e,c⟩,r⟩
 |rng lo hi=>obtain⟨t,u,v,e⟩:=x;exact⟨t,u,v,k _ _ (.inl rfl) e⟩
 |frz ob u ih=>obtain⟨e,q⟩:=x;exact⟨k _ _ (.inl rfl) e,ih q⟩
 |tbl ps=>have e:h.get? a=some { cls:=.none,data:=.fields ps }:=x;show h'.get? a=some { cls:=.none,data:=.fields ps };exact k a _ (.inl rfl) e
 |met f y=>have e:h.get? a=some (PySem.W.methodObj (.ref f) (.ref y)):=x;show h'.get? a=some (PySem.W.methodObj (.ref f) (.ref y));exact k a _ (.inl rfl) e
 |ext φ=>obtain⟨p,⟨o,e⟩,st⟩:=x;exact⟨st _ _ p λo q=>k _ _ (.inl rfl) q,⟨o,k _ _ (.inl rfl) e⟩,st⟩
def HOk.lt(x:HOk P w H h)(e:H a=some o):a<h.objs.size:=(x a o e).lt
def HOk.fresh(x:HOk P w H h)(e:h.objs.size<=a):H a=none:=by
 cases q:H a with
 |none=>rfl
 |some u=>exact absurd (D0 (x.lt q) e) (M8 _)
def HOk.kept(x:HOk P w H h)(k:∀b u,h.get? b=some u->h'.get? b=some u):HOk P w H h':=λa o e=>
 (x a o e).fP (λb u _ q=>k b u q) (λ_ q=>q) λ_ _ q=>q
def HOk.laid(x:HOk P w H h)(k:∀b u,h.get? b=some u->h'.get? b=some u)(hp:h.objs.size<=a)(new:yk P w (upd H a o) h' a o):HOk P w (upd H a o) h':=λb u e=>by
 have hn:=x.fresh hp;by_cases hb:b=a
 .subst hb;rw[zb]at e;cases e;exact new
 .rw[zc hb]at e;exact(x b u e).fP (λc v _ q=>k c v q) (λc q=>by rw[zc (yC q hn)];exact q) λc xs q=>by rw[zc (yC q hn)];exact q
end
def Rd(H:Hp)(a:Addr)(u:HO):Prop:=H a=some u\/∃o,H a=some (.frz o u)
def Rd.ok(r:Rd H a u)(x:HOk P w H h):yk P w H h a u:=by
 rcases r with r|⟨o,r⟩
 .exact x a u r
 .obtain⟨_,q⟩:=x a _ r;exact q
def Mut:Option HO->Prop
 |some (.lst _)=>True
 |some (.dK _)=>True
 |some (.dT _)=>True
 |some (.set _ _)=>True
 |some (.ins _ _ _)=>True
 |some (.ext _)=>True
 |_=>False
def HOk.write(ok:HOk P w H h)(mu:Mut (H x))(he:e=x\/H e=some (.own x))(k:∀b u,b≠e->h.get? b=some u->h'.get? b=some u)(heo:∃u,h'.get? e=some u)
  (new:yk P w (upd H x o') h' x o'):HOk P w (upd H x o') h':=λb u q=>by
 have nown:∀c y,H c=some (.own y)->c≠x:=λc y r z=>by subst z;rw[r]at mu;exact mu
 have ntup:∀c xs,H c=some (.tup xs)->c≠x:=λc xs r z=>by subst z;rw[r]at mu;exact mu
 by_cases hb:b=x
 .subst hb;rw[zb]at q;cases q;exact new
 .rw[zc hb]at q;by_cases hbe:b=e
  .have q':H b=some (.own x):=by
    rcases he with z|z
    .exact absurd (hbe.trans z) hb
    .rw[hbe];exact z
   rw[q]at q';cases q';obtain⟨v,hv⟩:=heo;exact⟨v,by rw[hbe];exact hv⟩
  .refine(ok b u q).fP (λc v hc r=>k c v ?_ r) (λc r=>by rw[zc (nown c b r)];exact r) λc xs r=>by rw[zc (ntup c xs r)];exact r
   rcases hc with rfl|hc
   .exact hbe
   .rintro rfl
    rcases he with z|z
    .exact nown c b hc z
    .rw[hc]at z;cases z;exact hb rfl
structure Un(fs ex:CM)(H H':Hp)(h h':Heap):Prop where
 keep:∀b o,h.get? b=some o->H b=none->b∉fs->b∉ex->h'.get? b=some o
 slot:∀b o,h.get? b=some o->H b=none->b∈fs->b∉ex->∃sl,h'.get? b=some { o with slots:=sl }
 free:∀b o,h.get? b=some o->H b=none->b∉ex->H' b=none
 there:∀b o,h.get? b=some o->b∉ex->∃o',h'.get? b=some o'
 iX:∀b xs,H b=some (.tup xs)->H' b=some (.tup xs)
 fL:∀b o u,H b=some (.frz o u)->H' b=some (.frz o u)
 f9:∀b ps,H b=some (.tbl ps)->∃more,H' b=some (.tbl (ps++more))
section
variable {fs fs' ex ex':CM}{H H1 H2:Hp}{h h1 h2 h':Heap}{a x e:Addr}{o:HO}
def Un.any(u:Un fs ex H H1 h h1)(q:h.get? b=some ob)(n:H b=none)(hx:b∉ex):∃sl,h1.get? b=some { ob with slots:=sl }:=by
 by_cases hb:b∈fs
 .exact u.slot b ob q n hb hx
 .exact⟨ob.slots,u.keep b ob q n hb hx⟩
def Un.kept(k:∀b u,h.get? b=some u->h'.get? b=some u):Un fs ex H H h h':=
 ⟨λb ob q _ _ _=>k b ob q,λb ob q _ _ _=>⟨ob.slots,k b ob q⟩,λ_ _ _ n _=>n,λb ob q _=>⟨ob,k b ob q⟩,λ_ _ q=>q,λ_ _ _ q=>q,λ_ ps q=>⟨#[],by rw[q];simp⟩⟩
def Un.refl:Un fs ex H H h h:=Un.kept λ_ _ q=>q
def Un.laid(k:∀b u,h.get? b=some u->h'.get? b=some u)(hp:h.objs.size<=a)(hn:H a=none):Un fs ex H (upd H a o) h h' where
 keep:=λb u q _ _ _=>k b u q
 slot:=λb u q _ _ _=>⟨u.slots,k b u q⟩
 free:=λb u q n _=>by rw[zc (D2 (D0 (C0 q) hp))];exact n
 there:=λb u q _=>⟨u,k b u q⟩
 iX:=λb xs q=>by rw[zc (yC q hn)];exact q
 fL:=λb u xs q=>by rw[zc (yC q hn)];exact q
 f9:=λb ps q=>⟨#[],by rw[zc (yC q hn),q];simp⟩
def Un.write(mu:Mut (H x))(he:e=x\/H e=some (.own x))(k:∀b u,b≠e->h.get? b=some u->h'.get? b=some u)(heo:∃u,h'.get? e=some u):Un fs ex H (upd H x o) h h':=by
 have hx:∀b,H b=none->b≠x:=λb n z=>by subst z;rw[n]at mu;exact mu
 have hb:∀b,H b=none->b≠e:=λb n z=>by
  subst z;rcases he with r|r
  .exact hx b n r
  .rw[n]at r;cases r
 have hm:∀b u,H b=some u->¬Mut (some u)->b≠x:=λb u q nm z=>by subst z;rw[q]at mu;exact nm mu
 refine⟨λb u q n _ _=>k b u (hb b n) q,λb u q n _ _=>⟨u.slots,k b u (hb b n) q⟩,λb u q n _=>by rw[zc (hx b n)];exact n,λb u q _=>?_,
  λb xs q=>by rw[zc (hm b _ q λz=>z)];exact q,λb u xs q=>by rw[zc (hm b _ q λz=>z)];exact q,λb ps q=>⟨#[],by rw[zc (hm b _ q λz=>z),q];simp⟩⟩
 by_cases hbe:b=e
 .subst hbe;exact heo
 .exact⟨u,k b u hbe q⟩
end
def trk(h:Heap)(H:Hp):List Addr:=(List.range h.objs.size).filter λa=>(H a).isSome
def fQ(h:Heap)(H:Hp):Heap:=PySem.W.hideAll h (trk h H)
def bO(h:Heap)(H:Hp):(fQ h H).objs.size=h.objs.size:=PySem.W.hideAll_size _ _
def f_(e:h.get? b=some o)(n:H b=none):(fQ h H).get? b=some o:=
 PySem.W.hideAll_get _ e λhm=>by have q:(H b).isSome=true:=(E7.mp hm).2;rw[n]at q;simp at q
def mX(e:(fQ h H).get? b=some o):h.get? b=some o/\H b=none:=by
 have e':h.get? b=some o:=PySem.W.of_hideAll (trk h H) e;refine⟨e',?_⟩;cases q:H b with
 |none=>rfl
 |some x=>have hm:b∈trk h H:=E7.mpr ⟨F6.mpr (C0 e'),by simp[q]⟩;have z:(fQ h H).get? b=none:=PySem.W.hideAll_none (trk h H) hm;rw[z]at e;cases e
structure Mod(K:Cr)(mg:Cc)(base:Heap):Prop where
 kin:K.In base
 glob:base.Ns mainGlobals mg
 blt:∃mb,base.Ns builtinsNs mb/\∀x:Str,x≠"__name__"->mb x=bootBuiltins x
 nolimit:base.NoLimit
structure Cx where
 prog:Program
 w:World
 K:PySem.W.Frag
 mg:Str->Option Value
 base:Heap
 A:Around
 N:List Str
 s₀:Shared
 H₀:Hp
 env:Env
 outer:List Env
 stack:List Env
 ex:List Addr
 fn:Str->Bool
 calm:Bool
 pn:List (Addr×Obj)
 xe:Value->Shared->Prop
abbrev Du(X:Cx):=model X.prog X.w
def frs(l:List Env):List Addr:=l.filterMap (·.frame)
abbrev Cx.fs(X:Cx):List Addr:=frs X.outer
def Vis(sc:Scope)(x:Str):Prop:=sc.names.lookup x=some .local\/sc.names.lookup x=some .cell\/sc.names.lookup x=some .free
def Loc(sc:Scope)(x:Str):Prop:=sc.names.lookup x=some .local\/sc.names.lookup x=some .cell
def Look(env:Env)(h:Heap)(m:Cc)(x:Str)(u:Value):Prop:=
 (env.kindOf x=some .local/\m x=some u)\/((env.kindOf x=some .cell\/env.kindOf x=some .free)/\∃c,env.cells.lookup x=some c/\h.IsCell c (some u))
structure Cx.Ok(X:Cx):Prop where
 mod:Mod X.K X.mg X.base
 kind:X.env.scope.kind=.function
 glob:X.env.globals=mainGlobals
 blt:X.env.builtins=builtinsNs
 above:X.s₀.heap.objs.size<=X.env.locals
 inj:∀x y c,X.env.cells.lookup x=some c->X.env.cells.lookup y=some c->x=y
 has:∀x,(X.env.kindOf x=some .cell\/X.env.kindOf x=some .free)->∃c,X.env.cells.lookup x=some c
 cab:∀x c,X.fn x=true->X.env.cells.lookup x=some c->X.s₀.heap.objs.size<=c
 hd:X.calm=true->X.A.handled=none
 frames:X.A.frames=some X.stack
 stk:X.stack=X.outer\/(X.stack=X.env::X.outer/\X.env.frame=some X.env.locals)
 exf:∀b∈X.ex,b≠X.env.locals/\∀x c,X.env.cells.lookup x=some c->c≠b
 bs:∀b o,X.base.get? b=some o->X.s₀.heap.get? b=some o/\X.H₀ b=none
 bsz:X.base.objs.size<=X.s₀.heap.objs.size
 xg:∀b o,X.base.get? b=some o->b∉X.ex
 xh:∀b∈X.ex,b∉X.fs
 Xm:X.s₀.heap.FunFrames X.base X.outer
 frf:∀b∈X.fs,X.H₀ b=none
structure Inv(X:Cx)(pins:Ca)(σ:List (Option V))(H:Hp)(s:Ce):Prop where
 ok:X.Ok
 os:s.os=X.s₀.os
 bare:AllBare s.gens
 base:Un X.fs X.ex X.H₀ H X.s₀.heap s.heap
 loc:∃m,s.heap.Ns X.env.locals m/\∀(i:Nat)(x:Str)(v:V),X.N[i]?=some x->σ[i]?=some (some v)->Vis X.env.scope x->∃u,RelV v u/\Look X.env s.heap m x u
 cell:∀x c,X.env.cells.lookup x=some c->∃v,s.heap.IsCell c v
 free:H X.env.locals=none
 Qq:∀x c,X.env.cells.lookup x=some c->H c=none
 pin:∀p∈X.pn++pins,s.heap.get? p.1=some p.2/\H p.1=none/\p.1≠X.env.locals/\p.1∉X.fs/\∀v,p.2.data≠.cell v
 hok:HOk X.prog X.w H s.heap
 len:σ.length=X.N.length
section
variable {X:Cx}{pins:Ca}{σ:List (Option V)}{H H':Hp}{s:Ce}{h':Heap}
def Cx.Ok.Bz(ok:X.Ok)(e:X.base.get? b=some o):b∉X.fs:=λhb=>by have:=(ok.Xm.mem hb).1;rw[e]at this;cases this
def Inv.bs(I:Inv X pins σ H s):∀b o,X.base.get? b=some o->s.heap.get? b=some o/\H b=none:=λb o e=>
 ⟨I.base.keep b o (I.ok.bs b o e).1 (I.ok.bs b o e).2 (I.ok.Bz e) (I.ok.xg b o e),I.base.free b o (I.ok.bs b o e).1 (I.ok.bs b o e).2 (I.ok.xg b o e)⟩
def Inv.bk(I:Inv X pins σ H s):∀b o,X.base.get? b=some o->s.heap.get? b=some o:=λb o e=>(I.bs b o e).1
def Inv.mod(I:Inv X pins σ H s):Mod X.K X.mg X.base:=I.ok.mod
def Inv.kIn(I:Inv X pins σ H s):X.K.In s.heap:=I.ok.mod.kin.keeps I.bk
def Inv.lt(I:Inv X pins σ H s):X.env.locals<s.heap.objs.size:=let⟨_,hn,_⟩:=I.loc;hn.lt
def Inv.sz(I:Inv X pins σ H s):X.s₀.heap.objs.size<=s.heap.objs.size:=E3 I.ok.above (a0a I.lt)
def Inv.AY(I:Inv X pins σ H s)(h:s.heap.objs.size<=a):a∉X.fs:=λhb=>by obtain⟨_,o,ho,_⟩:=I.ok.Xm.mem hb;exact absurd (D0 (C0 ho) (E3 I.sz h)) (M8 _)
def Inv.cne(I:Inv X pins σ H s):∀x c,X.env.cells.lookup x=some c->c≠X.env.locals:=λx c e z=>by obtain⟨v,o,ho,hd⟩:=I.cell x c e;obtain⟨m,⟨o',es,ep,ho',hd',_⟩,_⟩:=I.loc;rw[z,ho']at ho;cases ho;rw[hd']at hd;cases hd
def Inv.Xm(I:Inv X pins σ H s):s.heap.FunFrames X.base X.outer:=by
 have all:∀(l:List Env),(∀b∈frs l,b∈X.fs)->X.s₀.heap.FunFrames X.base l->s.heap.FunFrames X.base l:=by
  intro l
  induction l with
  |nil=>intro _ _;trivial
  |cons env r ih=>intro hs hl;obtain⟨hk,⟨L,o,hf,hn,ho,hd⟩,hr⟩:=hl;have hL:L∈X.fs:=hs L (by unfold frs;rw[a0k,hf];exact B3);obtain⟨sl,e⟩:=I.base.slot L o ho (I.ok.frf L hL) hL λz=>I.ok.xh L z hL;exact⟨hk,⟨L,_,hf,hn,e,hd⟩,ih (λb hb=>hs b (by unfold frs;rw[a0k,hf];exact B4 _ hb)) hr⟩
 exact all X.outer (λ_ hb=>hb) I.ok.Xm
def Inv.stack(I:Inv X pins σ H s):s.heap.FunFrames X.base X.stack:=by
 rcases I.ok.stk with e|⟨e,hf⟩
 .rw[e];exact I.Xm
 .rw[e];obtain⟨m,hn,_⟩:=I.loc;refine .cons (by rw[I.ok.kind];decide) hf hn ?_ I.Xm;exact Heap.get?_none_of_le (E3 I.ok.bsz I.ok.above)
def Inv.Ky(I:Inv X pins σ H s):∀b∈frs X.stack,b∈X.env.locals::X.fs:=λb hb=>by
 rcases I.ok.stk with e|⟨e,hf⟩
 .rw[e]at hb;exact B4 _ hb
 .rw[e]at hb;unfold frs at hb;rw[a0k,hf]at hb;exact hb
def Inv.K5(I:Inv X pins σ H s):∀b∈frs X.stack,H b=none:=λb hb=>by
 rcases C5.mp (I.Ky b hb)with e|hb
 .rw[e];exact I.free
 .obtain⟨_,o,ho,_⟩:=I.ok.Xm.mem hb;exact I.base.free b o ho (I.ok.frf b hb) λz=>I.ok.xh b z hb
def Inv.step{g':Array GenState}{t':Nat}{d':Drawn}{ch:CM}(I:Inv X pins σ H s)
  (hch:∀b∈ch,(b∈X.ex\/X.s₀.heap.objs.size<=b)/\b≠X.env.locals/\(∀x c,X.env.cells.lookup x=some c->c≠b)/\∀p∈X.pn++pins,p.1≠b)
  (keep:∀b o,b≠X.env.locals->b∉X.fs->b∉ch->s.heap.get? b=some o->H b=none->h'.get? b=some o)
  (slot:∀b o,b≠X.env.locals->b∈X.fs->b∉ch->s.heap.get? b=some o->H b=none->∃sl,h'.get? b=some { o with slots:=sl }) (free:∀b o,b∉ch->s.heap.get? b=some o->H b=none->H' b=none)
  (there:∀b o,b∉ch->s.heap.get? b=some o->∃o',h'.get? b=some o')
  (iX:∀b xs,H b=some (.tup xs)->H' b=some (.tup xs)) (fL:∀b o u,H b=some (.frz o u)->H' b=some (.frz o u)) (f9:∀b ps,H b=some (.tbl ps)->∃more,H' b=some (.tbl (ps++more)))
  (ns:∀m,s.heap.Ns X.env.locals m->h'.Ns X.env.locals m) (hok:HOk X.prog X.w H' h') (hg:AllBare g'):
  Inv X pins σ H' { s with heap:=h',gens:=g',drawn:=d',toks:=t' }:=by
 have neL:∀b o,X.s₀.heap.get? b=some o->b≠X.env.locals:=λb o e=>D2 (D0 (C0 e) I.ok.above);have neC:∀b o,X.s₀.heap.get? b=some o->b∉X.ex->b∉ch:=λb o e hx hb=>by
  rcases(hch b hb).1 with z|z
  .exact hx z
  .exact absurd (D0 (C0 e) z) (M8 _)
 have cellK:∀x c,X.env.cells.lookup x=some c->∀v,s.heap.IsCell c v->h'.IsCell c v:=λx c e v ⟨o,ho,hd⟩=>by
  have nch:c∉ch:=λz=>(hch c z).2.2.1 x c e rfl;by_cases hc:c∈X.fs
  .obtain⟨sl,q⟩:=slot c o (I.cne x c e) hc nch ho (I.Qq x c e);exact⟨_,q,hd⟩
  .exact⟨o,keep c o (I.cne x c e) hc nch ho (I.Qq x c e),hd⟩
 refine⟨I.ok,I.os,hg,⟨λb o e n hb hx=>?_,λb o e n hb hx=>?_,λb o e n hx=>?_,λb o e hx=>?_,λb xs e=>iX b xs (I.base.iX b xs e),λb o xs e=>fL b o xs (I.base.fL b o xs e),λb ps e=>?_⟩,?_,λx c e=>?_,?_,λx c e=>?_,λp hp=>?_,hok,I.len⟩
 .exact keep b o (neL b o e) hb (neC b o e hx) (I.base.keep b o e n hb hx) (I.base.free b o e n hx)
 .obtain⟨sl,e1⟩:=I.base.slot b o e n hb hx;obtain⟨sl',e2⟩:=slot b _ (neL b o e) hb (neC b o e hx) e1 (I.base.free b o e n hx);exact⟨sl',e2⟩
 .obtain⟨o',e1⟩:=I.base.there b o e hx;exact free b o' (neC b o e hx) e1 (I.base.free b o e n hx)
 .obtain⟨o',e1⟩:=I.base.there b o e hx;exact there b o' (neC b o e hx) e1
 .obtain⟨m1,e1⟩:=I.base.f9 b ps e;obtain⟨m2,e2⟩:=f9 b _ e1;exact⟨m1++m2,by rw[e2,Array.append_assoc]⟩
 .obtain⟨m,hn,hl⟩:=I.loc;refine⟨m,ns m hn,λi x v e1 e2 e3=>?_⟩;obtain⟨u,r,l⟩:=hl i x v e1 e2 e3;refine⟨u,r,?_⟩;rcases l with l|⟨k,c,e,z⟩
  .exact .inl l
  .exact .inr ⟨k,c,e,cellK x c e _ z⟩
 .obtain⟨v,z⟩:=I.cell x c e;exact⟨v,cellK x c e v z⟩
 .obtain⟨m,⟨o,_,_,ho,_⟩,_⟩:=I.loc;exact free _ o (λz=>(hch _ z).2.1 rfl) ho I.free
 .obtain⟨v,o,ho,hd⟩:=I.cell x c e;exact free c o (λz=>(hch c z).2.2.1 x c e rfl) ho (I.Qq x c e)
 .obtain⟨e,n,ne,nf,d⟩:=I.pin p hp;have nch:p.1∉ch:=λz=>(hch p.1 z).2.2.2 p hp rfl;exact⟨keep p.1 p.2 ne nf nch e n,free p.1 p.2 nch e n,ne,nf,d⟩
def Inv.un(I:Inv X pins σ H s)(u:Un X.fs [] H H' s.heap h')(hok:HOk X.prog X.w H' h'):Inv X pins σ H' { s with heap:=h',toks:=t' }:=by
 obtain⟨m,⟨o,es,ep,ho,r⟩,_⟩:=id I.loc;obtain⟨sl,hL⟩:=u.any ho I.free (by simp);exact I.step (g':=s.gens) (d':=s.drawn) (ch:=[]) (λ_ z=>nomatch z) (λb o _ hb _ e n=>u.keep b o e n hb (by simp)) (λb o _ hb _ e n=>u.slot b o e n hb (by simp)) (λb o _ e n=>u.free b o e n (by simp)) (λb o _ e=>u.there b o e (by simp)) u.iX u.fL u.f9 (λm' hm=>by
  obtain⟨o',es',ep',ho',r'⟩:=hm;rw[ho]at ho';cases ho';exact⟨_,es',ep',hL,r'⟩) hok I.bare
def Inv.call(I:Inv X pins σ H s)(u:Un (frs X.stack) ch H H' s.heap h')(hok:HOk X.prog X.w H' h')(hg:AllBare g')
  (hch:∀b∈ch,(b∈X.ex\/X.s₀.heap.objs.size<=b)/\b≠X.env.locals/\(∀x c,X.env.cells.lookup x=some c->c≠b)/\∀p∈X.pn++pins,p.1≠b):
  Inv X pins σ H' { s with heap:=h',gens:=g',drawn:=d',toks:=t' }:=by
 obtain⟨m,⟨o,es,ep,ho,r⟩,_⟩:=id I.loc;obtain⟨sl,hL⟩:=u.any ho I.free λz=>(hch _ z).2.1 rfl;exact I.step (ch:=ch) hch (λb o hL hb hc e n=>u.keep b o e n (λz=>(C5.mp (I.Ky b z)).elim hL hb) hc) (λb o _ _ hc e n=>u.any e n hc) (λb o hc e n=>u.free b o e n hc) (λb o hc e=>u.there b o e hc) u.iX u.fL u.f9 (λm' hm=>by
  obtain⟨o',es',ep',ho',r'⟩:=hm;rw[ho]at ho';cases ho';exact⟨_,es',ep',hL,r'⟩) hok hg
def Inv.turned(I:Inv X pins σ H s)(k:∀b o,b≠it->s.heap.get? b=some o->h'.get? b=some o)(hn:H it=none)(hL:it≠X.env.locals)
  (h1:it∈X.ex\/X.s₀.heap.objs.size<=it) (h2:∀x c,X.env.cells.lookup x=some c->c≠it) (h3:∀p∈X.pn++pins,p.1≠it):Inv X pins σ H { s with heap:=h',toks:=t' }:=by
 have nit:∀b u,H b=some u->b≠it:=λb u e z=>by rw[z,hn]at e;cases e
 refine I.step (g':=s.gens) (d':=s.drawn) (ch:=[it]) (λb hb=>?_) (λb o _ _ hc e _=>k b o (λz=>hc (by simp[z])) e) (λb o _ _ hc e _=>⟨o.slots,k b o (λz=>hc (by simp[z])) e⟩) (λ_ _ _ _ n=>n)
  (λb o hc e=>⟨o,k b o (λz=>hc (by simp[z])) e⟩) (λ_ _ e=>e) (λ_ _ _ e=>e) (λb ps e=>⟨#[],by rw[e];simp⟩) (λm hm=>?_) (λb u e=>?_) I.bare
 .have e:b=it:=by simpa using hb
  subst e;exact⟨h1,hL,h2,h3⟩
 .obtain⟨o,es,ep,ho,r⟩:=hm;exact⟨o,es,ep,k _ o (Ne.symm hL) ho,r⟩
 .refine(I.hok b u e).fP (λc v hc q=>k c v ?_ q) (λ_ q=>q) λ_ _ q=>q;rcases hc with z|z
  .rw[z];exact nit b u e
  .exact nit c _ z
def Inv.tok(I:Inv X pins σ H s)(t:Nat):Inv X pins σ H { s with toks:=t }:=I.un (h':=s.heap) (t':=t) Un.refl I.hok
def Inv.kept(I:Inv X pins σ H s)(k:∀b u,s.heap.get? b=some u->h'.get? b=some u):Inv X pins σ H { s with heap:=h',toks:=t' }:=I.un (Un.kept k) (I.hok.kept k)
def Inv.laid(I:Inv X pins σ H s)(k:∀b u,s.heap.get? b=some u->h'.get? b=some u)(hp:s.heap.objs.size<=a)(new:yk X.prog X.w (upd H a o) h' a o):
  Inv X pins σ (upd H a o) { s with heap:=h',toks:=t' }:=I.un (Un.laid k hp (I.hok.fresh hp)) (I.hok.laid k hp new)
def Inv.write(I:Inv X pins σ H s)(mu:Mut (H x))(he:e=x\/H e=some (.own x))(k:∀b u,b≠e->s.heap.get? b=some u->h'.get? b=some u)(heo:∃u,h'.get? e=some u)
  (new:yk X.prog X.w (upd H x o) h' x o):Inv X pins σ (upd H x o) { s with heap:=h',toks:=t' }:=I.un (Un.write mu he k heo) (I.hok.write mu he k heo new)
def Inv.Jf(I:Inv X pins σ H s)(h:∀p∈pins',s.heap.get? p.1=some p.2/\H p.1=none/\p.1≠X.env.locals/\p.1∉X.fs/\∀v,p.2.data≠.cell v):Inv X pins' σ H s:=
 ⟨I.ok,I.os,I.bare,I.base,I.loc,I.cell,I.free,I.Qq,λp hp=>(E9.mp hp).elim (λz=>I.pin p (D7 _ z)) (h p),I.hok,I.len⟩
def Uw{N:Cn}(hN:N.Nodup){i j:Nat}{x:Str}(a:N[i]?=some x)(b:N[j]?=some x):i=j:=by obtain⟨h1,e1⟩:=C4.mp a;obtain⟨h2,e2⟩:=C4.mp b;exact(List.getElem_inj hN).mp (e1.trans e2.symm)
def V5(I:Inv X pins σ H s)(hN:X.N.Nodup)(hi:X.N[i]?=some x)(hx:Loc X.env.scope x)(r:RelV v u)
  (h:∀s',Inv X pins (σ.set i (some v)) H s'->(∃a,Heap.SameBut a s.heap s'.heap/\(a=X.env.locals\/X.env.cells.lookup x=some a))->Q () s') (hf:X.fn x=true\/X.env.scope.names.lookup x=some .local:=by first|exact .inl rfl|exact .inr rfl|assumption):wpAny M A (storeName X.env x u) Q E s:=by
 obtain⟨m,hn,hl⟩:=id I.loc;have hcls:(X.env.scope.kind == .class||(X.env.scope.kind == .module&&X.env.locals != X.env.globals))=false:=by rw[I.ok.kind];rfl
 have hiσ:i<σ.length:=by rw[I.len];exact(C4.mp hi).1
 have cne:=I.cne;have tracked:∀{a:Addr}{h':Heap},(∃o,s.heap.get? a=some o/\H a=none)->Heap.SameBut a s.heap h'->HOk X.prog X.w H h':=λ{a h'} ha hs b ob e=>by
  obtain⟨_,_,hfree⟩:=ha;refine(I.hok b ob e).fP (λc w' hc q=>(hs.2 c ?_).trans q) (λ_ q=>q) λ_ _ q=>q
  rintro rfl
  rcases hc with rfl|hc
  .rw[hfree]at e;cases e
  .rw[hfree]at hc;cases hc
 rcases hx with hk|hk
 .refine wpAny_storeName_local hk hn (λh' hn' hs=>?_) hcls;obtain⟨oL,_,_,hoL,_⟩:=id hn;refine h _ ⟨I.ok,I.os,I.bare,⟨λb o e n hb hx=>?_,λb o e n hb hx=>?_,I.base.free,λb o e hx=>?_,I.base.iX,I.base.fL,I.base.f9⟩,⟨_,hn',λj y v' e1 e2 e3=>?_⟩,λy c e=>?_,I.free,I.Qq,λp hp=>?_,tracked ⟨oL,hoL,I.free⟩ hs,by simpa using I.len⟩ ⟨_,hs,.inl rfl⟩
  .exact(hs.2 b (D2 (D0 (C0 e) I.ok.above))).trans (I.base.keep b o e n hb hx)
  .obtain⟨sl,e1⟩:=I.base.slot b o e n hb hx;exact⟨sl,(hs.2 b (D2 (D0 (C0 e) I.ok.above))).trans e1⟩
  .obtain⟨o',e1⟩:=I.base.there b o e hx;exact⟨o',(hs.2 b (D2 (D0 (C0 e) I.ok.above))).trans e1⟩
  .by_cases hj:j=i
   .subst hj;rw[hi]at e1;cases e1;rw[E4 hiσ]at e2;cases e2;exact⟨u,r,.inl ⟨hk,by simp⟩⟩
   .rw[E5 (Ne.symm hj)]at e2;obtain⟨u',r',q⟩:=hl j y v' e1 e2 e3;refine⟨u',r',?_⟩;rcases q with⟨k,e⟩|⟨k,c,e,z⟩
    .refine .inl ⟨k,?_⟩;have:y≠x:=λe=>hj (Uw hN e1 (e▸hi));simp[this,e]
    .exact .inr ⟨k,c,e,z.sameBut hs (cne y c e)⟩
  .obtain⟨w',z⟩:=I.cell y c e;exact⟨w',z.sameBut hs (cne y c e)⟩
  .obtain⟨e,n,ne,nf,d⟩:=I.pin p hp;exact⟨(hs.2 p.1 ne).trans e,n,ne,nf,d⟩
 .have hfn:X.fn x=true:=by
   rcases hf with z|z
   .exact z
   .rw[z]at hk;cases hk
  obtain⟨c,hc⟩:=I.ok.has x (.inl hk);obtain⟨w',z⟩:=I.cell x c hc;refine wpAny_storeName_cell I.ok.kind hk hc z (λh' hc' hs=>?_);obtain⟨oc,hoc,hocd⟩:=id z;refine h { s with heap:=h' } ⟨I.ok,I.os,I.bare,⟨λb o e n hb hx=>?_,λb o e n hb hx=>?_,I.base.free,λb o e hx=>?_,I.base.iX,I.base.fL,I.base.f9⟩,⟨m,hn.sameBut hs (Ne.symm (cne x c hc)),λj y v' e1 e2 e3=>?_⟩,λy c' e=>?_,I.free,I.Qq,λp hp=>?_,tracked ⟨oc,hoc,I.Qq x c hc⟩ hs,by simpa using I.len⟩ ⟨c,hs,.inr hc⟩
  .exact(hs.2 b (D2 (D0 (C0 e) (I.ok.cab x c hfn hc)))).trans (I.base.keep b o e n hb hx)
  .obtain⟨sl,e1⟩:=I.base.slot b o e n hb hx;exact⟨sl,(hs.2 b (D2 (D0 (C0 e) (I.ok.cab x c hfn hc)))).trans e1⟩
  .obtain⟨o',e1⟩:=I.base.there b o e hx;exact⟨o',(hs.2 b (D2 (D0 (C0 e) (I.ok.cab x c hfn hc)))).trans e1⟩
  .by_cases hj:j=i
   .subst hj;rw[hi]at e1;cases e1;rw[E4 hiσ]at e2;cases e2;exact⟨u,r,.inr ⟨.inl hk,c,hc,hc'⟩⟩
   .rw[E5 (Ne.symm hj)]at e2;obtain⟨u',r',q⟩:=hl j y v' e1 e2 e3;refine⟨u',r',?_⟩;rcases q with q|⟨k,c',e,z'⟩
    .exact .inl q
    .refine .inr ⟨k,c',e,z'.sameBut hs ?_⟩
     rintro rfl
     exact hj (Uw hN e1 (I.ok.inj _ _ _ e hc▸hi))
  .by_cases hcc:c'=c
   .subst hcc;exact⟨_,hc'⟩
   .obtain⟨w2,z2⟩:=I.cell y c' e;exact⟨w2,z2.sameBut hs hcc⟩
  .obtain⟨e,n,ne,nf,d⟩:=I.pin p hp;refine⟨(hs.2 p.1 ?_).trans e,n,ne,nf,d⟩;intro q;rw[q,hoc]at e;have q':oc=p.2:=G9 e;exact d w' (by rw[<- q'];exact hocd)
def Ux(I:Inv X pins σ H s)(hN:X.N.Nodup)(hi:X.N[i]?=some x)(hx:Loc X.env.scope x)(r:RelV v u)
  (h:∀s',Inv X pins (σ.set i (some v)) H s'->Q () s') (hf:X.fn x=true\/X.env.scope.names.lookup x=some .local:=by first|exact .inl rfl|exact .inr rfl|assumption):wpAny M A (storeName X.env x u) Q E s:=
 V5 I hN hi hx r (λs' I' _=>h s' I') hf
def Inv.rA(I:Inv X pins σ H s)(ho:s'.os=s.os)(u:Un (frs X.stack) ch H H' s.heap s'.heap)(hok:HOk X.prog X.w H' s'.heap)(hg:AllBare s'.gens)
  (hch:∀b∈ch,(b∈X.ex\/X.s₀.heap.objs.size<=b)/\b≠X.env.locals/\(∀x c,X.env.cells.lookup x=some c->c≠b)/\∀p∈X.pn++pins,p.1≠b):Inv X pins σ H' s':=by
 obtain⟨h',g',d',t',o'⟩:=s';have e:o'=s.os:=ho;subst e;exact I.call (g':=g') (t':=t') (d':=d') u hok hg hch
end
abbrev XK:=Value->Option Addr->Hp->Prop
abbrev St:=List (Option V)
abbrev VK:=V->Hp->Prop
abbrev TE:=St->Hp->VK->Prop
abbrev TT:=St->Hp->(Bool->Hp->Prop)->Prop
abbrev TA:=St->Hp->(List V->Hp->Prop)->Prop
structure Ends where
 nx:St->Hp->Prop
 rt:VK
 bk:St->Hp->Prop:=λ_ _=>False
 ct:St->Hp->Prop:=λ_ _=>False
abbrev TS:=Ends->St->Hp->Prop
def EP(X:Cx)(pins:Ca)(σ:St)(Q:VK)(u:Value)(s':Ce):Prop:=∃v H',Inv X pins σ H' s'/\RelV v u/\Q v H'
def TP(X:Cx)(pins:Ca)(σ:St)(Q:Bool->Hp->Prop)(b:Bool)(s':Ce):Prop:=∃H',Inv X pins σ H' s'/\Q b H'
def AP(X:Cx)(pins:Ca)(σ:St)(Q:List V->Hp->Prop)(us:Cg)(s':Ce):Prop:=∃vs H',Inv X pins σ H' s'/\Vals vs us/\Q vs H'
def SP(X:Cx)(pins:Ca)(D:Ends)(f:Flow)(s':Ce):Prop:=
 match f with
 |.next=>∃σ' H',Inv X pins σ' H' s'/\D.nx σ' H'
 |.brk=>∃σ' H',Inv X pins σ' H' s'/\D.bk σ' H'
 |.cont=>∃σ' H',Inv X pins σ' H' s'/\D.ct σ' H'
 |.ret u=>∃v σ' H',Inv X pins σ' H' s'/\RelV v u/\D.rt v H'
def PE(X:Cx)(e:Co)(t:TE):Prop:=
 ∀(pins:Ca)(s:Ce)(σ:St)(H:Hp)(Q:VK),Inv X pins σ H s->t σ H Q->wpAny (Du X) X.A (eval e X.env) (EP X pins σ Q) X.xe s
def PT(X:Cx)(e:Co)(t:TT):Prop:=
 ∀(pins:Ca)(s:Ce)(σ:St)(H:Hp)(Q:Bool->Hp->Prop),Inv X pins σ H s->t σ H Q->wpAny (Du X) X.A (isTrue e X.env (eval e X.env)) (TP X pins σ Q) X.xe s
def PW(X:Cx)(e:Co)(t:TT):Prop:=
 ∀(whole:Sem Value)(pins:Ca)(s:Ce)(σ:St)(H:Hp)(Q:Bool->Hp->Prop),Inv X pins σ H s->t σ H Q->wpAny (Du X) X.A (isTrue e X.env whole) (TP X pins σ Q) X.xe s
def PW.pt(h:PW X e t):PT X e t:=h _
def PA(X:Cx)(es:Ci)(t:TA):Prop:=
 ∀(pos:Pos)(pins:Ca)(s:Ce)(σ:St)(H:Hp)(Q:List V->Hp->Prop),Inv X pins σ H s->t σ H Q->wpAny (Du X) X.A (spliced (backTo pos (starEach es X.env))) (AP X pins σ Q) X.xe s
def PS(X:Cx)(st:CV)(t:TS):Prop:=
 ∀(pins:Ca)(s:Ce)(σ:St)(H:Hp)(D:Ends),Inv X pins σ H s->t D σ H->wpAny (Du X) X.A (exec st X.env) (SP X pins D) X.xe s
def PSs(X:Cx)(st:CQ)(t:TS):Prop:=
 ∀(pins:Ca)(s:Ce)(σ:St)(H:Hp)(D:Ends),Inv X pins σ H s->t D σ H->wpAny (Du X) X.A (execs st X.env) (SP X pins D) X.xe s
def thn{α:Type}{t:Sem α}{Q Q':α->Shared->Prop}(h:wpAny M A t Q E s)(hQ:∀a s,Q a s->Q' a s):wpAny M A t Q' E s:=L4 h hQ λ_ _ x=>x
section
variable {X:Cx}
def V2(i:Nat):TE:=λσ H Q=>∃v,σ[i]?=some (some v)/\Q v H
def tC(v:V):TE:=λ_ H Q=>Q v H
def rB(hN:X.N[i]?=some x)(hv:Vis X.env.scope x)(hd:(x==("__debug__":Str))=false:=by decide)(hcd:(x==("__classdict__":Str))=false:=by decide):PE X (.Name x pos) (V2 i):=by
 intro pins s σ H Q I h;obtain⟨v,e,h⟩:=h;obtain⟨m,hn,hl⟩:=I.loc;obtain⟨u,r,l⟩:=hl i x v hN e hv;have fin:EP X pins σ Q u s:=⟨v,H,I,r,h⟩;rcases l with⟨hk,hm⟩|⟨hk,c,hc,hcell⟩
 .exact wpAny_Name (wpAny_loadName_local I.ok.kind hk hn hm fin) hd
 .rcases hk with hk|hk
  .exact wpAny_Name (wpAny_loadName_cell I.ok.kind hk hc hcell fin) hd
  .exact wpAny_Name (wpAny_loadName_free I.ok.kind hk hc hcell fin hcd) hd
def i5{i j pos}:PE X (.Constant (.int i) j pos) (tC (.int i)):=λ_ _ _ H _ I h=>wpAny_Constant_int ⟨.int i,H,I.tok _,⟨_,rfl⟩,h⟩
def vv{b j pos}:PE X (.Constant (.bool b) j pos) (tC (.bl b)):=λ_ _ _ H _ I h=>Constant_bool ⟨.bl b,H,I,rfl,h⟩
def i6{x j pos}:PE X (.Constant (.str x) j pos) (tC (.str x)):=λ_ _ _ H _ I h=>Calls.Constant_str ⟨.str x,H,I.tok _,⟨_,rfl⟩,h⟩
def Gl(X:Cx)(x:Str):Prop:=X.env.kindOf x=some .globalImplicit
def Xn(I:Inv X pins σ H s)(hg:Gl X x)(hm:X.mg x=some u)(h:Q u s)
  (hd:(x==("__debug__":Str))=false:=by decide):wpAny (Du X) X.A (eval (.Name x pos) X.env) Q E s:=
 a01 I.ok.kind hg (Calls.loadGlobal_global (by rw[I.ok.glob];exact I.mod.glob.keeps I.bk) hm h) hd
def Qr(I:Inv X pins σ H s)(hg:Gl X x)(hm:X.mg x=none)(hv:bootBuiltins x=some u)(h:Q u s)
  (hn:x≠"__name__":=by decide) (hd:(x==("__debug__":Str))=false:=by decide):wpAny (Du X) X.A (eval (.Name x pos) X.env) Q E s:=by
 obtain⟨mb,h1,h2⟩:=I.mod.blt;exact a01 I.ok.kind hg (Calls.loadGlobal_builtin (by rw[I.ok.glob];exact I.mod.glob.keeps I.bk) hm (by rw[I.ok.blt];exact h1.keeps I.bk) ((h2 x hn).trans hv) h) hd
def bP(hg:Gl X x)(hm:X.mg x=some u)(r:RelV v u)(hd:(x==("__debug__":Str))=false:=by decide):PE X (.Name x pos) (tC v):=
 λ_ _ _ H _ I h=>Xn I hg hm ⟨v,H,I,r,h⟩ hd
def Xo(hg:Gl X x)(hm:X.mg x=none)(hv:bootBuiltins x=some u)(r:RelV v u)(hn:x≠"__name__":=by decide)(hd:(x==("__debug__":Str))=false:=by decide):PE X (.Name x pos) (tC v):=
 λ_ _ _ H _ I h=>Qr I hg hm hv ⟨v,H,I,r,h⟩ hn hd
variable {a b:Co}{ta tb:TE}{pos:Pos}
def Q1(b:Co)(h:op≠.In)(h2:op≠.NotIn):behindInMarks op b=false:=by
 have e1:(op==CmpOp.In)=false:=by cases op<;>first|rfl|exact absurd rfl h
 have e2:(op==CmpOp.NotIn)=false:=by cases op<;>first|rfl|exact absurd rfl h2
 cases b<;>simp[behindInMarks,e1,e2]
def tB(t:TE):TT:=λσ H Q=>t σ H λx H1=>∃c,x=.bl c/\Q c H1
def i7(h:PE X e t)(he:∀whole,isTrue e X.env whole=(do let v<-whole;standAt e.pos;holding [v] (truthy v)):=by intro _;rfl):PT X e (tB t):=by intro pins s σ H Q I hw;refine isTrue_plain (thn (h pins s σ H _ I hw) λv s1 ⟨x,H1,I1,r1,q1⟩=>?_) (he _);obtain⟨d,rfl,q⟩:=q1;cases r1;exact W1 ⟨H1,I1,q⟩
variable {tA tB':TT}{rest:Ci}
def BA(t u:TT):TT:=λσ H Q=>t σ H λc H1=>if c=true then u σ H1 Q else Q false H1
def tOr(t u:TT):TT:=λσ H Q=>t σ H λc H1=>if c=true then Q true H1 else u σ H1 Q
def BB(t:TT):TT:=λσ H Q=>t σ H λc H1=>Q (!c) H1
def pw_and1(ha:PT X a tA):PW X (.BoolOp .And [a] pos) tA:=by
 intro wh pins s σ H Q I h;refine isTrue_and (thn (ha pins s σ H Q I h) λc s1 e=>?_);cases c with
 |true=>exact isTrue_and_nil e
 |false=>exact e
def pw_or1(ha:PT X a tA):PW X (.BoolOp .Or [a] pos) tA:=by
 intro wh pins s σ H Q I h;refine isTrue_or (thn (ha pins s σ H Q I h) λc s1 e=>?_);cases c with
 |false=>exact isTrue_or_nil e
 |true=>exact e
def pw_and(ha:PT X a tA)(hb:PW X (.BoolOp .And (b::rest) pos) tB'):PW X (.BoolOp .And (a::b::rest) pos) (BA tA tB'):=by
 intro wh pins s σ H Q I h;refine isTrue_and (thn (ha pins s σ H _ I h) λc s1 ⟨H1,I1,q1⟩=>?_);cases c with
 |true=>exact hb wh pins s1 σ H1 Q I1 q1
 |false=>exact⟨H1,I1,q1⟩
def pw_or(ha:PT X a tA)(hb:PW X (.BoolOp .Or (b::rest) pos) tB'):PW X (.BoolOp .Or (a::b::rest) pos) (tOr tA tB'):=by
 intro wh pins s σ H Q I h;refine isTrue_or (thn (ha pins s σ H _ I h) λc s1 ⟨H1,I1,q1⟩=>?_);cases c with
 |true=>exact⟨H1,I1,q1⟩
 |false=>exact hb wh pins s1 σ H1 Q I1 q1
def rC(ha:PT X a tA):PT X (.UnaryOp .Not a pos) (BB tA):=by intro pins s σ H Q I h;exact isTrue_not (ha pins s σ H (λc H1=>Q (!c) H1) I h)
def xE(ta tb:TE):TE:=λσ H Q=>ta σ H λx H1=>∃c,x=.bl c/\if c=true then tb σ H1 Q else Q (.bl false) H1
def rD{op}(h:PE X a t):PE X (.BoolOp op [a] pos) t:=λpins s σ H Q I hw=>BoolOp_one (h pins s σ H Q I hw)
def rE(ha:PE X a ta)(hb:PE X (.BoolOp .And (b::rest) pos) tb):PE X (.BoolOp .And (a::b::rest) pos) (xE ta tb):=by
 intro pins s σ H Q I h;refine BoolOp_and (thn (ha pins s σ H _ I h) λv s1 ⟨x,H1,I1,r1,q1⟩=>?_);obtain⟨c,rfl,q1⟩:=q1;cases r1;refine W1 ?_;cases c with
 |true=>exact hb pins s1 σ H1 Q I1 q1
 |false=>exact⟨.bl false,H1,I1,rfl,q1⟩
end
def SqL(K:Cr)(H:Hp)(a:Addr)(xs:Ck):Prop:=
 Rd H a (.lst xs)\/
  ∃(o:Obj)(its:CG)(n:Nat),K.lookup a=some o/\o.cls=.type "list"/\o.dict=none/\o.data=.seq its n/\its.size<=sizeLine/\Vals xs its.toList
def SqT(K:Cr)(H:Hp)(a:Addr)(xs:Ck):Prop:=
 Rd H a (.tup xs)\/
  ∃(o:Obj)(its:CG)(n:Nat),K.lookup a=some o/\o.cls=.type "tuple"/\o.data=.seq its n/\its.size<=sizeLine/\Vals xs its.toList
def BC:Value->Option V
 |.none=>some .non
 |.bool b=>some (.bl b)
 |.int i _=>some (.int i)
 |.str x _=>some (.str x)
 |.bytes b _=>some (.byt b)
 |.float b _=>some (.flt b)
 |.ref a=>some (.ref a)
 |.type n=>some (.ty n)
 |_=>none
def RelV.abs(r:RelV x u):BC u=some x:=by
 cases x with
 |non=>cases r;rfl
 |bl _=>cases r;rfl
 |int _=>obtain⟨t,rfl⟩:=r;rfl
 |str _=>obtain⟨t,rfl⟩:=r;rfl
 |byt _=>obtain⟨t,rfl⟩:=r;rfl
 |flt _=>obtain⟨t,rfl⟩:=r;rfl
 |ref _=>cases r;rfl
 |ty _=>cases r;rfl
def RelV.inj(r:RelV x u)(q:RelV y u):x=y:=G9 (r.abs.symm.trans q.abs)
def Vals.inj:∀{xs ys:Ck}{us:Cg},Vals xs us->Vals ys us->xs=ys
 |_,_,_,.nil,.nil=>rfl
 |_,_,_,.cons r t,.cons r' t'=>by rw[r.inj r',Vals.inj t t']
def SqL.of{K:Cr}(h:H a=some (.lst xs)):SqL K H a xs:=.inl (.inl h)
def SqT.of{K:Cr}(h:H a=some (.tup xs)):SqT K H a xs:=.inl (.inl h)
def Inv.list(I:Inv X pins σ H s)(h:SqL X.K H a xs):∃its:List Value,Vals xs its/\PlainL s.heap a its.toArray/\xs.length<=sizeLine:=by
 rcases h with h|⟨o,its,n,hk,hc,hd,hs,hz,r⟩
 .obtain⟨z,its,n,r,e⟩:=h.ok I.hok;exact⟨its,r,⟨_,n,e,rfl,rfl,rfl⟩,z⟩
 .refine⟨its.toList,r,⟨o,n,I.kIn a o hk,hc,hd,by simpa using hs⟩,?_⟩;have e:=r.length;simp only[Array.length_toList]at e;omega
def Inv.tuple(I:Inv X pins σ H s)(h:SqT X.K H a xs):∃its:List Value,Vals xs its/\IsTup s.heap a its.toArray/\xs.length<=sizeLine:=by
 rcases h with h|⟨o,its,n,hk,hc,hs,hz,r⟩
 .obtain⟨z,its,r,p⟩:=h.ok I.hok;exact⟨its,r,p,z⟩
 .refine⟨its.toList,r,⟨o,I.kIn a o hk,hc,n,by simpa using hs⟩,?_⟩;have e:=r.length;simp only[Array.length_toList]at e;omega
def Inv.gb(I:Inv X pins σ H s)(h:SqL X.K H a xs)(h':SqL X.K H a ys):xs=ys:=by
 obtain⟨its,r,⟨o,n,e,_,_,d⟩,_⟩:=I.list h;obtain⟨its',r',⟨o',n',e',_,_,d'⟩,_⟩:=I.list h';rw[e]at e';cases e';rw[d]at d';injection d' with d1 _
 have:its=its':=by simpa using M5 Array.toList d1
 subst this;exact r.inj r'
def Inv.V6(I:Inv X pins σ H s)(h:SqT X.K H a xs)(h':SqT X.K H a ys):xs=ys:=by
 obtain⟨its,r,⟨o,e,_,n,d⟩,_⟩:=I.tuple h;obtain⟨its',r',⟨o',e',_,n',d'⟩,_⟩:=I.tuple h';rw[e]at e';cases e';rw[d]at d';injection d' with d1 _
 have:its=its':=by simpa using M5 Array.toList d1
 subst this;exact r.inj r'
abbrev Cx.Kh(X:Cx)(E:B_):Cx:={ X with xe:=E }
abbrev Cx.nox(X:Cx):Cx:=X.Kh λ_ _=>False
def Cx.Ok.Kh{X:Cx}(ok:X.Ok)(E:B_):(X.Kh E).Ok:=
 ⟨ok.mod,ok.kind,ok.glob,ok.blt,ok.above,ok.inj,ok.has,ok.cab,ok.hd,ok.frames,ok.stk,ok.exf,ok.bs,ok.bsz,ok.xg,ok.xh,ok.Xm,ok.frf⟩
def Cx.Ok.jm{X:Cx}{E:B_}(ok:(X.Kh E).Ok):X.Ok:=
 ⟨ok.mod,ok.kind,ok.glob,ok.blt,ok.above,ok.inj,ok.has,ok.cab,ok.hd,ok.frames,ok.stk,ok.exf,ok.bs,ok.bsz,ok.xg,ok.xh,ok.Xm,ok.frf⟩
def Inv.Kh(I:Inv X pins σ H s)(E:B_):Inv (X.Kh E) pins σ H s:=⟨I.ok.Kh E,I.os,I.bare,I.base,I.loc,I.cell,I.free,I.Qq,I.pin,I.hok,I.len⟩
def Inv.jm(I:Inv (X.Kh E) pins σ H s):Inv X pins σ H s:=⟨I.ok.jm,I.os,I.bare,I.base,I.loc,I.cell,I.free,I.Qq,I.pin,I.hok,I.len⟩
def SP.jm(h:SP (X.Kh E) pins D f s'):SP X pins D f s':=by
 cases f with
 |next=>obtain⟨σ',H',I,q⟩:=h;exact⟨σ',H',I.jm,q⟩
 |brk=>obtain⟨σ',H',I,q⟩:=h;exact⟨σ',H',I.jm,q⟩
 |cont=>obtain⟨σ',H',I,q⟩:=h;exact⟨σ',H',I.jm,q⟩
 |ret u=>obtain⟨v,σ',H',I,r,q⟩:=h;exact⟨v,σ',H',I.jm,r,q⟩
section
variable {X:Cx}{st:CV}{rest:CQ}{t u:TS}{e:Co}{te:TE}{pos:Pos}
def xF:TS:=λD σ H=>D.nx σ H
def xG(t u:TS):TS:=λD σ H=>t { D with nx:=u D } σ H
def bQ:PSs X [] xF:=λ_ _ σ H _ I h=>a0H ⟨σ,H,I,h⟩
def Q2(h1:PS X st t)(h2:PSs X rest u):PSs X (st::rest) (xG t u):=by
 intro pins s σ H D I h;refine wpAny_execs_cons (thn (h1 pins s σ H { D with nx:=u D } I h) λf s1 q=>?_);cases f with
 |next=>obtain⟨σ',H',I',q⟩:=q;exact h2 pins s1 σ' H' D I' q
 |ret v=>exact q
 |brk=>exact q
 |cont=>exact q
def YX(h1:PS X st t):PSs X [st] t:=by
 intro pins s σ H D I h;refine wpAny_execs_cons (thn (h1 pins s σ H D I h) λf s1 q=>?_);cases f with
 |next=>exact a0H q
 |ret v=>exact q
 |brk=>exact q
 |cont=>exact q
def Inv.quiet(I:Inv X pins σ H s):interactive X.env=false:=by simp[interactive,I.ok.kind]
def xH(te:TE):TS:=λD σ H=>te σ H λ_ H1=>D.nx σ H1
def Jg(he:PE X e te)(hs:swapsWith e none pos.line X.env=pure false:=by rfl):PS X (.Expr e pos) (xH te):=by intro pins s σ H D I h;exact wpAny_Expr_any (thn (he pins s σ H _ I h) λv s1 ⟨x,H1,I1,r1,q1⟩=>⟨σ,H1,I1,q1⟩) I.quiet hs
def BD(te:TE):TS:=λD σ H=>te σ H D.rt
def bR(he:PE X e te):PS X (.Return (some e) pos) (BD te):=by intro pins s σ H D I h;exact wpAny_Return_some (thn (he pins s σ H _ I h) λv s1 ⟨x,H1,I1,r1,q1⟩=>⟨x,σ,H1,I1,r1,q1⟩)
def BE(c:TT)(t u:TS):TS:=λD σ H=>c σ H λb H1=>if b=true then t D σ H1 else u D σ H1
def rF(hc:PT X c tc)(ha:PSs X a t)(hb:PSs X b u):PS X (.If c a b pos) (BE tc t u):=by
 intro pins s σ H D I h;refine wpAny_If (thn (hc pins s σ H _ I h) λd s1 ⟨H1,I1,q1⟩=>?_);cases d with
 |true=>exact ha pins s1 σ H1 D I1 q1
 |false=>exact hb pins s1 σ H1 D I1 q1
end
abbrev TG:=V->St->Hp->(St->Hp->Prop)->Prop
def PG(X:Cx)(target:Co)(t:TG):Prop:=
 ∀(pins:Ca)(s:Ce)(σ:St)(H:Hp)(v:V)(u:Value)(Q:St->Hp->Prop),Inv X pins σ H s->RelV v u->t v σ H Q->
  wpAny (Du X) X.A (assign target X.env u) (λ_ s'=>∃σ' H',Inv X pins σ' H' s'/\Q σ' H') X.xe s
abbrev AZ:=V->V->V->Hp->(Hp->Prop)->Prop
def A4(X:Cx)(t:AZ):Prop:=
 ∀(pins:Ca)(s:Ce)(σ:St)(H:Hp)(o i v:V)(ov iv u:Value)(Q:Hp->Prop),Inv X pins σ H s->RelV o ov->RelV i iv->RelV v u->t o i v H Q->
  wpAny (Du X) X.A (setItem ov iv u) (λ_ s'=>∃H',Inv X pins σ H' s'/\Q H') X.xe s
section
variable {X:Cx}{pos:Pos}
def Xp(i:Nat):TG:=λv σ H Q=>Q (σ.set i (some v)) H
def bS(hN:X.N.Nodup)(hi:X.N[i]?=some x)(hx:Loc X.env.scope x)(hf:X.fn x=true\/X.env.scope.names.lookup x=some .local:=by first|exact .inl rfl|exact .inr rfl|assumption):PG X (.Name x pos) (Xp i):=by intro pins s σ H v u Q I r h;exact wpAny_assign_Name (Ux I hN hi hx r (λs' I'=>⟨_,H,I',h⟩) hf)
def BF(to ti:TE)(t:AZ):TG:=λv σ H Q=>to σ H λo H1=>ti σ H1 λi H2=>t o i v H2 λH3=>Q σ H3
def rG(ho:PE X o to)(hi:PE X i ti)(hs:A4 X t)
  (ha:∀v,assign (.Subscript o i pos) X.env v=(do
   let ov<-holding [v] (eval o X.env)
   let iv<-holding [v,ov] (eval i X.env)
   standAt pos
   holding [v,ov,iv] (setItem ov iv v)
   release [v,ov,iv] []):=by intro _;rfl):PG X (.Subscript o i pos) (BF to ti t):=by
 intro pins s σ H v u Q I r h;rw[ha];refine f8 (G7 (thn (ho pins s σ H _ I h) λov s1 ⟨x,H1,I1,r1,q1⟩=>?_));refine f8 (G7 (thn (hi pins s1 σ H1 _ I1 q1) λiv s2 ⟨y,H2,I2,r2,q2⟩=>?_));refine f8 (T8 (f8 (G7 (thn (hs pins s2 σ H2 x y v ov iv u _ I2 r1 r2 r q2) λ_ s3 ⟨H3,I3,q3⟩=>?_))));exact wpAny_release ⟨σ,H3,I3,q3⟩
def pW(te:TE)(g:TG):TS:=λD σ H=>te σ H λx H1=>g x σ H1 D.nx
def rH(he:PE X e te)(hg:PG X tg g)(hs:swapsWithSole [tg] e pos.line X.env=pure false:=by rfl)(hw:swappedStores [tg] e X.env=pure none:=by rfl)
  (h1:(assignEach [tg] X.env).map (·.2)=[assign tg X.env]:=by rfl):PS X (.Assign [tg] e pos) (pW te g):=by
 intro pins s σ H D I h;refine wpAny_Assign_stores (thn (he pins s σ H _ I h) λv s1 ⟨x,H1,I1,r1,q1⟩=>?_) hs hw;rw[h1];exact thn (hg pins s1 σ H1 x v _ I1 r1 q1) λ_ s2 q=>q
def bT(hN:X.N.Nodup)(hi:X.N[i]?=some x)(hx:Loc X.env.scope x)(he:PE X e te)(hs:swapsWith e (some (.Name x pos')) pos.line X.env=pure false:=by rfl)(hf:X.fn x=true\/X.env.scope.names.lookup x=some .local:=by first|exact .inl rfl|exact .inr rfl|assumption):
  PS X (.Assign [.Name x pos'] e pos) (pW te (Xp i)):=by
 intro pins s σ H D I h;refine wpAny_Assign_Name (thn (he pins s σ H _ I h) λv s1 ⟨y,H1,I1,r1,q1⟩=>?_) hs;exact Ux I1 hN hi hx r1 (λs2 I2=>⟨_,H1,I2,q1⟩) hf
end
section
variable {X:Cx}{pos:Pos}
def i8(c:TT)(tb:TS):TS:=λD σ H=>∃W:Nat->St->Hp->Prop,(∃m,W m σ H)/\∀m σ H,W m σ H->
 c σ H λb H1=>if b=true then ∃N:St->Hp->Prop,(∀σ' H',N σ' H'->∃m',m'<m/\W m' σ' H')/\tb { D with nx:=N,ct:=N,bk:=D.nx } σ H1 else D.nx σ H1
def gc(hp:PassesOwn (Du X) X.A X.env X.xe)(hc:PT X c tc)(hb:PSs X body tb):PS X (.While c body [] pos) (i8 tc tb):=by
 intro pins s σ H D I h;obtain⟨W,⟨m0,w0⟩,turn⟩:=h;refine wpAny_While (codeAny_whileLoop (λn s'=>∃σ' H',Inv X pins σ' H' s'/\W n σ' H') ?_ m0 ⟨σ,H,I,w0⟩)
 rintro n s1 ⟨σ1,H1,I1,w1⟩
 refine R7 hp (thn (hc pins s1 σ1 H1 _ I1 (turn n σ1 H1 w1)) λb s2 ⟨H2,I2,q2⟩=>?_);cases b with
 |true=>
  obtain⟨N,hN,q2⟩:=q2;rw[if_pos rfl];refine R7 hp (thn (hb pins s2 σ1 H2 _ I2 q2) λf s3 q3=>?_);cases f with
  |next=>obtain⟨σ3,H3,I3,n3⟩:=q3;obtain⟨m',hm,w3⟩:=hN σ3 H3 n3;exact⟨m',hm,σ3,H3,I3,w3⟩
  |cont=>obtain⟨σ3,H3,I3,n3⟩:=q3;obtain⟨m',hm,w3⟩:=hN σ3 H3 n3;exact⟨m',hm,σ3,H3,I3,w3⟩
  |brk=>exact q3
  |ret v=>exact q3
 |false=>rw[if_neg C9];exact a0H ⟨σ1,H2,I2,q2⟩
end
structure It where
 go:Nat->Hp->Prop
 yld:Nat->Hp->V->Hp->Prop
 stop:Nat->Hp->Prop
def fR(X:Cx)(pins:Ca)(H:Hp)(b:Addr):Prop:=
 H b=none/\b≠X.env.locals/\b∉X.fs/\(b∈X.ex\/X.s₀.heap.objs.size<=b)/\(∀x c,X.env.cells.lookup x=some c->c≠b)/\∀p∈X.pn++pins,p.1≠b
def Inv.rJ(I:Inv X pins σ H s)(hb:s.heap.objs.size<=b)(hn:H' b=none):fR X pins H' b:=by
 refine⟨hn,M9 (D0 I.lt hb),I.AY hb,.inr (E3 I.sz hb),λx c e z=>?_,λp hp z=>?_⟩
 .obtain⟨v,q⟩:=I.cell x c e;exact absurd (D0 q.lt (by rw[z];exact hb)) (M8 _)
 .exact absurd (D0 (C0 (I.pin p hp).1) (by rw[z];exact hb)) (M8 _)
structure Turn(P:Cq)(w:Cv)(K:Cr)(tg:Co)(J:It)(fp:CM)(it:Addr)(tn:Nat->Heap->Prop):Prop where
 mem:it∈fp
 obj:∀i h,tn i h->∀b∈fp,∃o,h.get? b=some o/\∀v,o.data≠.cell v
 keep:∀i h h',tn i h->(∀b∈fp,∀o,h.get? b=some o->h'.get? b=some o)->tn i h'
 item:∀(X:Cx),X.prog=P->X.w=w->X.K=K->X.calm=true->∀(i:Nat)(pins:Ca)(s:Ce)(σ:St)(H:Hp)(E:B_),Inv X pins σ H s->(∀b∈fp,fR X pins H b)->tn i s.heap->J.go i H->
  wpAny (model P w) X.A (pyNext (.ref it)) (λr s1=>∃u,r=some u/\
   wpAny (model P w) X.A (letOwnedTupleGo tg (.ref it) u) (λ_ s2=>∃x H',Inv X pins σ H' s2/\RelV x u/\J.yld i H x H'/\tn (i+1) s2.heap/\∀b∈fp,H' b=none) E s1) E s
 done:∀(X:Cx),X.prog=P->X.w=w->X.K=K->X.calm=true->∀(i:Nat)(pins:Ca)(s:Ce)(σ:St)(H:Hp)(E:B_),Inv X pins σ H s->(∀b∈fp,fR X pins H b)->tn i s.heap->J.stop i H->
  wpAny (model P w) X.A (pyNext (.ref it)) (λr s1=>r=none/\Inv X pins σ H s1) E s
 self:∀(A:Cz)(i:Nat)(s:Ce)(Q:B_)(E:B_),tn i s.heap->Q (.ref it) s->wpAny (model P w) A (pyIter (.ref it)) Q E s
abbrev TI:=St->Hp->(It->Hp->Prop)->Prop
def PIE(X:Cx)(pins:Ca)(σ:St)(tg:Co)(R:It->Hp->Prop)(itv:Value)(s2:Ce):Prop:=
 ∃(it:Addr)(fp:CM)(tn:Nat->Heap->Prop)(J:It)(H':Hp),itv=.ref it/\Inv X pins σ H' s2/\Turn X.prog X.w X.K tg J fp it tn/\tn 0 s2.heap/\(∀b∈fp,fR X pins H' b)/\R J H'
def PI(X:Cx)(tg yM:Co)(wi:TI):Prop:=
 ∀(pins:Ca)(s:Ce)(σ:St)(H:Hp)(R:It->Hp->Prop),Inv X pins σ H s->wi σ H R->
  wpAny (Du X) X.A (eval yM X.env) (λv s1=>wpAny (Du X) X.A (pyIter v) (PIE X pins σ tg R) X.xe s1) X.xe s
def gf(ho:s.heap.get? it=some o)(hc:o.cls=.type n)(hd:o.data=.fields vs)
    (hn:["enumerate","zip","dict_itemiterator","dict_reverseitemiterator","odict_iterator","itertools.zip_longest","itertools.pairwise"].contains n=false) (hQ:Q () s):wpAny M A (letOwnedTupleGo tg (.ref it) u) Q E s:=by
  unfold letOwnedTupleGo;cases tg<;>first
    |exact B8 hQ
    | (cases u<;>first
        |exact B8 hQ
        | (refine f8 (a1e ho ?_)
           rw[hc,hd];show wpAny M A (if(["enumerate","zip","dict_itemiterator","dict_reverseitemiterator","odict_iterator","itertools.zip_longest","itertools.pairwise"].contains n&&vs[0]?==some (rawInt _))=true then _ else _) Q E s;rw[if_neg (by intro h;rw[hn,Bool.false_and]at h;cases h)];exact B8 hQ))
def Itl(K:Cr)(a:Addr):It:=
 ⟨λi H=>∃xs x,SqL K H a xs/\xs[i]?=some x,λi H x H'=>H'=H/\∀xs,SqL K H a xs->xs[i]?=some x,λi H=>∃xs,SqL K H a xs/\xs.length<=i⟩
def Itt(K:Cr)(a:Addr):It:=
 ⟨λi H=>∃xs x,SqT K H a xs/\xs[i]?=some x,λi H x H'=>H'=H/\∀xs,SqT K H a xs->xs[i]?=some x,λi H=>∃xs,SqT K H a xs/\xs.length<=i⟩
def Itr(lo:Int)(n:Nat):It:=⟨λi _=>i<n,λi H x H'=>H'=H/\x=.int (lo+i),λi _=>n<=i⟩
def bU{P:Cq}{w:Cv}{K:Cr}{tg:Co}(a it:Addr):Turn P w K tg (Itl K a) [it] it (λi h=>h.IsListIter it a i)where
 mem:=by simp
 obj:=λi h st b hb=>by
  have e:b=it:=by simpa using hb
  subst e;obtain⟨o,e,c,d⟩:=st;exact⟨o,e,λv z=>by rw[d]at z;cases z⟩
 keep:=λi h h' st k=>st.at λo e=>k it (by simp) o e
 item:=by intro X hP hw hK hc i pins s σ H E I hf st hg;subst hP hw hK;obtain⟨xs,x,hq,hx⟩:=hg;obtain⟨its,rv,p,hz⟩:=I.list hq;obtain⟨u,hu,ru⟩:=rv.get hx;obtain⟨f0,f1,f2,f3,f4,f5⟩:=hf it (by simp);refine wpAny_pyNext_list_item st p.isList (x:=u) (by simpa using hu) λh' st' sb=>?_;have I1:Inv X pins σ H { s with heap:=h' }:=I.turned (t':=s.toks) (λb o hb e=>(sb.2 b hb).trans e) f0 f1 f3 f4 f5;obtain⟨o,e,c,d⟩:=id st';exact⟨u,rfl,gf (s:={ s with heap:=h' }) e c d (by decide) ⟨x,H,I1,ru,⟨rfl,λys hy=>by rw[I.gb hy hq];exact hx⟩,st',λb hb=>(hf b hb).1⟩⟩
 done:=by intro X hP hw hK hc i pins s σ H E I hf st hg;subst hP hw hK;obtain⟨xs,hq,hx⟩:=hg;obtain⟨its,rv,p,hz⟩:=I.list hq;obtain⟨f0,f1,f2,f3,f4,f5⟩:=hf it (by simp);have hl:=rv.length;exact wpAny_pyNext_list_end (I.ok.hd hc) st p.isList (by simp;omega) λh' eb=>⟨rfl,I.turned (t':=s.toks) (λb o hb e=>eb b o hb e) f0 f1 f3 f4 f5⟩
 self:=λ_ _ _ _ _ st h=>wpAny_pyIter_listiter st h
def aM{P:Cq}{w:Cv}{K:Cr}{tg:Co}(a it:Addr):Turn P w K tg (Itt K a) [it] it (λi h=>h.IsTupleIter it a i)where
 mem:=by simp
 obj:=λi h st b hb=>by
  have e:b=it:=by simpa using hb
  subst e;obtain⟨o,e,c,d⟩:=st;exact⟨o,e,λv z=>by rw[d]at z;cases z⟩
 keep:=λi h h' st k=>st.at λo e=>k it (by simp) o e
 item:=by intro X hP hw hK hc i pins s σ H E I hf st hg;subst hP hw hK;obtain⟨xs,x,hq,hx⟩:=hg;obtain⟨its,rv,p,hz⟩:=I.tuple hq;obtain⟨u,hu,ru⟩:=rv.get hx;obtain⟨f0,f1,f2,f3,f4,f5⟩:=hf it (by simp);refine wpAny_pyNext_tuple_item st (show s.heap.IsTuple a its.toArray from p) (x:=u) (by simpa using hu) λh' st' sb=>?_;have I1:Inv X pins σ H { s with heap:=h' }:=I.turned (t':=s.toks) (λb o hb e=>(sb.2 b hb).trans e) f0 f1 f3 f4 f5;obtain⟨o,e,c,d⟩:=id st';exact⟨u,rfl,gf (s:={ s with heap:=h' }) e c d (by decide) ⟨x,H,I1,ru,⟨rfl,λys hy=>by rw[I.V6 hy hq];exact hx⟩,st',λb hb=>(hf b hb).1⟩⟩
 done:=by intro X hP hw hK hc i pins s σ H E I hf st hg;subst hP hw hK;obtain⟨xs,hq,hx⟩:=hg;obtain⟨its,rv,p,hz⟩:=I.tuple hq;obtain⟨f0,f1,f2,f3,f4,f5⟩:=hf it (by simp);have hl:=rv.length;exact wpAny_pyNext_tuple_end (I.ok.hd hc) st (show s.heap.IsTuple a its.toArray from p) (by simp;omega) λh' eb=>⟨rfl,I.turned (t':=s.toks) (λb o hb e=>eb b o hb e) f0 f1 f3 f4 f5⟩
 self:=λ_ _ _ _ _ st h=>wpAny_pyIter_tupleiter st h
def aN{P:Cq}{w:Cv}{K:Cr}{tg:Co}(it:Addr)(lo:Int)(n:Nat):Turn P w K tg (Itr lo n) [it] it (λi h=>IsRangeIter h it (lo+(i:Nat)*1) ((n:Int)-(i:Nat)) 1)where
 mem:=by simp
 obj:=λi h st b hb=>by
  have e:b=it:=by simpa using hb
  subst e;exact⟨_,st,λv z=>by
   have z':Data.fields _=Data.cell v:=z;cases z'⟩
 keep:=λi h h' st k=>k it (by simp) _ st
 item:=by intro X hP hw hK hc i pins s σ H E I hf st hg;subst hP hw hK;obtain⟨f0,f1,f2,f3,f4,f5⟩:=hf it (by simp);have W:=Walks.range (prog:=X.prog) (w:=X.w) (I.ok.hd hc) it lo 1 n;refine W.item i s _ _ hg st λv h' tk hv st' kk=>?_;obtain⟨t,rfl⟩:=hv;have I1:Inv X pins σ H { s with heap:=h',toks:=tk }:=I.turned (λb o hb e=>kk b o (by simpa using hb) e) f0 f1 f3 f4 f5;refine⟨_,rfl,gf (s:={ s with heap:=h',toks:=tk }) (n:="range_iterator") st' rfl rfl (by decide) ⟨.int (lo+i),H,I1,⟨t,?_⟩,⟨rfl,rfl⟩,st',λb hb=>(hf b hb).1⟩⟩;rw[Int.mul_one]
 done:=by intro X hP hw hK hc i pins s σ H E I hf st hg;subst hP hw hK;obtain⟨f0,f1,f2,f3,f4,f5⟩:=hf it (by simp);exact wpAny_pyNext_range_end (I.ok.hd hc) st (by have:n<=i:=hg;omega) λh' eb=>⟨rfl,I.turned (t':=s.toks) (λb o hb e=>eb b o hb e) f0 f1 f3 f4 f5⟩
 self:=λ_ _ _ _ _ st h=>wpAny_pyIter_rangeiter st h
section
variable {X:Cx}{tg:Co}
def gg{pins:Ca}{σ:St}{H:Hp}{s:Ce}{R:It->Hp->Prop}{E:B_}{lo hi:Int}{t u v:Tok}{tk:Nat}(I:Inv X pins σ H s)(h1:-(2 ^ 62)<=lo)(h2:lo<2 ^ 62)(h3:-(2 ^ 62)<=hi)(h4:hi<2 ^ 62)
  (q:R (Itr lo (hi-lo).toNat) H):wpAny (Du X) X.A (pyIter (.ref s.heap.objs.size)) (PIE X pins σ tg R) E { s with heap:=s.heap.push { cls:=.type "range",data:=.fields #[.int lo t,.int hi u,.int 1 v] },toks:=tk }:=by
 refine wpAny_pyIter_range (IsRange.new ..) (small_one h1 h2 h3 h4) ?_;have I1:Inv X pins σ H { s with heap:=s.heap.push { cls:=.type "range",data:=.fields #[.int lo t,.int hi u,.int 1 v] },toks:=tk }:=I.kept λb o e=>B6 _ e;refine⟨(s.heap.push { cls:=.type "range",data:=.fields #[.int lo t,.int hi u,.int 1 v] }).objs.size,[(s.heap.push { cls:=.type "range",data:=.fields #[.int lo t,.int hi u,.int 1 v] }).objs.size],_,_,H,rfl,
  I1.kept (t':=tk) λb o e=>B6 _ e,aN _ lo (hi-lo).toNat,?_,λb hb=>?_,q⟩
 .have e1:lo+((0:Nat):Int)*1=lo:=by simp
  have e2:(((hi-lo).toNat:Nat):Int)-((0:Nat):Int)=Builtin.Range.rangeSize lo hi 1:=by rw[rangeSize_one];split<;>omega
  show IsRangeIter _ _ (lo+((0:Nat):Int)*1) ((((hi-lo).toNat:Nat):Int)-((0:Nat):Int)) 1;rw[e1,e2];exact E2 _ rfl
 .have e:b=(s.heap.push { cls:=.type "range",data:=.fields #[.int lo t,.int hi u,.int 1 v] }).objs.size:=by simpa using hb
  subst e;exact I1.rJ (B7 _) (I1.hok.fresh (B7 _))
def xI(ta:TA):TI:=λσ H R=>ta σ H λvs H1=>∃j:Int,vs=[.int j]/\-(2 ^ 62)<=j/\j<2 ^ 62/\R (Itr 0 j.toNat) H1
def V7(hg:Gl X "range")(hm:X.mg "range"=none)(ha:PA X [a] ta)(hs:starEach [a] X.env=[(false,eval a X.env)]:=by rfl):PI X tg (.Call (.Name "range" p) [a] [] pos) (xI ta):=by
 intro pins s σ H R I h;refine Call_ (Qr I hg hm boot_range (P9 (thn (ha pos pins s σ H _ I h) λus s1 ⟨vs,H1,I1,r1,q1⟩=>?_) hs rfl));obtain⟨j,e,q1,q2,q⟩:=q1;subst e;cases r1 with
 |cons r rr=>cases rr;obtain⟨t,rfl⟩:=r;exact call_range_1 (gg I1 (by omega) (by omega) q1 q2 (by simpa using q))
def pX(wi:TI)(g:TG)(tb:TS):TS:=λD σ H=>wi σ H λJ H1=>∃W:Nat->Nat->St->Hp->Prop,(∃m,W 0 m σ H1)/\∀i m σ H,W i m σ H->
 (J.stop i H/\D.nx σ H)\/(J.go i H/\∃N:St->Hp->Prop,(∀σ' H',N σ' H'->∃m',m'<m/\W (i+1) m' σ' H')/\∀x H',J.yld i H x H'->g x σ H' λσ2 H2=>tb { D with nx:=N,ct:=N,bk:=D.nx } σ2 H2)
def V8(fp:CM)(h:Heap):List (Addr×Obj):=fp.filterMap λb=>(h.get? b).map λo=>(b,o)
def wK(hb:b∈fp)(e:h.get? b=some o):(b,o)∈V8 fp h:=a14.mpr ⟨b,hb,by rw[e];rfl⟩
def bV(hp:p∈V8 fp h):p.1∈fp/\h.get? p.1=some p.2:=by
 obtain⟨b,hb,e⟩:=a14.mp hp;cases q:h.get? b with
 |none=>rw[q]at e;cases e
 |some o=>rw[q]at e;have e':(b,o)=p:=G9 e;subst e';exact⟨hb,q⟩
def Inv.pinned(I:Inv X pins σ H s)(hf:∀b∈fp,fR X pins H b)(ho:∀b∈fp,∃o,s.heap.get? b=some o/\∀v,o.data≠.cell v):Inv X (pins++V8 fp s.heap) σ H s:=
 I.Jf λp hp=>(E9.mp hp).elim (λz=>I.pin p (C6 _ z)) λz=>by obtain⟨hb,e⟩:=bV z;obtain⟨f0,f1,f2,_⟩:=hf p.1 hb;obtain⟨o,e',d⟩:=ho p.1 hb;rw[e]at e';cases e';exact⟨e,f0,f1,f2,d⟩
def Inv.qT(I:Inv X (pins++pl) σ H s):Inv X pins σ H s:=I.Jf λp hp=>I.pin p (C6 _ (D7 _ hp))
def Kz(hp:PassesOwn (Du X) X.A X.env X.xe)(hc:X.calm=true)(hi:PI X tg yM wi)(hg:PG X tg g)(hb:PSs X body tb)
  (hs:∀x,foldedSetIterable yM X.env x=pure x:=by intro _;rfl):PS X (.For tg yM body [] pos) (pX wi g tb):=by
 intro pins s σ H D I h;refine wpAny_For (thn (hi pins s σ H _ I h) λv s1 h1=>thn h1 λitv s2 h2=>?_) hs;obtain⟨it,fp,tn,J,H2,e,I2,T,st2,f2,W,⟨m0,w0⟩,turn⟩:=h2;subst e
 -- what stays true of the iterator's objects through the loop
 have stat:∀{H':Hp},(∀b∈fp,H' b=none)->∀b∈fp,fR X pins H' b:=λhn b hb=>⟨hn b hb,(f2 b hb).2⟩;refine codeAny_forLoop_any (λn s'=>∃i σ' H',Inv X pins σ' H' s'/\tn i s'.heap/\(∀b∈fp,H' b=none)/\W i n σ' H') ?_ m0 ⟨0,σ,H2,I2,st2,λb hb=>(f2 b hb).1,w0⟩
 rintro n s3 ⟨i,σ3,H3,I3,st3,fr3,w3⟩
 rcases turn i n σ3 H3 w3 with⟨stop,qn⟩|⟨go,N,hN,step⟩
 .refine R7 hp (thn (T.done X rfl rfl rfl hc i pins s3 σ3 H3 X.xe I3 (stat fr3) st3 stop) λr s4 ⟨hr,I4⟩=>?_);subst hr;exact a0H ⟨σ3,H3,I4,qn⟩
 .refine R7 hp (thn (T.item X rfl rfl rfl hc i pins s3 σ3 H3 X.xe I3 (stat fr3) st3 go) λr s4 ⟨u,hr,h4⟩=>?_);subst hr;refine R7 hp (thn h4 λ_ s5 ⟨x,H5,I5,r5,y5,st5,fr5⟩=>?_);have I5':=I5.pinned (stat fr5) (T.obj _ _ st5);refine R7 hp (thn (hg _ s5 σ3 H5 x u _ I5' r5 (step x H5 y5)) λ_ s6 ⟨σ6,H6,I6,q6⟩=>?_);refine R7 hp (thn (hb _ s6 σ6 H6 _ I6 q6) λf s7 q7=>?_);have again:∀{σ7:St}{H7:Hp},Inv X (pins++V8 fp s5.heap) σ7 H7 s7->N σ7 H7->∃m,m<n/\∃i σ' H',Inv X pins σ' H' s7/\tn i s7.heap/\(∀b∈fp,H' b=none)/\W i m σ' H':=λ{σ7 H7} I7 n7=>by obtain⟨m',hm,w7⟩:=hN σ7 H7 n7;refine⟨m',hm,i+1,σ7,H7,I7.qT,T.keep _ _ _ st5 λb hb o e=>(I7.pin (b,o) (C6 _ (C6 _ (wK hb e)))).1,λb hb=>?_,w7⟩;obtain⟨o,e,d⟩:=T.obj _ _ st5 b hb;exact(I7.pin (b,o) (C6 _ (C6 _ (wK hb e)))).2.1
  cases f with
  |next=>obtain⟨σ7,H7,I7,n7⟩:=q7;exact again I7 n7
  |cont=>obtain⟨σ7,H7,I7,n7⟩:=q7;exact again I7 n7
  |brk=>obtain⟨σ7,H7,I7,q7⟩:=q7;exact⟨σ7,H7,I7.qT,q7⟩
  |ret v=>obtain⟨x7,σ7,H7,I7,r7,q7⟩:=q7;exact⟨x7,σ7,H7,I7.qT,r7,q7⟩
end
abbrev R2:=V->V->Hp->VK->Prop
def OpR(X:Cx)(f:Value->Value->Sem Value)(r:R2):Prop:=
 ∀(pins:Ca)(s:Ce)(σ:St)(H:Hp)(x y:V)(v u:Value)(Q:VK),Inv X pins σ H s->RelV x v->RelV y u->r x y H Q->
  wpAny (Du X) X.A (f v u) (EP X pins σ Q) X.xe s
def UnR(X:Cx)(f:Value->Sem Value)(r:V->Hp->VK->Prop):Prop:=
 ∀(pins:Ca)(s:Ce)(σ:St)(H:Hp)(x:V)(v:Value)(Q:VK),Inv X pins σ H s->RelV x v->r x H Q->
  wpAny (Du X) X.A (f v) (EP X pins σ Q) X.xe s
def ZG(X:Cx)(f:Value)(r:List V->Hp->VK->Prop):Prop:=
 ∀(pins:Ca)(s:Ce)(σ:St)(H:Hp)(xs:Ck)(us:Cg)(Q:VK),Inv X pins σ H s->Vals xs us->r xs H Q->
  wpAny (Du X) X.A (call f us) (EP X pins σ Q) X.xe s
def tOp(r:R2)(ta tb:TE):TE:=λσ H Q=>ta σ H λx H1=>tb σ H1 λy H2=>r x y H2 Q
def tUn(r:V->Hp->VK->Prop)(ta:TE):TE:=λσ H Q=>ta σ H λx H1=>r x H1 Q
def rI(C:Int->Int->Prop)(g:Int->Int->V):R2:=λx y H Q=>∃i j,x=.int i/\y=.int j/\C i j/\Q (g i j) H
def rI0(g:Int->Int->V):R2:=λx y H Q=>∃i j,x=.int i/\y=.int j/\Q (g i j) H
def rU(g:Int->V):V->Hp->VK->Prop:=λx H Q=>∃i,x=.int i/\Q (g i) H
section
variable {X:Cx}{a b c:Co}{ta tb tc:TE}{pos:Pos}
def xJ(ha:PE X a ta)(hb:PE X b tb){pins:Ca}{s:Ce}{σ:St}{H:Hp}{R:V->V->Hp->Prop}(I:Inv X pins σ H s)
  (h:ta σ H λx H1=>tb σ H1 λy H2=>R x y H2) {Q:B_}{f:Value->Value->Sem Value}
  (hf:∀v u s2 x y H2,Inv X pins σ H2 s2->RelV x v->RelV y u->R x y H2->wpAny (Du X) X.A (f v u) Q X.xe s2):
  wpAny (Du X) X.A (eval a X.env) (λv s₁=>wpAny (Du X) X.A (eval b X.env) (λu s₂=>wpAny (Du X) X.A (f v u) Q X.xe s₂) X.xe s₁) X.xe s:=by
 refine thn (ha pins s σ H _ I h) λv s1 ⟨x,H1,I1,r1,q1⟩=>?_;refine thn (hb pins s1 σ H1 _ I1 q1) λu s2 ⟨y,H2,I2,r2,q2⟩=>?_;exact hf v u s2 x y H2 I2 r1 r2 q2
def xK(ho:OpR X (binaryOp op) r)(ha:PE X a ta)(hb:PE X b tb):PE X (.BinOp a op b pos) (tOp r ta tb):=by intro pins s σ H Q I h;exact wpAny_BinOp (xJ ha hb I h λv u s2 x y H2 I2 rx ry q=>ho pins s2 σ H2 x y v u Q I2 rx ry q)
def xM(ho:UnR X (unaryOp op) r)(ha:PE X a ta):PE X (.UnaryOp op a pos) (tUn r ta):=by intro pins s σ H Q I h;exact UnaryOp_ (thn (ha pins s σ H _ I h) λv s1 ⟨x,H1,I1,r1,q1⟩=>ho pins s1 σ H1 x v Q I1 r1 q1)
def opI{f:Value->Value->Sem Value}{C:Int->Int->Prop}{g:Int->Int->Int}
  (rule:∀(i j:Int)(t u:Tok)(s:Ce)(Q:B_)(E:B_),C i j->Q (.int (g i j) s.toks) { s with toks:=s.toks+1 }->wpAny (Du X) X.A (f (.int i t) (.int j u)) Q E s):
  OpR X f (rI C λi j=>.int (g i j)):=by
 intro pins s σ H x y v u Q I rx ry h;obtain⟨i,j,rfl,rfl,hc,q⟩:=h;obtain⟨t,rfl⟩:=rx;obtain⟨t',rfl⟩:=ry;exact rule i j t t' s _ _ hc ⟨.int (g i j),H,I.tok _,⟨_,rfl⟩,q⟩
def A5{f:Value->Value->Sem Value}{g:Int->Int->Int}
  (rule:∀(i j:Int)(t u:Tok)(s:Ce)(Q:B_)(E:B_),Q (.int (g i j) s.toks) { s with toks:=s.toks+1 }->wpAny (Du X) X.A (f (.int i t) (.int j u)) Q E s):
  OpR X f (rI0 λi j=>.int (g i j)):=by
 intro pins s σ H x y v u Q I rx ry h;obtain⟨i,j,rfl,rfl,q⟩:=h;obtain⟨t,rfl⟩:=rx;obtain⟨t',rfl⟩:=ry;exact rule i j t t' s _ _ ⟨.int (g i j),H,I.tok _,⟨_,rfl⟩,q⟩
def xN{f:Value->Value->Sem Value}{g:Int->Int->Bool}
  (rule:∀(i j:Int)(t u:Tok)(s:Ce)(Q:B_)(E:B_),Q (.bool (g i j)) s->wpAny (Du X) X.A (f (.int i t) (.int j u)) Q E s):
  OpR X f (rI0 λi j=>.bl (g i j)):=by
 intro pins s σ H x y v u Q I rx ry h;obtain⟨i,j,rfl,rfl,q⟩:=h;obtain⟨t,rfl⟩:=rx;obtain⟨t',rfl⟩:=ry;exact rule i j t t' s _ _ ⟨.bl (g i j),H,I,rfl,q⟩
def pY(i j:Int):Prop:=0<j/\j<1073741824
def A6(i j:Int):Prop:=0<=j/\j<=1000000/\i.natAbs<2 ^ 64
def i9(i j:Int):Prop:=(-(2 ^ 64)<i/\i<2 ^ 64)\/(-(2 ^ 64)<j/\j<2 ^ 64)
def i9.ok(h:i9 i j):IntMulOk i j:=by
 rcases h with⟨h1,h2⟩|⟨h1,h2⟩
 .exact .of_left (intBits_le_64 h1 h2)
 .exact .of_right (intBits_le_64 h1 h2)
def rK:OpR X (binaryOp .Add) (rI0 λi j=>.int (i+j)):=A5 λ_ _ _ _ _ _ _ q=>add_int q
def rL:OpR X (binaryOp .Sub) (rI0 λi j=>.int (i-j)):=A5 λ_ _ _ _ _ _ _ q=>sub_int q
def rM:OpR X (binaryOp .Mult) (rI i9 λi j=>.int (i*j)):=opI λ_ _ _ _ _ _ _ hc q=>mul_int q hc.ok
def mY:OpR X (binaryOp .FloorDiv) (rI pY λi j=>.int (i / j)):=opI λi j _ _ _ _ _ hc q=>by have h1:(0:Int)<j:=hc.1;have h2:j<1073741824:=hc.2;exact floordiv_int (by omega) (by rw[Int.fdiv_eq_ediv_of_nonneg i (by omega)];exact q) (.inl (PyProof.noPylong_small (by omega)))
def rN:OpR X (binaryOp .Mod) (rI (λ_ j=>0<j) λi j=>.int (i % j)):=opI λi j _ _ _ _ _ hc q=>by have h1:(0:Int)<j:=hc;exact mod_int' (by omega) (by rw[Int.fmod_eq_emod_of_nonneg i (by omega)];exact q)
def mZ:OpR X (binaryOp .Mod) (rI (λ_ j=>j≠0) λi j=>.int (i.fmod j)):=opI λ_ _ _ _ _ _ _ hc q=>mod_int' hc q
def unI{f:Value->Sem Value}{g:Int->Int}
  (rule:∀(i:Int)(t:Tok)(s:Ce)(Q:B_)(E:B_),Q (.int (g i) s.toks) { s with toks:=s.toks+1 }->wpAny (Du X) X.A (f (.int i t)) Q E s):
  UnR X f (rU λi=>.int (g i)):=by
 intro pins s σ H x v Q I rx h;obtain⟨i,rfl,q⟩:=h;obtain⟨t,rfl⟩:=rx;exact rule i t s _ _ ⟨.int (g i),H,I.tok _,⟨_,rfl⟩,q⟩
def i_:UnR X (unaryOp .USub) (rU λi=>.int (-i)):=unI λ_ _ _ _ _ q=>neg_int q
end
section
variable {X:Cx}{a b c:Co}{ta tb tc:TE}{pos:Pos}
def rO(I:Inv X pins σ H s)(q:Q (.bl k) H)(e:k=k'):EP X pins σ Q (.bool k') s:=by subst e;exact⟨.bl k,H,I,rfl,q⟩
def rP:OpR X (compareOp .Lt) (rI0 λi j=>.bl (decide (i<j))):=xN λ_ _ _ _ _ _ _ q=>lt_int q
def xO:OpR X (compareOp .LtE) (rI0 λi j=>.bl (decide (i<=j))):=xN λ_ _ _ _ _ _ _ q=>le_int q
def aO:OpR X (compareOp .Gt) (rI0 λi j=>.bl (decide (j<i))):=xN λ_ _ _ _ _ _ _ q=>gt_int q
def bW:OpR X (compareOp .In) (λx y H Q=>∃i j,x=.str i/\y=.str j/\Q (.bl (!(Builtin.Str.occurrences j i 0 j.length 1).isEmpty)) H):=by intro pins s σ H x y v u Q I rx ry h;obtain⟨i,j,rfl,rfl,q⟩:=h;obtain⟨t,rfl⟩:=rx;obtain⟨t',rfl⟩:=ry;exact in_str (rO I q rfl)
def OpR.or(h:OpR X f r)(h':OpR X f r'):OpR X f (λx y H Q=>r x y H Q\/r' x y H Q):=by
 intro pins s σ H x y v u Q I rx ry q;rcases q with q|q
 .exact h pins s σ H x y v u Q I rx ry q
 .exact h' pins s σ H x y v u Q I rx ry q
def Z4(b:Co)(h:op≠.In:=by decide)(h2:op≠.NotIn:=by decide):behindInMarks op b=false:=by
 have e1:(op==CmpOp.In)=false:=by cases op<;>first|rfl|exact absurd rfl h
 have e2:(op==CmpOp.NotIn)=false:=by cases op<;>first|rfl|exact absurd rfl h2
 cases b<;>simp[behindInMarks,e1,e2]
def bX(ho:OpR X (compareOp op) r)(ha:PE X a ta)(hb:PE X b tb)(hm:behindInMarks op b=false):PE X (.Compare a [op] [b] pos) (tOp r ta tb):=by intro pins s σ H Q I h;exact wpAny_Compare1 (xJ ha hb I h λv u s2 x y H2 I2 rx ry q=>ho pins s2 σ H2 x y v u Q I2 rx ry q) hm
def m4(t:TE):TT:=λσ H Q=>t σ H λx H'=>∃k,x=.bl k/\Q k H'
def Xq(ho:OpR X (compareOp op) r)(ha:PE X a ta)(hb:PE X b tb)(hm:behindInMarks op b=false):PT X (.Compare a [op] [b] pos) (m4 (tOp r ta tb)):=by
 intro pins s σ H Q I h;refine wpAny_isTrue_Compare1 (thn (ha pins s σ H _ I h) λv s1 ⟨x,H1,I1,r1,q1⟩=>thn (hb pins s1 σ H1 _ I1 q1) λu s2 ⟨y,H2,I2,r2,q2⟩=>
  thn (ho pins s2 σ H2 x y v u _ I2 r1 r2 q2) λc s3 ⟨z,H3,I3,r3,k,e,q3⟩=>?_) hm
 subst e;cases r3;exact W1 ⟨H3,I3,q3⟩
def V9:(sizeLine:Nat)<2 ^ 63:=by rw[N4];decide
def aQ:OpR X (binaryOp .Add) (λx y H Q=>∃i j,x=.str i/\y=.str j/\i.length+j.length<=sizeLine/\Q (.str (i++j)) H):=by intro pins s σ H x y v u Q I rx ry h;obtain⟨i,j,rfl,rfl,hz,q⟩:=h;obtain⟨t,rfl⟩:=rx;obtain⟨t',rfl⟩:=ry;exact add_str (λt' tk=>⟨.str (i++j),H,I.tok _,⟨_,rfl⟩,q⟩) hz
def vals1(r:Vals [x] us):∃u,us=[u]/\RelV x u:=by
 cases r with
 |cons r1 r2=>cases r2;exact⟨_,rfl,r1⟩
def vals2(r:Vals [x,y] us):∃u w',us=[u,w']/\RelV x u/\RelV y w':=by
 cases r with
 |cons r1 r2=>
  cases r2 with
  |cons r3 r4=>cases r4;exact⟨_,_,rfl,r1,r3⟩
def A7(K:Cr)(x:V)(H:Hp)(n:Nat):Prop:=
 match x with
 |.str y=>y.length<=sizeLine/\n=y.length
 |.byt y=>y.size<=sizeLine/\n=y.size
 |.ref p=>(∃xs,SqL K H p xs/\n=xs.length)\/∃xs,SqT K H p xs/\n=xs.length
 |_=>False
def gh:ZG X (.builtin "len") (λxs H Q=>∃x n,xs=[x]/\A7 X.K x H n/\Q (.int n) H):=by
 intro pins s σ H xs us Q I r h;obtain⟨x,n,rfl,e,q⟩:=h;obtain⟨u,rfl,rx⟩:=vals1 r;have hl:=V9;have hs:sizeLine=16777216:=N4;cases x with
 |str y=>obtain⟨t,rfl⟩:=rx;obtain⟨hy,e'⟩:y.length<=sizeLine/\n=y.length:=e;subst e';exact len_str (by omega) ⟨.int _,H,I.tok _,⟨_,rfl⟩,q⟩
 |byt y=>obtain⟨t,rfl⟩:=rx;obtain⟨hy,e'⟩:y.size<=sizeLine/\n=y.size:=e;subst e';exact PySem.W.len_bytes (by omega) ⟨.int _,H,I.tok _,⟨_,rfl⟩,q⟩
 |ref p=>
  cases rx;have e':(∃xs,SqL X.K H p xs/\n=xs.length)\/∃xs,SqT X.K H p xs/\n=xs.length:=e;rcases e' with⟨xs,hx,e'⟩|⟨xs,hx,e'⟩
  .subst e';obtain⟨its,r',pl,hz⟩:=I.list hx;have hlen:=r'.length;exact Calls.call_len_list pl.isList (by simp only[List.size_toArray];omega) ⟨.int xs.length,H,I.tok _,⟨_,by simp only[List.size_toArray];rw[hlen]⟩,q⟩
  .subst e';obtain⟨its,r',pl,hz⟩:=I.tuple hx;have hlen:=r'.length;exact len_tuple pl (by simp only[List.size_toArray];omega) ⟨.int xs.length,H,I.tok _,⟨_,by simp only[List.size_toArray];rw[hlen]⟩,q⟩
 |_=>exact(show False from e).elim
end
structure xP(h:Heap)(x dx C:Addr)(mA:Cc):Prop where
 obj:h.get? x=some (PySem.W.instObj C dx)
 ns:h.Ns1 dx mA
 ne:dx≠x
def Jh{h:Heap}{dx:Addr}{mA:Cc}(n:h.Ns1 dx mA):∃od,h.get? dx=some od/\∀name,PySem.W.lookIn name od=some (mA name):=by
 obtain⟨o,es,ep,ho,hd,hk,_,hm⟩:=n;refine⟨o,ho,λname=>?_⟩;have e:=hm name;unfold nsFind findBy at e;rw[<- a15]at e;unfold PySem.W.lookIn;rw[hd];dsimp only;split
 .rename_i y q;rw[q]at e;exact M5 some e
 .rename_i q;rw[q]at e;have a:es.toList.any (·.refKey)=false:=by rw[List.any_eq_false];intro y hy;obtain⟨z,t,hkey⟩:=hk y (a1O.mp hy);simp[DictEntry.refKey,hkey]
  have a':¬es.toList.any (·.refKey)=true:=by rw[a];exact C9
  rw[if_neg a'];exact M5 some e
def xP.look(I:xP h x dx C mA):∃od,PySem.W.InstAt h x (PySem.W.instObj C dx) C (some od)/\∀name,PySem.W.lookIn name od=some (mA name):=
 let⟨od,ho,hl⟩:=Jh I.ns
 ⟨od,⟨I.obj,rfl,rfl,ho⟩,hl⟩
section
variable {prog:Cq}{w:Cv}{A:Cz}{E:B_}{s:Ce}{K:Cr}{x dx C f:Addr}{mA:Cc}{name:Str}{v:Value}
end
def Xf(f:Str)(v:V):List (Str×V)->List (Str×V)
 |[]=>[(f,v)]
 | (g,x)::r=>if g=f then(g,v)::r else(g,x)::Xf f v r
def Ji(f g:Str)(v:V):∀fs:List (Str×V),(Xf f v fs).lookup g=if g=f then some v else fs.lookup g
 |[]=>by
  show List.lookup g [(f,v)]=_;by_cases h:g=f
  .have hb:(g==f)=true:=F9.mpr h;simp only[List.lookup,hb,if_pos h]
  .have hb:(g==f)=false:=O2.mpr h;simp only[List.lookup,hb,if_neg h]
 | (k,x)::r=>by
  have ih:=Ji f g v r;rw[show Xf f v ((k,x)::r)=(if k=f then(k,v)::r else(k,x)::Xf f v r)from rfl];by_cases hk:k=f
  .rw[if_pos hk];by_cases h:g=k
   .have hb:(g==k)=true:=F9.mpr h;simp only[List.lookup,hb,if_pos (h.trans hk)]
   .have hb:(g==k)=false:=O2.mpr h;simp only[List.lookup,hb,if_neg (λe:g=f=>h (e.trans hk.symm))]
  .rw[if_neg hk];by_cases h:g=k
   .have hb:(g==k)=true:=F9.mpr h;simp only[List.lookup,hb,if_neg (λe:g=f=>hk (h.symm.trans e))]
   .have hb:(g==k)=false:=O2.mpr h;simp only[List.lookup,hb];exact ih
def Jj(f:Str)(v:V):∀fs:List (Str×V),f∈(Xf f v fs).map (·.1)/\∀g,g∈fs.map (·.1)->g∈(Xf f v fs).map (·.1)
 |[]=>⟨by simp[Xf],λg h=>by simp at h⟩
 | (k,x)::r=>by
  obtain⟨i1,i2⟩:=Jj f v r;rw[show Xf f v ((k,x)::r)=(if k=f then(k,v)::r else(k,x)::Xf f v r)from rfl];by_cases hk:k=f
  .rw[if_pos hk];subst hk;exact⟨by simp,λg h=>by simpa using h⟩
  .rw[if_neg hk];refine⟨?_,λg h=>?_⟩
   .rw[C8];exact B4 _ i1
   .rw[C8]at h ⊢;rcases C5.mp h with e|e
    .exact C5.mpr (.inl e)
    .exact B4 _ (i2 g e)
def Jk(f:Str)(v:V):∀fs:List (Str×V),(Xf f v fs).length<=fs.length+1
 |[]=>by simp[Xf]
 | (k,x)::r=>by
  have ih:=Jk f v r;rw[show Xf f v ((k,x)::r)=(if k=f then(k,v)::r else(k,x)::Xf f v r)from rfl];by_cases hk:k=f
  .rw[if_pos hk,B0,B0];omega
  .rw[if_neg hk,B0,B0];omega
def K4.some_of(r:K4 (some v) o):∃u,o=some u/\RelV v u:=by
 cases o with
 |none=>exact(show False from r).elim
 |some u=>exact⟨u,rfl,r⟩
def m5(hok:HOk P w H h)(e:H a=some (.ins C dx fs)):∃mA,xP h a dx C mA/\(∀f,K4 (fs.lookup f) (mA f))/\PySem.Within mA (fs.map (·.1))/\fs.length<=1000/\H dx=some (.own a):=by obtain⟨d,z,ne,ob,mA,n,r,q⟩:=(show yk P w H h a (.ins C dx fs)from hok a _ e);exact⟨mA,⟨ob,n,ne⟩,r,q,z,d⟩
structure Cls(K:Cr)(C:Addr):Prop where
 pg:PySem.W.plainGet K C Str.empty=true
 hd:PySem.W.hasDictIn K C=true
 po:PySem.W.plainOver K C=true
 sa:PySem.W.findIn K (.ref C) "__setattr__"=some (some (.builtin "object.__setattr__"))
def Cls.get{K:Cr}{C:Addr}(c:Cls K C)(f:Str):PySem.W.plainGet K C f=true:=c.pg
section
variable {X:Cx}{pins:Ca}{σ:St}{H:Hp}{s:Ce}{a C dx:Addr}{fs:CP}{f:Str}{v:V}{A:Cz}{E:B_}
end
section
variable {X:Cx}{o e value:Co}{f:Str}{pos pos' tpos:Pos}{ta tv:TE}
end
section
variable {X:Cx}{pins:Ca}{σ:St}{H:Hp}{s:Ce}{A:Cz}{E:B_}{Q:B_}{c:Value}{b:Bool}
inductive bH(K:Cr)(H:Hp):V->Value->Prop where
 |non:bH K H .non (.type "NoneType")
 |bl (x:Bool):bH K H (.bl x) (.type "bool")
 |int (i:Int):bH K H (.int i) (.type "int")
 |str (x:Str):bH K H (.str x) (.type "str")
 |flt (x:UInt64):bH K H (.flt x) (.type "float")
 |lst {a:Addr}{xs:Ck}(e:H a=some (.lst xs)):bH K H (.ref a) (.type "list")
 |frz {a:Addr}{o:Obj}{xs:Ck}(e:H a=some (.frz o (.lst xs))):bH K H (.ref a) (.type "list")
 |tup {a:Addr}{xs:Ck}(e:H a=some (.tup xs)):bH K H (.ref a) (.type "tuple")
 |dK {a:Addr}{kvs:Cf}(e:H a=some (.dK kvs)):bH K H (.ref a) (.type "dict")
 |dT {a:Addr}{kvs:Dh}(e:H a=some (.dT kvs)):bH K H (.ref a) (.type "dict")
 |ins {a C dx:Addr}{fs:CP}(e:H a=some (.ins C dx fs)) (cl:Cls K C) (ha:PySem.W.findIn K (.ref C) "__class__"=some (some (.builtin "object.__class__")))
   (hn:PySem.W.specialIn K (.builtin "object.__class__") "__get__"=some (some (.builtin "getset_descriptor.__get__"))) (htk:PySem.W.takesIn K (.builtin "object.__class__")=some true)
   (hm:PySem.W.mroIn K C (.type "object")=some true):bH K H (.ref a) (.ref C)
end
structure jd(k:Nat)(A:Cz):Prop where
 hd:A.handled=none
 dp:A.depth+3*k+5<recursionLimit
 un:A.units+16*k+200<cLine
def jd.mono(r:jd k A)(h:j<=k):jd j A:=⟨r.hd,by have:=r.dp;omega,by have:=r.un;omega⟩
def jd.deeper(r:jd (k+1) A)(env:Env):jd k (A.deeper env):=
 ⟨r.hd,by have:=r.dp;show A.depth+1+3*k+5<_;omega,by have:=r.un;show A.units+3+16*k+200<_;omega⟩
def jd.in1(r:jd (k+1) A):jd k A.in1:=
 ⟨r.hd,by have:=r.dp;show A.depth+3*k+5<_;omega,by have:=r.un;show A.units+1+16*k+200<_;omega⟩
def aR{A:Cz}{C:Addr}{us:Cg}{kw:CW}:(A.under (.builtin "type.__call__" ⟨.ref C::us,kw⟩)).depth=A.depth+1:=by
 first|rfl|simp[Around.under,Code.weight,Code.isCreation,Code.isGuard,Code.isCaller,Code.frames,Code.isFrame,guardIds]
def aS{A:Cz}{C:Addr}{us:Cg}{kw:CW}:(A.under (.builtin "type.__call__" ⟨.ref C::us,kw⟩)).units=A.units+1:=by
 first|rfl|simp[Around.under,Code.cUnits,Code.frames,Code.isFrame]
def jd.make(r:jd (k+1) A)(C:Addr)(us:Cg)(kw:CW):jd k (A.under (.builtin "type.__call__" ⟨.ref C::us,kw⟩)):=
 ⟨r.hd,by have:=r.dp;rw[aR];omega,by have:=r.un;rw[aS];omega⟩
def jd.depth(r:jd k A):A.depth<recursionLimit:=by have:=r.dp;omega
def jd.units(r:jd k A):A.units+64<cLine:=by have:=r.un;omega
def A8:TA:=λ_ H Q=>Q [] H
def rQ(ta:TE)(tr:TA):TA:=λσ H Q=>ta σ H λx H1=>tr σ H1 λxs H2=>Q (x::xs) H2
section
variable {X:Cx}{e:Co}{es:Ci}{te:TE}{t:TA}{pos:Pos}
def KA:PA X [] A8:=λ_ _ _ _ H Q I h=>a09 ⟨[],H,I,.nil,h⟩
def ZH(ha:PE X e te)(hr:PA X es t)(hs:starEach (e::es) X.env=(false,eval e X.env)::starEach es X.env:=by rfl):PA X (e::es) (rQ te t):=by intro pos pins s σ H Q I h;rw[hs];show wpAny _ _ (spliced ((false,eval e X.env)::backTo pos (starEach es X.env))) _ _ s;refine a0q (thn (ha pins s σ H _ I h) λu s1 ⟨x,H1,I1,r1,q1⟩=>?_);exact thn (hr pos pins s1 σ H1 _ I1 q1) λus s2 ⟨xs,H2,I2,r2,q2⟩=>⟨x::xs,H2,I2,.cons r1 r2,q2⟩
def BG(t:TA):TE:=λσ H Q=>t σ H λxs H1=>xs.length<=sizeLine/\∀p,H1 p=none->Q (.ref p) (upd H1 p (.tup xs))
def BH(t:TA):TE:=λσ H Q=>t σ H λxs H1=>xs.length<=sizeLine/\∀p,H1 p=none->Q (.ref p) (upd H1 p (.lst xs))
def rR{x1}(h:PA X es t):PE X (.Tuple es x1 pos) (BG t):=by intro pins s σ H Q I hq;refine wpAny_Tuple_spliced (thn (h pos pins s σ H _ I hq) λus s1 ⟨xs,H1,I1,r,z,q⟩=>⟨by rw[<- r.length];exact z,?_⟩);have hf:H1 s1.heap.objs.size=none:=I1.hok.fresh (B7 _);refine⟨.ref s1.heap.objs.size,upd H1 s1.heap.objs.size (.tup xs),I1.laid (t':=s1.toks) (λb u e=>B6 _ e) (B7 _) ?_,rfl,q _ hf⟩;exact⟨z,us,r,⟨_,E2 _ rfl,rfl,_,rfl⟩⟩
def rS(h:PA X es t):PE X (.List es pos) (BH t):=by intro pins s σ H Q I hq;refine wpAny_List_spliced (thn (h pos pins s σ H _ I hq) λus s1 ⟨xs,H1,I1,r,z,q⟩=>⟨by rw[<- r.length];exact z,?_⟩);have hf:H1 s1.heap.objs.size=none:=I1.hok.fresh (B7 _);refine⟨.ref s1.heap.objs.size,upd H1 s1.heap.objs.size (.lst xs),I1.laid (t':=s1.toks) (λb u e=>B6 _ e) (B7 _) ?_,rfl,q _ hf⟩;exact⟨z,us,0,r,E2 _ rfl⟩
end
abbrev Sp:=List V->Hp->VK->XK->Prop
abbrev CXT:=List Env->Hp->Shared->XK->Value->Shared->Prop
structure fT(P:Cq)(w:Cv)(K:Cr)(mg:Cc)(base:Heap)(A:Cz)(outer:List Env)(s:Ce)(H:Hp):Prop where
 frames:A.frames=some outer
 mod:Mod K mg base
 bs:∀b o,base.get? b=some o->s.heap.get? b=some o/\H b=none
 bsz:base.objs.size<=s.heap.objs.size
 Xm:s.heap.FunFrames base outer
 frf:∀b∈frs outer,H b=none
 hok:HOk P w H s.heap
 bare:AllBare s.gens
def CE(outer:List Env)(P:Cq)(w:Cv)(H:Hp)(s:Ce)(Q:VK)(u:Value)(s':Ce):Prop:=
 ∃v H',s'.os=s.os/\AllBare s'.gens/\Un (frs outer) [] H H' s.heap s'.heap/\HOk P w H' s'.heap/\RelV v u/\Q v H'
def CR(CX:CXT)(outer:List Env)(P:Cq)(w:Cv)(H:Hp)(s:Ce)(Q:VK)(E:XK)(r:Result)(s':Ce):Prop:=
 match r with
 |.ok (.ret u)=>CE outer P w H s Q u s'
 |.ok _=>False
 |.error e=>CX outer H s E e s'
structure qQ(P:Cq)(w:Cv)(K:Cr)(mg:Cc)(base:Heap)(CX:CXT)(k:Nat)(f:Addr)(fd:CA)(ps:Cn)(sp:Sp):Prop where
 len:∀vs H Q E,sp vs H Q E->vs.length=ps.length
 run:∀(A:Cz)(outer:List Env)(s:Ce)(H:Hp)(args:Args)(us:Cg)(vs:Ck) (Q:VK) (E:XK),jd k A->fT P w K mg base A outer s H->BindsTo s fd args (ps.zip us)->Vals vs us->sp vs H Q E->
  codeAny (model P w) A (.call (.ref f) args) (CR CX outer P w H s Q E) s
def qQ.imp{P:Cq}{w:Cv}{K:Cr}{mg:Cc}{base:Heap}{CX:CXT}{k:Nat}{f:Addr}{fd:CA}{ps:Cn}{sp sp':Sp}(F:qQ P w K mg base CX k f fd ps sp)
  (h:∀vs H Q E,sp' vs H Q E->sp vs H Q E):qQ P w K mg base CX k f fd ps sp':=
 ⟨λvs H Q E q=>F.len vs H Q E (h _ _ _ _ q),λA outer s H args us vs Q E hr he hb hv hs=>F.run A outer s H args us vs Q E hr he hb hv (h _ _ _ _ hs)⟩
def fT.make{P:Cq}{w:Cv}{K:Cr}{mg:Cc}{base:Heap}{A:Cz}{outer:List Env}{s:Ce}{H:Hp}(e:fT P w K mg base A outer s H)(C:Addr)(us:Cg)(kw:CW):
  fT P w K mg base (A.under (.builtin "type.__call__" ⟨.ref C::us,kw⟩)) outer s H:=⟨by first|exact e.frames|(simpa[Around.under,Code.envs,Code.isFrame,pushEnvs]using e.frames),e.mod,e.bs,e.bsz,e.Xm,e.frf,e.hok,e.bare⟩
def Inv.fU(I:Inv X pins σ H s):fT X.prog X.w X.K X.mg X.base X.A X.stack s H:=
 ⟨I.ok.frames,I.ok.mod,I.bs,E3 I.ok.bsz I.sz,I.stack,I.K5,I.hok,I.bare⟩
def Inv.after(I:Inv X pins σ H s)(h:CE X.stack X.prog X.w H s Q u s'):EP X pins σ Q u s':=by obtain⟨v,H',os,bare,un,hok,r,q⟩:=h;obtain⟨hh,g,d,t,os'⟩:=s';obtain rfl:os'=s.os:=os;exact⟨v,H',I.call (h':=hh) (g':=g) (d':=d) (t':=t) (ch:=[]) un hok bare (λb z=>absurd z (by simp)),r,q⟩
def xQ(sp:Sp)(dvs:Ck)(E:XK)(t:TA):TE:=λσ H Q=>t σ H λvs H1=>sp (vs++dvs) H1 Q E
def Binds(K:Cr)(fd:CA)(ps:Cn)(ds:Cg):Prop:=
 ∀(s:Ce)(us:Cg),K.In s.heap->(us++ds).length=ps.length->BindsTo s fd ⟨us,[]⟩ (ps.zip (us++ds))
def Binds.all{K:Cr}{fd:CA}{ps:Cn}(h:∀us:List Value,us.length=ps.length->bindArgs fd ⟨us,[]⟩=pure (ps.zip us)):Binds K fd ps []:=λs us _ hl=>by rw[F0]at hl ⊢;exact .of_eq (h us hl)
def Passes(CX:CXT)(X:Cx)(E:XK):Prop:=∀(pins:Ca)(σ:St)(H:Hp)(s:Ce)(e:Value)(s':Ce),Inv X pins σ H s->CX X.stack H s E e s'->X.xe e s'
def rT(F:qQ X.prog X.w X.K X.mg X.base CX k f fd ps sp)(hr:jd k X.A)(hb:Binds X.K fd ps ds)(hd:Vals dvs ds)(hx:Passes CX X E)
  (I:Inv X pins σ H s) (r:Vals vs us) (h:sp (vs++dvs) H Q E):wpAny (Du X) X.A (call (.ref f) us) (EP X pins σ Q) X.xe s:=by
 have r2:Vals (vs++dvs) (us++ds):=r.append hd;have hl:(us++ds).length=ps.length:=by rw[<- r2.length];exact F.len _ _ _ _ h
 refine a0d (a0r (F.run X.A X.stack s H ⟨us,[]⟩ (us++ds) (vs++dvs) Q E hr I.fU (hb s us I.kIn hl) r2 h) λr s' hq=>?_);cases r with
 |error e=>exact hx pins σ H s e s' I hq
 |ok fl=>
  cases fl with
  |ret u=>exact I.after hq
  |next=>exact False.elim hq
  |brk=>exact False.elim hq
  |cont=>exact False.elim hq
def K6(F:qQ X.prog X.w X.K X.mg X.base CX k f fd ps sp)(hr:jd k X.A)(hg:Gl X x)(hm:X.mg x=some (.ref f))(hk:PySem.W.keepIn X.K (.ref f)=true)(hb:Binds X.K fd ps ds)(hd:Vals dvs ds)(hx:Passes CX X E)
  (ha:PA X (e::es) t) (hdb:(x==("__debug__":Str))=false:=by decide) (he:starEach (e::es) X.env=(false,eval e X.env)::starEach es X.env:=by rfl) (hpl:(backTo pos (starEach es X.env)).any (·.1)=false:=by rfl):
  PE X (.Call (.Name x p) (e::es) [] pos) (xQ sp dvs E t):=by
 intro pins s σ H Q I h;refine N7 (Xn I hg hm ?_ hdb);refine a16 (h₀:=X.base) I.ok.mod.kin hk (thn (ha pos pins s σ H _ I h) λus s1 ⟨vs,H1,I1,r,q⟩=>⟨I1.kIn,?_⟩) he hpl;exact rT F hr hb hd hx I1 r q
def PK(X:Cx)(kws:List Keyword)(t:TA):Prop:=
 ∀(pos:Pos)(pins:Ca)(s:Ce)(σ:St)(H:Hp)(Q:List V->Hp->Prop),Inv X pins σ H s->t σ H Q->wpAny (Du X) X.A (evalAll ((backToKw pos (keywordEach kws X.env)).map (·.2))) (AP X pins σ Q) X.xe s
section
variable {X:Cx}{CX:CXT}{k:Nat}{f C:Addr}{fd:CA}{ps ks:Cn}{sp:Sp}{E:XK}{x m:Str}{p pos ky kpos:Pos}{e o:Co}{es:Ci}{kws:List Keyword}{te ta:TE}{t tk:TA}{nm:Option Str}
def rV:PK X [] A8:=λ_ _ _ _ H Q I h=>wpAny_evalAll_nil ⟨[],H,I,.nil,h⟩
def m6(ha:PE X e te)(hr:PK X kws t):PK X (⟨nm,e,kpos⟩::kws) (rQ te t):=by intro pos pins s σ H Q I h;show wpAny _ _ (evalAll ((do let v<-eval e X.env;standAt pos;pure v)::(backToKw pos (keywordEach kws X.env)).map (·.2))) _ _ s;refine a17 (f8 (thn (ha pins s σ H _ I h) λu s1 ⟨x,H1,I1,r1,q1⟩=>f8 (T8 (B8 ?_))));exact thn (hr pos pins s1 σ H1 _ I1 q1) λus s2 ⟨xs,H2,I2,r2,q2⟩=>⟨x::xs,H2,I2,.cons r1 r2,q2⟩
variable {g:List Value->List Value->List Value}{gV:List V->List V->List V}
end
structure zr(N P:Cn)(sc:Scope):Prop where
 kind:sc.kind=.function
 co:sc.isCoroutine=false
 gen:sc.isGenerator=false
 nd:N.Nodup
 pre:N.take P.length=P
 par:∀x∈P,sc.names.lookup x=some .local\/sc.names.lookup x=some .cell
 xi:∀y∈sc.names,y.2≠.free
def V_{kindOf:De}{x:Str}:∀{binds:CW}{m:Cc},(∀v,(x,v)∉binds)->bindL kindOf binds m x=m x
 |[],_,_=>rfl
 | (n,v)::r,m,h=>by
  unfold bindL;rw[V_ λw hw=>h w (B4 _ hw)];split
  .have:x≠n:=by rintro rfl;exact h v B3
   simp[this]
  .rfl
def Wa{kindOf:De}{x:Str}:∀{binds:CW}{m:Cc},(∀v,(x,v)∉binds)->bindC kindOf binds m x=m x
 |[],_,_=>rfl
 | (n,v)::r,m,h=>by
  unfold bindC;rw[Wa λw hw=>h w (B4 _ hw)];split
  .rfl
  .have:x≠n:=by rintro rfl;exact h v B3
   simp[this]
def Wb{kindOf:De}{x:Str}{v:Value}:∀{P:Cn}{vs:Cg}{i:Nat}{m:Cc},P.Nodup->P[i]?=some x->vs[i]?=some v->kindOf x=some .local->
  bindL kindOf (P.zip vs) m x=some v
 |[],_,_,_,_,h,_,_=>by simp at h
 |_::_,[],_,_,_,_,h,_=>by simp at h
 |p::P,w::vs,0,m,nd,h1,h2,hk=>by simp at h1 h2;subst h1;subst h2;show bindL kindOf ((p,w)::P.zip vs) m p=_;unfold bindL;rw[V_ λv hv=>(G6.mp nd).1 (a1A hv).1,if_pos hk];simp
 |p::P,w::vs,i+1,m,nd,h1,h2,hk=>by show bindL kindOf ((p,w)::P.zip vs) m x=_;unfold bindL;exact Wb (i:=i) (G6.mp nd).2 (by simpa using h1) (by simpa using h2) hk
def Wc{kindOf:De}{x:Str}{v:Value}:∀{P:Cn}{vs:Cg}{i:Nat}{m:Cc},P.Nodup->P[i]?=some x->vs[i]?=some v->kindOf x≠some .local->
  bindC kindOf (P.zip vs) m x=some v
 |[],_,_,_,_,h,_,_=>by simp at h
 |_::_,[],_,_,_,_,h,_=>by simp at h
 |p::P,w::vs,0,m,nd,h1,h2,hk=>by simp at h1 h2;subst h1;subst h2;show bindC kindOf ((p,w)::P.zip vs) m p=_;unfold bindC;rw[Wa λv hv=>(G6.mp nd).1 (a1A hv).1,if_neg hk];simp
 |p::P,w::vs,i+1,m,nd,h1,h2,hk=>by show bindC kindOf ((p,w)::P.zip vs) m x=_;unfold bindC;exact Wc (i:=i) (G6.mp nd).2 (by simpa using h1) (by simpa using h2) hk
def start(N:Cn)(vs:Ck):St:=vs.map some++List.replicate (N.length-vs.length) none
def aT(CX:CXT)(P:Cq)(w:Cv)(K:Cr)(mg:Cc)(base:Heap)(N:Cn)(qual:Str)(scope:Scope)(f:Addr)(cd:Value)(A:Cz)(outer:List Env)(s:Ce)(H:Hp)(E:XK):Cx where
 prog:=P
 w:=w
 K:=K
 mg:=mg
 base:=base
 A:=A.deeper (envOfC qual scope s.heap.objs.size f cd)
 N:=N
 s₀:=s
 H₀:=H
 env:=envOfC qual scope s.heap.objs.size f cd
 outer:=outer
 stack:=envOfC qual scope s.heap.objs.size f cd::outer
 ex:=[]
 calm:=true
 fn:=λ_=>true
 pn:=[]
 xe:=λe s'=>wpAny (model P w) (A.deeper (envOfC qual scope s.heap.objs.size f cd)) (leaving (envOfC qual scope s.heap.objs.size f cd) e) (λ_ s''=>CX outer H s E e s'') (λe' s''=>CX outer H s E e' s'') s'
def Uy{sc:Scope}{n:Nat}{x:Str}(h:sc.names.lookup x=some .cell):∃c,(cellsFrom n sc.names []).lookup x=some c:=by have q:=a1D sc.names n [] (.inl h);exact L8.mp q
def bY{CX:CXT}{P:Cq}{w:Cv}{K:Cr}{mg:Cc}{base:Heap}{N ps:Cn}{qual:Str}{scope:Scope}{f:Addr}{cd:Value}{A:Cz}{outer:List Env}{s s1:Ce}{H:Hp}{E:XK}{us:Cg}{vs:Ck}
  (S:zr N ps scope) (hd:A.handled=none) (e0:fT P w K mg base A outer s H) (hl:vs.length=ps.length) (r:Vals vs us)
  (x:InCallC s s.heap.objs.size (bindL (envOfC qual scope s.heap.objs.size f cd).kindOf (ps.zip us) λ_=>none) (cellsFrom (s.heap.objs.size+1) scope.names []) (bindC (envOfC qual scope s.heap.objs.size f cd).kindOf (ps.zip us) λ_=>none) s1):
  Inv (aT CX P w K mg base N qual scope f cd A outer s H E) [] (start N vs) H s1:=by
 have hpl:ps.length<=N.length:=by have:=M5 List.length S.pre;rw[P4]at this;omega
 obtain⟨h1,tk,rfl,hk⟩:=x.done;have noA:∀b:Addr,b∉(aT CX P w K mg base N qual scope f cd A outer s H E).ex:=λb z=>absurd (show b∈([]:List Addr)from z) (by simp);refine⟨⟨e0.mod,S.kind,rfl,rfl,B7 _,λy z c h1 h2=>?_,λy hy=>?_,λy c _ h=>?_,λ_=>hd,a1P e0.frames,.inr ⟨rfl,rfl⟩,λb z=>absurd z (noA b),e0.bs,e0.bsz,λb _ _=>noA b,λb z=>absurd z (noA b),e0.Xm,e0.frf⟩,
  rfl,e0.bare,Un.kept hk,⟨_,x.toInCall.ns,λi y v h1 h2 h3=>?_⟩,λy c h=>⟨_,x.cell y c h⟩,e0.hok.fresh (B7 _),λy c h=>?_,λp hp=>absurd (show p∈([]:List (Addr×Obj))from hp) (by simp),e0.hok.kept hk,?_⟩
 .exact name_of_addr x.apart (O3 h1) (O3 h2)
 .have hy:scope.names.lookup y=some .cell\/scope.names.lookup y=some .free:=hy;rcases hy with hy|hy
  .exact Uy hy
  .exact absurd rfl (S.xi _ (O3 hy))
 .exact a0a (x.above y c (O3 h))
 .have hi:i<vs.length:=by
   unfold start at h2;by_cases hi:i<vs.length
   .exact hi
   .rw[F4 (by simpa using hi)]at h2;rw[T6]at h2;split at h2<;>cases h2
  have ha:vs[i]?=some v:=by
   unfold start at h2;rw[F2 (by simpa using hi),D5]at h2;cases e:vs[i]? with
   |none=>rw[e]at h2;cases h2
   |some a=>rw[e]at h2;cases h2;rfl
  obtain⟨u,hu,rv⟩:=r.get ha;have hp:ps[i]?=some y:=by rw[<- S.pre,List.getElem?_take_of_lt (by omega)];exact h1
  have ndP:ps.Nodup:=by rw[<- S.pre];exact S.nd.sublist (List.take_sublist _ _)
  refine⟨u,rv,?_⟩;rcases S.par y (O8 hp)with k|k
  .exact .inl ⟨k,Wb ndP hp hu k⟩
  .obtain⟨c,e⟩:=Uy (n:=s.heap.objs.size+1) k;refine .inr ⟨.inl k,c,e,?_⟩;have q:=x.cell y c e;rw[Wc ndP hp hu (by show scope.names.lookup y≠_;rw[k];decide)]at q;exact q
 .exact e0.hok.fresh (a0a (x.above y c (O3 h)))
 .unfold start;show _=N.length;rw[B5,u8,R8];omega
def rW{CX:CXT}{P:Cq}{w:Cv}{K:Cr}{mg:Cc}{base:Heap}{k:Nat}{f:Addr}{name qual:Str}{params:Arguments}{body:CQ}{scope:Scope}{dV kV doc pm cdv ct oc:Value}{an od:CH}
  {osl:CB}{N ps:Cn}{sp:Sp}(lk:K.lookup f=some ⟨oc,od,.func (PySem.W.fnOf name qual params body scope dV kV doc pm an cdv ct),osl⟩) (hcd:PySem.W.codeIn K cdv qual=true) (S:zr N ps scope)
  (len:∀vs H Q E,sp vs H Q E->vs.length=ps.length)
  (YU:∀(A:Cz)(outer:List Env)(s:Ce)(H:Hp)(vs:Ck)(Q:VK)(E:XK),jd k (A.deeper (envOfC qual scope s.heap.objs.size f cdv))->sp vs H Q E->
   ∃t,PSs (aT CX P w K mg base N qual scope f cdv A outer s H E) body t/\t { nx:=λ_ H'=>Q .non H',rt:=Q } (start N vs) H):
  qQ P w K mg base CX (k+1) f (PySem.W.fnOf name qual params body scope dV kV doc pm an cdv ct) ps sp:=by
 refine⟨len,λA outer s H args us vs Q E hr e0 hb r hsp=>?_⟩;have hl:=len _ _ _ _ hsp;have KX:K.In s.heap:=e0.mod.kin.keeps λb o e=>(e0.bs b o e).1;have lim:s.heap.NoLimit:=e0.mod.nolimit.keeps λb o e=>(e0.bs b o e).1;have hkind:∀y∈ps.zip us,scope.names.lookup y.1=some .local\/(scope.names.lookup y.1=some .cell/\((cellsFrom (s.heap.objs.size+1) scope.names []).lookup y.1).isSome=true):=λ⟨n,v⟩ hy=>by
  rcases S.par n (a1A hy).1 with q|q
  .exact .inl q
  .exact .inr ⟨q,a1D _ _ _ (.inl q)⟩
 refine codeAny_call_function hr.depth (KX _ _ lk) rfl S.co S.gen rfl (PySem.W.codeRec_of KX hcd) (hb _ _ _ _ ?_);refine wpAny_newFunctionEnv_cells S.kind hkind λenv he s1 x=>?_;subst he;refine⟨lim.keeps x.toInCall.keep,codeAny_func ?_⟩;obtain⟨t,ht,hq⟩:=YU A outer s H vs Q E (hr.deeper _) hsp;have I:Inv (aT CX P w K mg base N qual scope f cdv A outer s H E) [] (start N vs) H s1:=bY S hr.hd e0 hl r x;refine L4 (ht [] s1 (start N vs) H _ I hq) (λfl s' hs=>?_) λe s' hs=>hs;have fin:∀{σ':St}{H':Hp}{v:V}{u:Value},Inv (aT CX P w K mg base N qual scope f cdv A outer s H E) [] σ' H' s'->RelV v u->Q v H'->CE outer P w H s Q u s':=
  λ{σ' H' v u} J rv q=>⟨v,H',J.os,J.bare,J.base,J.hok,rv,q⟩
 cases fl with
 |ret u=>obtain⟨v,σ',H',J,rv,q⟩:=hs;exact fin J rv q
 |next=>obtain⟨σ',H',J,q⟩:=hs;exact fin (v:=V.non) (u:=Value.none) J rfl q
 |brk=>obtain⟨_,_,_,q⟩:=hs;exact False.elim q
 |cont=>obtain⟨_,_,_,q⟩:=hs;exact False.elim q
section
variable {X:Cx}{x:Str}{p pos:Pos}{e:Co}{es:Ci}{t:TA}{id T:String}{r:List V->Hp->VK->Prop}
def tCB(r:List V->Hp->VK->Prop)(t:TA):TE:=λσ H Q=>t σ H λvs H1=>r vs H1 Q
def Uz(hc:ZG X (.builtin id) r)(hg:Gl X x)(hm:X.mg x=none)(hv:bootBuiltins x=some (.builtin id))(ha:PA X (e::es) t)(hn:x≠"__name__":=by decide)(hdb:(x==("__debug__":Str))=false:=by decide)
  (he:starEach (e::es) X.env=(false,eval e X.env)::starEach es X.env:=by rfl) (hpl:(backTo pos (starEach es X.env)).any (·.1)=false:=by rfl):PE X (.Call (.Name x p) (e::es) [] pos) (tCB r t):=by
 intro pins s σ H Q I h;refine N7 (Qr I hg hm hv ?_ hn hdb);exact PyProof.Rows.callWith_builtin1 (thn (ha pos pins s σ H _ I h) λus s1 ⟨vs,H1,I1,r1,q1⟩=>hc pins s1 σ H1 vs us Q I1 r1 q1) he hpl
def bZ(hc:ZG X (.type T) r)(hg:Gl X x)(hm:X.mg x=none)(hv:bootBuiltins x=some (.type T))(ha:PA X (e::es) t)(hn:x≠"__name__":=by decide)(hdb:(x==("__debug__":Str))=false:=by decide)
  (he:starEach (e::es) X.env=(false,eval e X.env)::starEach es X.env:=by rfl) (hpl:(backTo pos (starEach es X.env)).any (·.1)=false:=by rfl):PE X (.Call (.Name x p) (e::es) [] pos) (tCB r t):=by
 intro pins s σ H Q I h;refine N7 (Qr I hg hm hv ?_ hn hdb);exact P9 (thn (ha pos pins s σ H _ I h) λus s1 ⟨vs,H1,I1,r1,q1⟩=>hc pins s1 σ H1 vs us Q I1 r1 q1) he hpl
end
end L2
namespace HT
open PySem PyProof.Rows
section
open PySem.SeqAt
open PySem.AutoSeq1 (wpAny_loadPart')
open PySem.MeetsSeq PySem.MeetsSeq2 PySem.MeetsSeq3
end
section
variable {prog:Cq}{w:Cv}{A:Cz}{E:B_}{s:Ce}
def sIx(n d:Nat):Option Int->Nat
 |none=>d
 |some v=>if v<0 then(v+(n:Int)).toNat else min v.toNat n
end
end HT
namespace L2
open PySem PySem.Spec PyProof.Rows
abbrev TO:=St->Hp->(Option Int->Hp->Prop)->Prop
def PO(X:Cx)(e:Dj)(t:TO):Prop:=
 ∀(pins:Ca)(s:Ce)(σ:St)(H:Hp)(Q:Option Int->Hp->Prop),Inv X pins σ H s->t σ H Q->
  wpAny (Du X) X.A (evalPart e X.env) (λu s'=>∃o H',Inv X pins σ H' s'/\IsPart u o/\Q o H') X.xe s
def m7:TO:=λ_ H Q=>Q none H
def xR(t:TE):TO:=λσ H Q=>t σ H λx H1=>∃i,x=.int i/\Q (some i) H1
section
variable {X:Cx}{e:Co}{te:TE}{lo hi:Dj}{tl th:TO}{pos p2:Pos}
def m8:PO X none m7:=by intro pins s σ H Q I h;rw[evalPart_none];exact B8 ⟨none,H,I,.none,h⟩
def m9(h:PE X e te):PO X (some e) (xR te):=by intro pins s σ H Q I hw;rw[evalPart_some];refine thn (h pins s σ H _ I hw) λu s1 ⟨x,H1,I1,r1,q1⟩=>?_;obtain⟨i,rfl,q⟩:=q1;obtain⟨t,rfl⟩:=r1;exact⟨some i,H1,I1,.int i t,q⟩
def SlR(X:Cx)(r:V->Option Int->Option Int->Hp->VK->Prop):Prop:=
 ∀(pins:Ca)(s:Ce)(σ:St)(H:Hp)(x:V)(v vl vu:Value)(lo hi:CU) (sl:Addr) (Q:VK),Inv X pins σ H s->RelV x v->s.heap.IsSliceOf sl vl vu .none->IsPart vl lo->IsPart vu hi->r x lo hi H Q->
  ∃T id,typeLookup (.type T) "__getitem__"=pure (some (.builtin id))/\s.TypeIs v T/\wpAny (Du X) X.A (getItem v (.ref sl)) (EP X pins σ Q) X.xe s
def SlR.or(h:SlR X r)(h':SlR X r'):SlR X (λx lo hi H Q=>r x lo hi H Q\/r' x lo hi H Q):=by
 intro pins s σ H x v vl vu lo hi sl Q I rx hs pl pu q;rcases q with q|q
 .exact h pins s σ H x v vl vu lo hi sl Q I rx hs pl pu q
 .exact h' pins s σ H x v vl vu lo hi sl Q I rx hs pl pu q
def tSl(r:V->Option Int->Option Int->Hp->VK->Prop)(te:TE)(tl th:TO):TE:=λσ H Q=>te σ H λx H1=>tl σ H1 λl H2=>th σ H2 λu H3=>r x l u H3 Q
def gi(hr:SlR X r)(he:PE X e te)(hl:PO X lo tl)(hu:PO X hi th):PE X (.Subscript e (.Slice lo hi none p2) pos) (tSl r te tl th):=by intro pins s σ H Q I h;refine Subscript_ (thn (he pins s σ H _ I h) λv s1 ⟨x,H1,I1,r1,q1⟩=>?_);refine wpAny_Slice (thn (hl pins s1 σ H1 _ I1 q1) λvl s2 ⟨l,H2,I2,pl,q2⟩=>thn (hu pins s2 σ H2 _ I2 q2) λvu s3 ⟨u,H3,I3,pu,q3⟩=>?_);rw[evalPart_none];refine B8 ?_;have I4:Inv X pins σ H3 { s3 with heap:=s3.heap.push { cls:=.type "slice",data:=.fields #[vl,vu,.none] } }:=I3.kept (t':=s3.toks) λb ob q=>B6 _ q;obtain⟨T,id,hT,ht,hg⟩:=hr pins { s3 with heap:=s3.heap.push { cls:=.type "slice",data:=.fields #[vl,vu,.none] } } σ H3 x v vl vu l u s3.heap.objs.size Q I4 r1 (Heap.IsSliceOf.new ..) pl pu q3;show wpAny (Du X) X.A (subscriptTail e (.Slice lo hi none p2) v (.ref s3.heap.objs.size)) (EP X pins σ Q) X.xe { s3 with heap:=s3.heap.push { cls:=.type "slice",data:=.fields #[vl,vu,.none] } };exact tail_any (ops:=[.ref s3.heap.objs.size,v]) ht hT hg (by with_unfolding_all rfl)
def lh(xs:Ck)(lo hi:CU):List V:=(xs.drop (HT.sIx xs.length 0 lo)).take (HT.sIx xs.length xs.length hi-HT.sIx xs.length 0 lo)
def Xr(xs:Ck)(lo hi:CU):(lh xs lo hi).length<=xs.length:=by unfold lh;rw[P4,List.length_drop];omega
end
def ixN(n:Nat)(i:Int):Option Nat:=if 0<=i then(if i<n then some i.toNat else none)else if -(n:Int)<=i then some (i+n).toNat else none
def atI{α:Type}(xs:List α)(i:Int):Option α:=(ixN xs.length i).bind λj=>xs[j]?
def b7(h:ixN n i=some j):seqIndex? i n=some j/\j<n/\-(n:Int)<=i/\i<n:=by
 unfold ixN at h;by_cases h0:0<=i
 .rw[if_pos h0]at h;by_cases h1:i<n
  .rw[if_pos h1]at h;have e:i.toNat=j:=G9 h;exact⟨by rw[a2j h0 h1,e],by omega,by omega,h1⟩
  .rw[if_neg h1]at h;cases h
 .rw[if_neg h0]at h;by_cases h1:-(n:Int)<=i
  .rw[if_pos h1]at h;have e:(i+n).toNat=j:=G9 h;exact⟨by rw[a18 (by omega) h1,e],by omega,h1,by omega⟩
  .rw[if_neg h1]at h;cases h
def Xs{α:Type}{xs:List α}{v:α}(h:atI xs i=some v):∃j,seqIndex? i xs.length=some j/\xs[j]?=some v/\j<xs.length/\-(xs.length:Int)<=i/\i<xs.length:=by
 unfold atI at h;cases e:ixN xs.length i with
 |none=>rw[e]at h;cases h
 |some j=>rw[e]at h;obtain⟨h1,h2,h3,h4⟩:=b7 e;exact⟨j,h1,h,h2,h3,h4⟩
def Xt(b:Co):Prop:=∀o i,subscripted b false o i=operate [o,i] (getItem o i)
def IxR(X:Cx)(r:R2):Prop:=
 ∀(value slice:Co)(pins:Ca)(s:Ce)(σ:St)(H:Hp)(x y:V)(v u:Value) (Q:VK),Inv X pins σ H s->RelV x v->RelV y u->r x y H Q->
  subscripted slice false v u=operate [v,u] (getItem v u)->wpAny (Du X) X.A (subscriptTail value slice v u) (EP X pins σ Q) X.xe s
def MtR(X:Cx)(id:String)(r:V->List V->Hp->VK->Prop):Prop:=
 ∀(pins:Ca)(s:Ce)(σ:St)(H:Hp)(x:V)(xs:Ck)(v:Value) (us:Cg) (Q:VK),Inv X pins σ H s->RelV x v->Vals xs us->r x xs H Q->
  wpAny (Du X) X.A (call (.builtin id) (v::us)) (EP X pins σ Q) X.xe s
section
variable {X:Cx}{a b:Co}{ta tb:TE}{pos:Pos}
def IxR.or(h:IxR X r)(h':IxR X r'):IxR X (λx y H Q=>r x y H Q\/r' x y H Q):=by
 intro value slice pins s σ H x y v u Q I rx ry q hs;rcases q with q|q
 .exact h value slice pins s σ H x y v u Q I rx ry q hs
 .exact h' value slice pins s σ H x y v u Q I rx ry q hs
def xS(hr:IxR X r)(ha:PE X a ta)(hb:PE X b tb)(hs:Xt b):PE X (.Subscript a b pos) (tOp r ta tb):=by intro pins s σ H Q I h;exact Subscript_ (xJ ha hb I h λv u s2 x y H2 I2 rx ry q=>hr a b pins s2 σ H2 x y v u Q I2 rx ry q (hs _ _))
def A9(K:Cr):R2:=λx y H Q=>∃p xs i v,x=.ref p/\y=.int i/\SqL K H p xs/\atI xs i=some v/\Q v H
def A_(K:Cr):R2:=λx y H Q=>∃p xs i v,x=.ref p/\y=.int i/\SqT K H p xs/\atI xs i=some v/\Q v H
def Ba:R2:=λx y H Q=>∃z i c,x=.str z/\y=.int i/\z.length<=sizeLine/\atI z.cps.toList i=some c/\Q (.str ⟨#[c]⟩) H
def m_:IxR X (A9 X.K):=by
 intro value slice pins s σ H x y v u Q I rx ry h hs;obtain⟨p,xs,i,z,rfl,rfl,hq,he,q⟩:=h;cases rx;obtain⟨t,rfl⟩:=ry;obtain⟨its,r,pl,hz⟩:=I.list hq;obtain⟨j,h1,h2,h3,h4,h5⟩:=Xs he;obtain⟨w,ew,rw'⟩:=r.get h2;have hl:=r.length;have hn:=V9;have fin:EP X pins σ Q w s:=⟨z,H,I,rw',q⟩;by_cases h0:0<=i
 .have hj:i.toNat=j:=by rw[a2j h0 h5]at h1;exact G9 h1
  exact item_listR pl.isList h0 (by omega) (by rw[hj];simpa using ew) fin hs
 .have hj:(i+(its.toArray.size:Int)).toNat=j:=by rw[a18 (by omega) h4]at h1;rw[D9,<- hl];exact G9 h1
  exact a1E (x:=w) pl.isList.typeIs slot_list_getitem.lookup
   (wpAny_getItem_list_neg (Q:=λr s'=>r=w/\EP X pins σ Q r s') pl.isList (by omega) (by rw[D9]<;>omega) (by omega) (by rw[hj];simpa using ew) ⟨rfl,fin⟩) hs
def rX:IxR X (A_ X.K):=by
 intro value slice pins s σ H x y v u Q I rx ry h hs;obtain⟨p,xs,i,z,rfl,rfl,hq,he,q⟩:=h;cases rx;obtain⟨t,rfl⟩:=ry;obtain⟨its,r,pl,hz⟩:=I.tuple hq;obtain⟨j,h1,h2,h3,h4,h5⟩:=Xs he;obtain⟨w,ew,rw'⟩:=r.get h2;have hl:=r.length;have hn:=V9;have fin:EP X pins σ Q w s:=⟨z,H,I,rw',q⟩;exact a1E (x:=w) pl.typeIs slot_tuple_getitem.lookup
  (getItem_tuple (j:=j) (Q:=λr s'=>r=w/\EP X pins σ Q r s') pl (by omega) (by omega) (by rw[D9,<- hl];exact h1) (by simpa using ew) ⟨rfl,fin⟩) hs
def rY:IxR X Ba:=by
 intro value slice pins s σ H x y v u Q I rx ry h hs;obtain⟨z,i,c,rfl,rfl,hz,he,q⟩:=h;obtain⟨t,rfl⟩:=rx;obtain⟨t',rfl⟩:=ry;obtain⟨j,h1,h2,h3,h4,h5⟩:=Xs he;have hl:z.cps.toList.length=z.length:=by simp[Str.length]
 rw[hl]at h1 h4 h5;have hn:=V9;exact tail_any (typeIs_str s z t) slot_str_getitem.lookup (getItem_str (c:=c) (by
  have e1:decide (i < -(2 ^ 63:Int))=false:=G5 (by omega);have e2:decide (i ≥ 2 ^ 63)=false:=G5 (by omega);rw[e1,e2,Bool.or_false]) (by rw[h1];simpa using h2) ⟨.str ⟨#[c]⟩,H,I.tok _,⟨_,rfl⟩,q⟩) hs
def rIx(K:Cr):R2:=λx y H Q=>A9 K x y H Q\/A_ K x y H Q\/Ba x y H Q
def rZ:IxR X (rIx X.K):=m_.or (rX.or rY)
def aU(its:Cg)(n j:Nat)(u:Value):Obj.mapSeq (·.setIfInBounds j u) { cls:=.type "list",data:=.seq its.toArray n }={ cls:=.type "list",data:=.seq (its.set j u).toArray n }:=by simp[Obj.mapSeq]
def Inv.lst(I:Inv X pins σ H s)(h:H p=some (.lst xs)):
  ∃(its:Cg)(n:Nat),Vals xs its/\s.heap.get? p=some { cls:=.type "list",data:=.seq its.toArray n }/\xs.length<=sizeLine:=by
 obtain⟨z,its,n,r,e⟩:=I.hok p _ h;exact⟨its,n,r,e,z⟩
def Inv.r8{pins:Ca}{σ:St}{H:Hp}{s:Ce}{p:Addr}{xs ys:Ck}{its its':Cg}{n n':Nat}{f:Obj->Obj}(I:Inv X pins σ H s)(h:H p=some (.lst xs))
  (ho:s.heap.get? p=some { cls:=.type "list",data:=.seq its.toArray n }) (hf:f { cls:=.type "list",data:=.seq its.toArray n }={ cls:=.type "list",data:=.seq its'.toArray n' }) (r:Vals ys its') (hz:ys.length<=sizeLine) (t:Nat):
  Inv X pins σ (upd H p (.lst ys)) { s with heap:=s.heap.update p f,toks:=t }:=by
 have e:(s.heap.update p f).get? p=some { cls:=.type "list",data:=.seq its'.toArray n' }:=by rw[G0 f ho (by rw[hf]<;>rfl),hf]
 refine I.write (x:=p) (e:=p) (by rw[h];trivial) (.inl rfl) (λb u hb q=>(D8 _ _ (Ne.symm hb)).trans q) ⟨_,e⟩ ?_;exact⟨hz,its',n',r,e⟩
def xT:V->V->V->Hp->(Hp->Prop)->Prop:=λo i v H Q=>∃p xs k j,o=.ref p/\i=.int k/\H p=some (.lst xs)/\ixN xs.length k=some j/\Q (upd H p (.lst (xs.set j v)))
def set_list:A4 X xT:=by
 intro pins s σ H o i v ov iv u Q I ro ri rv h;obtain⟨p,xs,k,j,rfl,rfl,hp,hj,q⟩:=h;cases ro;obtain⟨t,rfl⟩:=ri;obtain⟨its,n,r,ho,hz⟩:=I.lst hp;obtain⟨h1,h2,h3,h4⟩:=b7 hj;have hl:=r.length;have hn:=V9;have I':Inv X pins σ (upd H p (.lst (xs.set j v))) { s with heap:=s.heap.update p (Obj.mapSeq (·.setIfInBounds j u)) }:=
  I.r8 hp ho (aU its n j u) (r.set rv j) (by rw[F5];exact hz) s.toks
 by_cases h0:0<=k
 .have hk:k.toNat=j:=by rw[a2j h0 h4]at h1;exact G9 h1
  exact PySem.W.ki_setAt ho h0 (by omega) (by rw[D9,<- hl];exact h4) (by rw[hk];exact⟨_,I',q⟩)
 .have hk:(k+(its.toArray.size:Int)).toNat=j:=by rw[a18 (by omega) h3]at h1;rw[D9,<- hl];exact G9 h1
  exact PySem.W.ki_setBack ho (by omega) (by rw[D9,<- hl];exact h3) (by omega) (by rw[hk];exact⟨_,I',q⟩)
def Wd(lo hi:CU)(n:Nat):(sliceBounds lo hi none n).1=((HT.sIx n 0 lo:Nat):Int)/\(sliceBounds lo hi none n).2.1=((HT.sIx n n hi:Nat):Int)/\(sliceBounds lo hi none n).2.2=1:=by
 refine⟨?_,?_,rfl⟩
 .cases lo with
  |none=>simp[sliceBounds,HT.sIx]
  |some i=>
   simp only[sliceBounds,HT.sIx,Option.getD_none,show(1:Int)>0 by decide,if_true];by_cases h:i<0
   .simp only[h,if_true]<;>omega
   .simp only[h,if_false]<;>omega
 .cases hi with
  |none=>simp[sliceBounds,HT.sIx]
  |some i=>
   simp only[sliceBounds,HT.sIx,Option.getD_none,show(1:Int)>0 by decide,if_true];by_cases h:i<0
   .simp only[h,if_true]<;>omega
   .simp only[h,if_false]<;>omega
def K7(its:Cg)(lo hi:CU):slicePick its.toArray lo hi none=((its.drop (HT.sIx its.length 0 lo)).take (HT.sIx its.length its.length hi-HT.sIx its.length 0 lo)).toArray:=by obtain⟨h1,h2,h3⟩:=Wd lo hi its.toArray.size;unfold slicePick;rw[h1,h2,h3];simp only[sliceRange_one,pick_run,List.size_toArray]<;>rfl
def BI(K:Cr):V->Option Int->Option Int->Hp->VK->Prop:=λx lo hi H Q=>∃a xs,x=.ref a/\SqL K H a xs/\∀p,H p=none->Q (.ref p) (upd H p (.lst (lh xs lo hi)))
def ng:SlR X (BI X.K):=by intro pins s σ H x v vl vu lo hi sl Q I rx hs pl pu h;obtain⟨a,xs,rfl,hx,q⟩:=h;cases rx;obtain⟨its,r,ht,hz⟩:=I.list hx;have hlen:=r.length;refine⟨"list",_,slot_list_getitem.lookup,ht.isList.typeIs,?_⟩;refine wpAny_getItem_list_slice ht.isList hs pl pu .none (by simp) ?_ (by rw[List.size_toArray]<;>omega);rw[K7,<- hlen];refine⟨.ref s.heap.objs.size,_,I.laid (t':=s.toks) (o:=.lst (lh xs lo hi)) (λb ob q=>B6 _ q) (B7 _) ?_,rfl,q _ (I.hok.fresh (B7 _))⟩;exact⟨E3 (Xr xs lo hi) hz,_,0,(r.drop (HT.sIx xs.length 0 lo)).take (HT.sIx xs.length xs.length hi-HT.sIx xs.length 0 lo),E2 _ rfl⟩
def QT:V->Bool
 |.non=>true
 |.bl _=>true
 |.int _=>true
 |.str _=>true
 |_=>false
def eqV:V->V->Bool
 |.non,.non=>true
 |.bl a,.bl b=>a==b
 |.bl a,.int b=>(if a then 1 else 0)==b
 |.int a,.bl b=>a==(if b then 1 else 0)
 |.int a,.int b=>a==b
 |.str a,.str b=>a==b
 |_,_=>false
def lj(ry:RelV y u)(rx:RelV x v)(fy:QT y=true)(fx:QT x=true):SeqAt.EqAt A s u v (eqV y x):=by
 cases y with
 |non=>
  cases ry;cases x with
  |non=>cases rx;exact a1B _
  |bl b=>cases rx;exact SeqAt.EqAt.none_bool b
  |int b=>obtain⟨t,rfl⟩:=rx;exact SeqAt.EqAt.none_int b t
  |str b=>obtain⟨t,rfl⟩:=rx;exact SeqAt.EqAt.none_str b t
  |_=>exact absurd (show false=true from fx) C9
 |bl a=>
  cases ry;cases x with
  |non=>cases rx;exact SeqAt.EqAt.bool_none a
  |bl b=>cases rx;exact SeqAt.EqAt.bool_bool a b
  |int b=>obtain⟨t,rfl⟩:=rx;exact SeqAt.EqAt.bool_int a b t
  |str b=>obtain⟨t,rfl⟩:=rx;exact SeqAt.EqAt.bool_str a b t
  |_=>exact absurd (show false=true from fx) C9
 |int a=>
  obtain⟨t',rfl⟩:=ry;cases x with
  |non=>cases rx;exact SeqAt.EqAt.int_none a t'
  |bl b=>cases rx;exact SeqAt.EqAt.int_bool a t' b
  |int b=>obtain⟨t,rfl⟩:=rx;exact SeqAt.EqAt.int_int a t' b t
  |str b=>obtain⟨t,rfl⟩:=rx;exact a12 a t' b t
  |_=>exact absurd (show false=true from fx) C9
 |str a=>
  obtain⟨t',rfl⟩:=ry;cases x with
  |non=>cases rx;exact SeqAt.EqAt.str_none a t'
  |bl b=>cases rx;exact SeqAt.EqAt.str_bool a t' b
  |int b=>obtain⟨t,rfl⟩:=rx;exact a13 a t' b t
  |str b=>obtain⟨t,rfl⟩:=rx;exact SeqAt.EqAt.str_str a t' b t
  |_=>exact absurd (show false=true from fx) C9
 |_=>exact absurd (show false=true from fy) C9
def eqU(x:V)(u:Value):Bool:=match u with
 |.none=>eqV .non x
 |.bool b=>eqV (.bl b) x
 |.int i _=>eqV (.int i) x
 |.str z _=>eqV (.str z) x
 |_=>false
def lq(r:RelV y u)(f:QT y=true):eqU x u=eqV y x:=by
 cases y with
 |non=>cases r;rfl
 |bl b=>cases r;rfl
 |int i=>obtain⟨t,rfl⟩:=r;rfl
 |str z=>obtain⟨t,rfl⟩:=r;rfl
 |_=>exact absurd (show false=true from f) C9
def Jl{x:V}:∀{xs:Ck}{us:Cg},Vals xs us->xs.all QT=true->us.any (eqU x)=xs.any λy=>eqV y x
 |_,_,.nil,_=>rfl
 |y::xs,u::us,.cons r t,f=>by rw[a0y,Bool.and_eq_true]at f;rw[O0,O0,lq r f.1,Jl t f.2]
def Z5{A:Cz}{s:Ce}{x:V}{v:Value}(rx:RelV x v)(fx:QT x=true):∀{xs:Ck}{us:Cg},Vals xs us->xs.all QT=true->∀u∈us,SeqAt.EqAt A s u v (eqU x u)
 |_,_,.nil,_=>λu hu=>by cases hu
 |y::xs,u::us,.cons r t,f=>λu' hu=>by
  rw[a0y,Bool.and_eq_true]at f;rcases C5.mp hu with rfl|hu
  .rw[lq r f.1];exact lj r rx f.1 fx
  .exact Z5 rx fx t f.2 u' hu
def inV(x:V)(xs:Ck):Bool:=xs.any λy=>eqV y x
def rIn(K:Cr)(neg:Bool):R2:=λx y H Q=>∃p xs,y=.ref p/\(SqL K H p xs\/SqT K H p xs)/\QT x=true/\xs.all QT=true/\Q (.bl (if neg then !inV x xs else inV x xs)) H
def b8:OpR X (compareOp .In) (rIn X.K false):=by
 intro pins s σ H x y v u Q I rx ry h;obtain⟨p,xs,rfl,hq,fx,fs,q⟩:=h;cases ry;rcases hq with hq|hq
 .obtain⟨its,r,pl,hz⟩:=I.list hq;refine SeqAt.in_listAt (eqU x) pl.isList (λw hw=>Z5 rx fx r fs w (by simpa using hw)) ⟨.bl _,H,I,rfl,?_⟩;rw[show its.toArray.any (eqU x)=its.any (eqU x) by simp,Jl r fs];exact q
 .obtain⟨its,r,pl,hz⟩:=I.tuple hq;refine SeqAt.in_tupleAt (eqU x) pl (λw hw=>Z5 rx fx r fs w (by simpa using hw)) ⟨.bl _,H,I,rfl,?_⟩;rw[show its.toArray.any (eqU x)=its.any (eqU x) by simp,Jl r fs];exact q
def We:OpR X (compareOp .NotIn) (rIn X.K true):=by
 intro pins s σ H x y v u Q I rx ry h;obtain⟨p,xs,rfl,hq,fx,fs,q⟩:=h;cases ry;rcases hq with hq|hq
 .obtain⟨its,r,pl,hz⟩:=I.list hq;refine SeqAt.notIn_listAt (eqU x) pl.isList (λw hw=>Z5 rx fx r fs w (by simpa using hw)) ⟨.bl _,H,I,rfl,?_⟩;rw[show its.toArray.any (eqU x)=its.any (eqU x) by simp,Jl r fs];exact q
 .obtain⟨its,r,pl,hz⟩:=I.tuple hq;refine SeqAt.notIn_tupleAt (eqU x) pl (λw hw=>Z5 rx fx r fs w (by simpa using hw)) ⟨.bl _,H,I,rfl,?_⟩;rw[show its.toArray.any (eqU x)=its.any (eqU x) by simp,Jl r fs];exact q
def Wf:OpR X (compareOp .NotIn) (λx y H Q=>∃i j,x=.str i/\y=.str j/\Q (.bl (!(!(Builtin.Str.occurrences j i 0 j.length 1).isEmpty))) H):=by intro pins s σ H x y v u Q I rx ry h;obtain⟨i,j,rfl,rfl,q⟩:=h;obtain⟨t,rfl⟩:=rx;obtain⟨t',rfl⟩:=ry;exact notIn_str ⟨.bl _,H,I,rfl,q⟩
def ZG.or(h:ZG X f r)(h':ZG X f r'):ZG X f (λxs H Q=>r xs H Q\/r' xs H Q):=by
 intro pins s σ H xs us Q I rs q;rcases q with q|q
 .exact h pins s σ H xs us Q I rs q
 .exact h' pins s σ H xs us Q I rs q
def Wg:ZG X (.type "list") (λxs H Q=>∃p ys,xs=[.ref p]/\(SqL X.K H p ys\/SqT X.K H p ys)/\∀l,H l=none->Q (.ref l) (upd H l (.lst ys))):=by
 intro pins s σ H xs us Q I r h;obtain⟨p,ys,rfl,hq,q⟩:=h;obtain⟨u,rfl,rx⟩:=vals1 r;cases rx;have fin:∀(its:Cg),Vals ys its->ys.length<=sizeLine->∀(h':Heap)(c':Nat),(∀b o',s.heap.get? b=some o'->h'.get? b=some o')->
   h'.get? s.heap.objs.size=some { cls:=.type "list",dict:=none,data:=.seq its.toArray c',slots:=#[] }->EP X pins σ Q (.ref s.heap.objs.size) { s with heap:=h' }:=λits r' hz h' c' kp e=>
  ⟨.ref s.heap.objs.size,_,I.laid (t':=s.toks) kp (B7 _) (show yk X.prog X.w _ h' _ (.lst ys)from⟨hz,its,c',r',e⟩),rfl,q _ (I.hok.fresh (B7 _))⟩
 rcases hq with hq|hq
 .obtain⟨its,r',pl,hz⟩:=I.list hq;have hlen:=r'.length;obtain⟨o,ho,hc,n,hd⟩:=pl.isList;exact call_list_seq p (.inl rfl) ho hc hd (λh' c' kp e=>fin its r' hz h' c' kp e) (by simp only[List.size_toArray]<;>omega)
 .obtain⟨its,r',pl,hz⟩:=I.tuple hq;have hlen:=r'.length;obtain⟨o,ho,hc,n,hd⟩:=pl;exact call_list_seq p (.inr rfl) ho hc hd (λh' c' kp e=>fin its r' hz h' c' kp e) (by simp only[List.size_toArray]<;>omega)
def tyV(K:Cr)(T:String)(x:V)(H:Hp):Prop:=match x with
 |.str _=>T="str"
 |.int _=>T="int"
 |.ref p=>(T="list" /\ ∃xs,SqL K H p xs)\/(T="tuple" /\ ∃o,K.lookup p=some o/\o.cls=.type "tuple"/\o.dict=none)\/
   (T="dict"/\((∃kvs,H p=some (.dK kvs))\/∃kvs,H p=some (.dT kvs)))\/(T="set" /\ ∃S n,H p=some (.set S n))
 |_=>False
def lz(I:Inv X pins σ H s)(r:RelV x v)(ty:tyV X.K T x H):
  s.TypeIs v T/\∀a,v=.ref a->∃ob,s.heap.get? a=some ob/\ob.dict=none:=by
 cases x with
 |str z=>obtain⟨t,rfl⟩:=r;cases(show T="str" from ty);exact⟨typeIs_str s z t,λ_ e=>nomatch e⟩
 |int i=>obtain⟨t,rfl⟩:=r;cases(show T="int" from ty);exact⟨typeIs_int s i t,λ_ e=>nomatch e⟩
 |ref p=>
  cases r;rcases ty with⟨rfl,xs,hq⟩|⟨rfl,o,hk,hc,hd⟩|⟨rfl,hk⟩|⟨rfl,S,n,hk⟩
  .obtain⟨its,_,pl,_⟩:=I.list hq;refine⟨pl.isList.typeIs,λa e=>?_⟩;cases e;obtain⟨o,n,e,c,hd,_⟩:=pl;exact⟨o,e,hd⟩
  .refine⟨⟨o,I.kIn p o hk,hc⟩,λa e=>?_⟩;cases e;exact⟨o,I.kIn _ o hk,hd⟩
  .have z:∃o,s.heap.get? p=some o/\o.ExactDict:=by
    rcases hk with⟨kvs,hk⟩|⟨kvs,hk⟩
    .obtain⟨_,_,_,_,o,_,_,e,ex,_⟩:=I.hok p _ hk;exact⟨o,e,ex⟩
    .obtain⟨_,_,_,_,o,_,_,e,ex,_⟩:=I.hok p _ hk;exact⟨o,e,ex⟩
   obtain⟨o,e,ex⟩:=z;refine⟨⟨o,e,ex.1⟩,λa e2=>?_⟩;cases e2;exact⟨o,e,ex.2.1⟩
  .obtain⟨o,_,_,_,e,ex,_⟩:=I.hok p _ hk;refine⟨⟨o,e,ex.1⟩,λa e2=>?_⟩;cases e2;exact⟨o,e,ex.2.1⟩
 |_=>exact False.elim ty
def BJ(K:Cr)(T:String)(r:V->List V->Hp->VK->Prop)(to:TE):TE:=λσ H Q=>to σ H λx H1=>tyV K T x H1/\r x [] H1 Q
def tBM(K:Cr)(T:String)(r:V->List V->Hp->VK->Prop)(to:TE)(t:TA):TE:=λσ H Q=>to σ H λx H1=>tyV K T x H1/\t σ H1 λxs H2=>r x xs H2 Q
variable {o e:Co}{es:Ci}{to:TE}{t:TA}{name:Str}{ky Zd:Pos}{T id:String}{r:V->List V->Hp->VK->Prop}
def r9(pa:PlainAttrs T)(slot:Slot T name id)(hty:typeOf (.builtin id)=pure (.type "method_descriptor"))(hm:MtR X id r)(ho:PE X o to)
  (V1:attributeBase o name X.env (eval o X.env)=eval o X.env:=by rfl) (V0:(ky.endLine==Zd.line)=true:=by rfl):PE X (.Call (.Attribute o name ky) [] [] Zd) (BJ X.K T r to):=by
 intro pins s σ H Q I h;refine wpAny_Call_method0_late V1 V0 (thn (ho pins s σ H _ I h) λv s1 ⟨x,H1,I1,r1,ty,q1⟩=>?_);obtain⟨h1,h2⟩:=lz I1 r1 ty;exact⟨T,id,pa,slot,hty,h1,h2,a0w rfl (PySem.evalArgs_none (hm pins s1 σ H1 x [] v [] Q I1 r1 .nil q1))⟩
def r_(pa:PlainAttrs T)(slot:Slot T name id)(hty:typeOf (.builtin id)=pure (.type "method_descriptor"))(hm:MtR X id r)(ho:PE X o to)(ha:PA X (e::es) t)
  (V1:attributeBase o name X.env (eval o X.env)=eval o X.env:=by rfl)
  (xl:((backTo Zd (starEach (e::es) X.env)).all (λx=>!x.1)&&(backToKw Zd (keywordEach [] X.env)).all (λx=>x.1.isSome)
   && decide ((e::es).length+([]:List Keyword).length+(if([]:List Keyword).isEmpty then 0 else 1)<30))=true:=by rfl)
  (V0:(ky.endLine==Zd.line)=true:=by rfl) (hs:starEach (e::es) X.env=(false,eval e X.env)::starEach es X.env:=by rfl) (hplain:(backTo Zd (starEach es X.env)).any (·.1)=false:=by rfl):
  PE X (.Call (.Attribute o name ky) (e::es) [] Zd) (tBM X.K T r to t):=by
 intro pins s σ H Q I h;refine wpAny_Call_method_late V1 xl V0 rfl (thn (ho pins s σ H _ I h) λv s1 ⟨x,H1,I1,r1,ty,q1⟩=>?_);obtain⟨h1,h2⟩:=lz I1 r1 ty;refine⟨T,id,pa,slot,hty,h1,h2,?_⟩;have hA:=ha Zd pins s1 σ H1 _ I1 q1;rw[hs]at hA ⊢;refine a0w (by show(false||(backTo Zd (starEach es X.env)).any (·.1))=false;rw[hplain]<;>rfl) (a1Q ?_);exact thn hA λus s2 ⟨vs,H2,I2,r2,q2⟩=>hm pins s2 σ H2 x vs v us Q I2 r1 r2 q2
end
def MtM(X:Cx)(id:String)(r:V->List V->Hp->VK->Prop):Prop:=
 ∀(pins:Ca)(s:Ce)(σ:St)(H:Hp)(x:V)(xs:Ck)(v:Value) (us:Cg) (Q:VK),Inv X pins σ H s->RelV x v->Vals xs us->r x xs H Q->
  wpAny (Du X) X.A (call (.builtin id) (v::us)) (EP X pins σ Q) X.xe s
def Vals.one:∀{x:V}{us:Cg},Vals [x] us->∃u,us=[u]/\RelV x u
 |_,_,.cons r .nil=>⟨_,rfl,r⟩
def Vals.zero:∀{us:Cg},Vals [] us->us=[]
 |_,.nil=>rfl
def Vals.rep{xs:Ck}{us:Cg}(h:Vals xs us):∀k:Nat,Vals (List.replicate k xs).flatten (List.replicate k us).flatten
 |0=>.nil
 |k+1=>by rw[O4,O4,M6,M6];exact Vals.append h (Vals.rep h k)
def foldl_rep(its:Cg):∀(k:Nat)(acc:Cg),
  List.foldl (λx1 x2=>x1++x2) acc.toArray (List.replicate k its.toArray)=(acc++(List.replicate k its).flatten).toArray
 |0,acc=>by simp
 |k+1,acc=>by
  have e:acc.toArray++its.toArray=(acc++its).toArray:=by simp
  have e2:(acc++its)++(List.replicate k its).flatten=acc++(List.replicate (k+1) its).flatten:=by rw[O4,M6,F3]
  rw[<- e2,<- foldl_rep its k (acc++its),<- e,O4,a0l]
def Inv.Bb{its its':Cg}{n:Nat}{f:Array Value->Array Value}{t':Nat}(I:Inv X pins σ H s)(hH:H l=some (.lst xs))
  (e:s.heap.get? l=some { cls:=.type "list",data:=.seq its.toArray n }) (hf:f its.toArray=its'.toArray) (hv:Vals ys its') (hz:ys.length<=sizeLine):
  Inv X pins σ (upd H l (.lst ys)) { s with heap:=s.heap.update l (Obj.mapSeq f),toks:=t' }:=by
 have q:=PySem.IsL.update e f;rw[hf]at q;refine I.write (x:=l) (e:=l) (by rw[hH];exact trivial) (.inl rfl) (λb' u hb hu=>(D8 s.heap (Obj.mapSeq f) (Ne.symm hb)).trans hu) ⟨_,q⟩ ?_;exact⟨hz,its',_,hv,q⟩
def Inv.xU(I:Inv X pins σ H s)(hv:Vals ys its)(hz:ys.length<=sizeLine):
  Inv X pins σ (upd H s.heap.objs.size (.lst ys)) { s with heap:=s.heap.push { cls:=.type "list",data:=.seq its.toArray },toks:=t' }:=
 I.laid (λ_ _ q=>B6 _ q) (B7 _) ⟨hz,its,0,hv,E2 _ rfl⟩
def Inv.fresh(I:Inv X pins σ H s):H s.heap.objs.size=none:=I.hok.fresh (B7 _)
def Inv.sf(I:Inv X pins σ H s)(hH:H l=some (.lst xs)):xs.length<=sizeLine/\∃(its:Cg)(n:Nat),Vals xs its/\xs.length=its.length/\s.heap.get? l=some { cls:=.type "list",data:=.seq its.toArray n }:=by obtain⟨z,its,n,r,e⟩:=I.hok l _ hH;exact⟨z,its,n,r,r.length,e⟩
def gj(h:n<=sizeLine):Builtin.List.listTooLong n=false:=by unfold Builtin.List.listTooLong;exact G5 (by omega)
section
variable {X:Cx}
def nj:V->List V->Hp->VK->Prop:=λx vs H Q=>∃l xs y,x=.ref l/\vs=[y]/\H l=some (.lst xs)/\xs.length<sizeLine/\Q .non (upd H l (.lst (xs++[y])))
def Jm:MtM X "list.append" nj:=by intro pins s σ H x vs v us Q I rx rv h;obtain⟨l,xs,y,rfl,rfl,hH,hz,q⟩:=h;cases rx;obtain⟨u,rfl,ru⟩:=rv.one;obtain⟨z,its,n,r,hl,e⟩:=I.sf hH;refine a1R F.slot_list_append ⟨_,e,rfl⟩ F.entry_list_append (F.args_list_append_2 _ _) (PySem.list_append l its.toArray n u (by rw[D9];omega)) ⟨e,?_⟩;refine⟨.non,_,I.Bb (its':=its++[u]) hH e (by simp) (r.append (.cons ru .nil)) ?_,rfl,q⟩;rw[B5,a0D];omega
def sg:V->List V->Hp->VK->Prop:=λx vs H Q=>∃l xs,x=.ref l/\vs=[]/\H l=some (.lst xs)/\Q .non (upd H l (.lst []))
def gm:MtM X "list.clear" sg:=by intro pins s σ H x vs v us Q I rx rv h;obtain⟨l,xs,rfl,rfl,hH,q⟩:=h;cases rx;have hus:=rv.zero;subst hus;obtain⟨z,its,n,r,hl,e⟩:=I.sf hH;refine a1R F.slot_list_clear ⟨_,e,rfl⟩ F.entry_list_clear (F.args_list_clear_1 _) (AutoSeq1.list_clear_list_0 l its.toArray n (by rw[D9];omega)) ⟨e,?_⟩;exact⟨.non,_,I.Bb (its':=[]) (ys:=[]) hH e rfl .nil (F7 _),rfl,q⟩
def Bc:R2:=λx y H Q=>∃l b xs zs,x=.ref l/\y=.ref b/\H l=some (.lst xs)/\H b=some (.lst zs)/\xs.length+zs.length<=sizeLine/\∀p,H p=none->Q (.ref p) (upd H p (.lst (xs++zs)))
def si:OpR X (binaryOp .Add) Bc:=by
 intro pins s σ H x y v u Q I rx ry h;obtain⟨l,b,xs,zs,rfl,rfl,hH,hB,hz,q⟩:=h;cases rx;cases ry;obtain⟨z,its,n,r,hl,e⟩:=I.sf hH;obtain⟨z2,its2,n2,r2,hl2,e2⟩:=I.sf hB;refine PySem.P.add_list e e2 ?_ (by rw[D9,D9];omega);have ea:its.toArray++its2.toArray=(its++its2).toArray:=by simp
 rw[ea];exact⟨.ref _,_,I.xU (t':=s.toks) (r.append r2) (by rw[B5];omega),rfl,q _ I.fresh⟩
def Bd:R2:=λx y H Q=>∃l k xs,x=.ref l/\y=.int k/\H l=some (.lst xs)/\-(2 ^ 63)<=k/\k<2 ^ 63/\xs.length*k.toNat<=sizeLine/\
 ∀p,H p=none->Q (.ref p) (upd H p (.lst (List.replicate k.toNat xs).flatten))
def len_rep{α:Type}(xs:List α)(k:Nat):(List.replicate k xs).flatten.length=k*xs.length:=by
 induction k with
 |zero=>simp
 |succ k ih=>rw[O4,M6,B5,ih,Nat.succ_mul,Nat.add_comm]
def sj:OpR X (binaryOp .Mult) Bd:=by
 intro pins s σ H x y v u Q I rx ry h;obtain⟨l,k,xs,rfl,rfl,hH,h1,h2,hz,q⟩:=h;cases rx;obtain⟨t,rfl⟩:=ry;obtain⟨z,its,n,r,hl,e⟩:=I.sf hH;have hlen:its.toArray.size*k.toNat<=sizeLine:=by rw[D9,<- hl];exact hz
 have hcap:¬its.toArray.size*k.toNat>(2 ^ 63-1) / 8:=by
  have:(sizeLine:Nat)<=(2 ^ 63-1) / 8:=by decide
  omega
 have hfit:¬(!Builtin.List.listFitsIndex k)=true:=by rw[fitsIndex_both h1 h2];exact C9
 have hlong:¬Builtin.List.listTooLong (its.toArray.size*k.toNat)=true:=by rw[gj hlen];exact C9
 have hnew:List.foldl (λx1 x2=>x1++x2) #[] (List.replicate (if its.toArray.isEmpty=true then 0 else k.toNat) its.toArray)=(List.replicate k.toNat its).flatten.toArray:=by
  have f0:∀m:Nat,List.foldl (λx1 x2=>x1++x2) #[] (List.replicate m its.toArray)=(List.replicate m its).flatten.toArray:=λm=>by have:=foldl_rep its m [];rw[a0I]at this;exact this
  rw[f0];cases its with
  |nil=>simp
  |cons a r'=>rw[if_neg (by simp)]
 refine wpAny_binaryOp_repeat_ref (T:="list") (U:="int") (by decide) ⟨_,e,rfl⟩ (λs'=>typeIs_int s' k t) noFill_list_mul F.fills_int_mul F.slot_int_rmul repeat_list F.slot_int_index.lookup
  (a1R F.slot_int_rmul (typeIs_int s k t) F.entry_int_rmul (F.args_int_rmul_2 _ _) (int___rmul___int_list k t l its.toArray n)
   ⟨e,rfl,⟨_,e,rfl⟩,a1R F.slot_list_mul ⟨_,e,rfl⟩ F.entry_list_mul (F.args_list_mul_2 _ _) (AutoListH.list___mul___list_int_3 l its.toArray n k t hfit hcap hlong) ⟨e,?_⟩⟩)
 rw[hnew];exact⟨.ref _,_,I.xU (t':=s.toks) (r.rep k.toNat) (by rw[len_rep,Nat.mul_comm];exact hz),rfl,q _ I.fresh⟩
end
section
variable {prog:Cq}{w:Cv}{A:Cz}{E:B_}{s:Ce}
end
section
variable {X:Cx}
end
section
variable {κ:Type}[DecidableEq κ]
def KC(kvs:List (κ×V))(k:κ):Option V:=(kvs.find? λkv=>decide (kv.1=k)).map (·.2)
def putK(kvs:List (κ×V))(k:κ)(v:V):List (κ×V):=
 if(kvs.any λkv=>decide (kv.1=k))=true then kvs.map (λkv=>if kv.1=k then(kv.1,v)else kv)else kvs++[(k,v)]
def K8{p:κ×V}{r:List (κ×V)}{k:κ}(e:p.1=k):KC (p::r) k=some p.2:=by simp[KC,List.find?_cons,e]
def K9{p:κ×V}{r:List (κ×V)}{k:κ}(e:¬p.1=k):KC (p::r) k=KC r k:=by simp[KC,List.find?_cons,e]
def UA(k:κ):∀kvs:List (κ×V),(kvs.any λkv=>decide (kv.1=k))=(KC kvs k).isSome
 |[]=>rfl
 |p::r=>by
  rw[O0];by_cases e:p.1=k
  .simp only[K8 e,decide_eq_true e,Bool.true_or,Option.isSome_some]
  .rw[K9 e,G5 e,Bool.false_or];exact UA k r
def Jn(kvs:List (κ×V))(k:κ)(v:V):(putK kvs k v).length<=kvs.length+1:=by
 unfold putK;split
 .rw[u8];omega
 .rw[B5,B0,a0J];omega
def K4.vC(r:K4 o u):o.isSome=u.isSome:=by
 cases o with
 |none=>cases u with
  |none=>rfl
  |some _=>exact(show False from r).elim
 |some _=>cases u with
  |none=>exact(show False from r).elim
  |some _=>rfl
def K4.getD(r:K4 o u)(rd:RelV d d'):RelV (o.getD d) (u.getD d'):=by
 cases o with
 |none=>cases u with
  |none=>exact rd
  |some _=>exact(show False from r).elim
 |some _=>cases u with
  |none=>exact(show False from r).elim
  |some _=>exact r
def KV.val{kvs:List (κ×V)}{vs:List (κ×Value)}(r:KV kvs vs)(k:κ):K4 (KC kvs k) (valueAt vs k):=by
 unfold KV at r
 induction r with
 |nil=>exact True.intro
 |@cons p q ps qs h t ih=>
  obtain⟨h1,h2⟩:=h;by_cases e:p.1=k
  .have e':q.1=k:=h1.symm.trans e;have b:valueAt (q::qs) k=some q.2:=by simp[valueAt,List.find?_cons,e']
   rw[K8 e,b];exact h2
  .have e':¬q.1=k:=λz=>e (h1.trans z);have b:valueAt (q::qs) k=valueAt qs k:=by simp[valueAt,List.find?_cons,e']
   rw[K9 e,b];exact ih
def KV.any{kvs:List (κ×V)}{vs:List (κ×Value)}(r:KV kvs vs)(k:κ):(kvs.any λkv=>decide (kv.1=k))=vs.any λkv=>decide (kv.1=k):=by
 unfold KV at r
 induction r with
 |nil=>rfl
 |cons h t ih=>rw[O0,O0,ih,h.1]
def KV.xV{kvs:List (κ×V)}{vs:List (κ×Value)}(r:KV kvs vs)(k:κ)(ry:RelV y u):
  KV (kvs.map λkv=>if kv.1=k then(kv.1,y)else kv) (vs.map λkv=>if kv.1=k then(kv.1,u)else kv):=by
 unfold KV at r ⊢
 induction r with
 |nil=>exact .nil
 |@cons p q ps qs h t ih=>
  rw[C8,C8];refine .cons ?_ ih;obtain⟨h1,h2⟩:=h;by_cases e:p.1=k
  .rw[if_pos e,if_pos (h1.symm.trans e)];exact⟨h1,ry⟩
  .rw[if_neg e,if_neg (λz=>e (h1.trans z))];exact⟨h1,h2⟩
def KV.put{kvs:List (κ×V)}{vs:List (κ×Value)}(r:KV kvs vs)(k:κ)(ry:RelV y u):KV (putK kvs k y) (stored vs k u):=by
 unfold putK stored;rw[r.any k];by_cases e:(vs.any λkv=>decide (kv.1=k))=true
 .rw[if_pos e,if_pos e];exact r.xV k ry
 .rw[if_neg e,if_neg e];exact Paired.snoc r ⟨rfl,ry⟩
def KV.length{kvs:List (κ×V)}{vs:List (κ×Value)}(r:KV kvs vs):kvs.length=vs.length:=N9 r
end
def Xu(r:RelV (kV k) u):(z7 P w).is k u=true:=by
 cases k with
 |inl i=>obtain⟨t,e⟩:=(show ∃t,u=Value.int i t from r);subst e;exact Xk P w i t
 |inr x=>obtain⟨t,e⟩:=(show ∃t,u=Value.str x t from r);subst e;exact Xl P w x t
def Wh{P:Cq}{w:Cv}:∀{ks:Cp}{us:Cg},Vals (ks.map kV) us->ItemsAre (z7 P w) ks us
 |[],_,r=>by rw[a0b]at r;cases r;exact .nil
 |k::ks,_,r=>by
  rw[C8]at r;cases r with
  |cons h t=>exact .cons (Xu h) (Wh t)
abbrev KT(H:Hp):List (List Key×V)->List (List Key×Addr×Value)->Prop:=Paired λp q=>p.1=q.1/\H q.2.1=some (.tup (p.1.map kV))/\RelV p.2 q.2.2
def KT.val(r:KT H kvs xs)(k:Cp):K4 (KC kvs k) ((atKey xs k).map (·.2)):=by
 induction r with
 |nil=>exact True.intro
 |@cons p q ps qs h t ih=>
  obtain⟨h1,_,h2⟩:=h;by_cases e:p.1=k
  .have e':q.1=k:=h1.symm.trans e;have b:atKey (q::qs) k=some q.2:=by simp[atKey,List.find?_cons,e']
   rw[K8 e,b];exact h2
  .have e':¬q.1=k:=λz=>e (h1.trans z);have b:atKey (q::qs) k=atKey qs k:=by simp[atKey,List.find?_cons,e']
   rw[K9 e,b];exact ih
def KT.xV(r:KT H kvs xs)(k:Cp)(ry:RelV y u):
  KT H (kvs.map λkv=>if kv.1=k then(kv.1,y)else kv) (xs.map (putAt k u)):=by
 induction r with
 |nil=>exact .nil
 |@cons p q ps qs h t ih=>
  rw[C8,C8];refine .cons ?_ ih;obtain⟨h1,h2,h3⟩:=h;unfold putAt;by_cases e:p.1=k
  .rw[if_pos e,if_pos (h1.symm.trans e)];exact⟨h1,h2,ry⟩
  .rw[if_neg e,if_neg (λz=>e (h1.trans z))];exact⟨h1,h2,h3⟩
def KT.put(r:KT H kvs xs)(k:Cp)(hb:H b=some (.tup (k.map kV)))(ry:RelV y u):
  KT H (putK kvs k y) (storedH xs k b u):=by
 have e:(kvs.any λkv=>decide (kv.1=k))=(atKey xs k).isSome:=by rw[UA,(r.val k).vC,a1a]
 unfold putK storedH;rw[e];by_cases q:(atKey xs k).isSome=true
 .rw[if_pos q,if_pos q];exact r.xV k ry
 .rw[if_neg q,if_neg q];exact Paired.snoc r ⟨rfl,hb,ry⟩
def KT.keeps(r:KT H kvs xs)(ht:∀b ys,H b=some (.tup ys)->H' b=some (.tup ys)):KT H' kvs xs:=
 Paired.xD r λ_ _ z=>⟨z.1,ht _ _ z.2.1,z.2.2⟩
def sk(ok:HOk P w H h)(e:Rd H a u):yk P w H h a u:=e.ok ok
def vD(ok:HOk P w H h)(e:Rd H a (.dK kvs)):kvs.length<=sizeLine/\(a==sysModules)=false/\∃vs,KV kvs vs/\h.DictOf (z7 P w) a vs:=
 show yk P w H h a (.dK kvs)from sk ok e
def xW(ok:HOk P w H h)(e:H a=some (.dK kvs)):kvs.length<=sizeLine/\(a==sysModules)=false/\∃vs,KV kvs vs/\h.DictOf (z7 P w) a vs:=vD ok (.inl e)
def KD(ok:HOk P w H h)(e:H a=some (.tup (ks.map kV))):(tupleKind (z7 P w)).is h ks a:=by obtain⟨_,its,r,o,h1,h2,n,h3⟩:=(show yk P w H h a (.tup (ks.map kV))from ok a _ e);exact⟨o,its.toArray,n,h1,h2,h3,by simpa using Wh r⟩
def Xv(ok:HOk P w H h)(e:Rd H a (.dT kvs)):kvs.length<=sizeLine/\(a==sysModules)=false/\
  ∃xs,KT H kvs xs/\h.DictOfH (tupleKind (z7 P w)) a xs:=by
 obtain⟨z,y,xs,r,o,es,ep,h1,h2,h3,h4,h5⟩:=(show yk P w H h a (.dT kvs)from sk ok e);refine⟨z,y,xs,r,o,es,ep,h1,h2,h3,h4,λx hx=>?_,h5⟩;have all:∀{l:Dh}{m:List (List Key×Addr×Value)},KT H l m->∀x∈m,(tupleKind (z7 P w)).is h x.1 x.2.1:=by
  intro l m q
  induction q with
  |nil=>intro x hx;exact nomatch hx
  |@cons p q ps qs hq t ih=>
   intro x hx;rcases C5.mp hx with e|hx
   .subst e;exact KD ok (by rw[<- hq.1];exact hq.2.1)
   .exact ih x hx
 exact all r x hx
def xX(ok:HOk P w H h)(e:H a=some (.dT kvs)):kvs.length<=sizeLine/\(a==sysModules)=false/\
  ∃xs,KT H kvs xs/\h.DictOfH (tupleKind (z7 P w)) a xs:=Xv ok (.inl e)
def bI(H:Hp)(a:Addr)(y:V)(r:Option V):Prop:=
 (∃kvs k,Rd H a (.dK kvs)/\y=kV k/\r=KC kvs k)\/∃kvs k b,Rd H a (.dT kvs)/\y=.ref b/\H b=some (.tup (k.map kV))/\r=KC kvs k
def pZ(H:Hp)(a:Addr)(y v:V)(H':Hp):Prop:=
 (∃kvs k,H a=some (.dK kvs)/\y=kV k/\kvs.length<sizeLine/\H'=upd H a (.dK (putK kvs k v)))\/
 ∃kvs k b,H a=some (.dT kvs)/\y=.ref b/\H b=some (.tup (k.map kV))/\kvs.length<sizeLine/\H'=upd H a (.dT (putK kvs k v))
def pZ.k{H:Hp}{a:Addr}{kvs:Cf}{k:CT}{v:V}(e:H a=some (.dK kvs))(hl:kvs.length<sizeLine):pZ H a (kV k) v (upd H a (.dK (putK kvs k v))):=.inl ⟨kvs,k,e,rfl,hl,rfl⟩
def Inv.big(I:Inv X pins σ H s):sysModules<s.heap.objs.size:=by have h:mainGlobals<s.heap.objs.size:=(I.mod.glob.keeps I.bk).lt;exact a0c (by decide) h
def b9(hu:A.units+1<cLine)(I:Inv X pins σ H s)(g:bI H a y (some v))(ry:RelV y u)(h:∀w' s',Inv X pins σ H s'->RelV v w'->Q w' s'):
  wpAny (Du X) A (getItem (.ref a) u) Q E s:=by
 rcases g with⟨kvs,k,e,ey,l⟩|⟨kvs,k,b,e,ey,eb,l⟩
 .subst ey;obtain⟨z,hd,vs,rel,dd⟩:=vD I.hok e;obtain⟨w',hw,rw'⟩:=K4.some_of (v:=v) (o:=valueAt vs k) (by rw[l];exact rel.val k);exact wpAny_getItem_of (Xu ry) dd.mapOf hw (h w' _ (I.tok _) rw')
 .subst ey;cases(show u=Value.ref b from ry);obtain⟨z,hd,xs,rel,dd⟩:=Xv I.hok e;obtain⟨w',hw,rw'⟩:=K4.some_of (v:=v) (o:=(atKey xs k).map (·.2)) (by rw[l];exact rel.val k);obtain⟨p,hp,hp2⟩:=v4.mp hw;refine wpAny_getItem_heap (T9 hu) (KD I.hok eb) dd hp ?_;rw[hp2];exact h w' _ (I.tok _) rw'
def BK(hu:A.units+1<cLine)(I:Inv X pins σ H s)(g:bI H a y o)(ry:RelV y u)(h:∀s',Inv X pins σ H s'->Q (.bool o.isSome) s'):
  wpAny (Du X) A (compareOp .In u (.ref a)) Q E s:=by
 rcases g with⟨kvs,k,e,ey,l⟩|⟨kvs,k,b,e,ey,eb,l⟩
 .subst ey;obtain⟨z,hd,vs,rel,dd⟩:=vD I.hok e;refine wpAny_in_of (Xu ry) hd dd.mapOf ?_;rw[<- (rel.val k).vC,<- l];exact h _ (I.tok _)
 .subst ey;cases(show u=Value.ref b from ry);obtain⟨z,hd,xs,rel,dd⟩:=Xv I.hok e;refine wpAny_in_heap (T9 hu) (KD I.hok eb) hd dd ?_;have q:=(rel.val k).vC;rw[a1a]at q;rw[<- q,<- l];exact h _ (I.tok _)
def nk(hu:A.units+1<cLine)(I:Inv X pins σ H s)(g:bI H a y o)(ry:RelV y u)(h:∀s',Inv X pins σ H s'->Q (.bool (!o.isSome)) s'):
  wpAny (Du X) A (compareOp .NotIn u (.ref a)) Q E s:=by
 rcases g with⟨kvs,k,e,ey,l⟩|⟨kvs,k,b,e,ey,eb,l⟩
 .subst ey;obtain⟨z,hd,vs,rel,dd⟩:=vD I.hok e;refine wpAny_notIn_of (Xu ry) hd dd.mapOf ?_;rw[<- (rel.val k).vC,<- l];exact h _ (I.tok _)
 .subst ey;cases(show u=Value.ref b from ry);obtain⟨z,hd,xs,rel,dd⟩:=Xv I.hok e;refine wpAny_notIn_heap (T9 hu) (KD I.hok eb) hd dd ?_;have q:=(rel.val k).vC;rw[a1a]at q;rw[<- q,<- l];exact h _ (I.tok _)
def b_(I:Inv X pins σ H s)(mu:Mut (H a))(hs:Heap.SameBut a s.heap h')(he:∃q,h'.get? a=some q)(new:yk X.prog X.w (upd H a ob) h' a ob):
  Inv X pins σ (upd H a ob) { s with heap:=h',toks:=t' }:=
 I.write (x:=a) (e:=a) mu (.inl rfl) (λb q hb z=>(hs.2 b hb).trans z) he new
def cb(z:kvs.length<=sizeLine)(hd:(a==sysModules)=false)(rel:KV kvs vs)(dd:h'.DictOf (z7 P w) a vs):
  yk P w H' h' a (.dK kvs):=⟨z,hd,vs,rel,dd⟩
def cg(hu:A.units+1<cLine)(I:Inv X pins σ H s)(g:pZ H a y v H')(ry:RelV y u)(rv:RelV v r)(h:∀s',Inv X pins σ H' s'->Q () s'):
  wpAny (Du X) A (setItem (.ref a) u r) Q E s:=by
 rcases g with⟨kvs,k,e,ey,l,eH⟩|⟨kvs,k,b,e,ey,eb,l,eH⟩
 .subst ey eH;obtain⟨z,hd,vs,rel,dd⟩:=xW I.hok e;have hz:vs.length<=sizeLine:=by rw[<- rel.length];exact z
  have hl:(putK kvs k v).length<=sizeLine:=by have:=Jn kvs k v;omega
  refine wpAny_setItem_pairs (hsz:=hz) (Xu ry) dd λh' dd' hs=>h _ ?_;have he:∃q,h'.get? a=some q:=let⟨q,_,_,hq,_⟩:=dd';⟨q,hq⟩
  exact b_ I (by rw[e];exact True.intro) hs he (cb hl hd (rel.put k rv) dd')
 .subst ey eH;cases(show u=Value.ref b from ry);obtain⟨z,hd,xs,rel,dd⟩:=xX I.hok e;have hz:xs.length<=sizeLine:=by rw[<- N9 rel];exact z
  have hl:(putK kvs k v).length<=sizeLine:=by have:=Jn kvs k v;omega
  refine wpAny_setItem_heap (hsz:=hz) (T9 hu) (KD I.hok eb) dd λh' dd' hs=>h _ ?_;obtain⟨q,es,ep,hq,h2,h3,h4,_,h5⟩:=dd';refine b_ I (by rw[e];exact True.intro) hs ⟨q,hq⟩ ⟨hl,hd,_,(rel.put k eb rv).keeps λc ys ec=>?_,q,es,ep,hq,h2,h3,h4,h5⟩;rw[zc (xC ec e (λz=>nomatch z))];exact ec
def xY(I:Inv X pins σ H s)(e:Rd H a (.dK kvs))(h:∀t s',Inv X pins σ H s'->Q (.int kvs.length t) s'):wpAny (Du X) A (call (.builtin "len") [.ref a]) Q E s:=by obtain⟨z,hd,vs,rel,dd⟩:=vD I.hok e;refine call_len_dict hd dd (by rw[<- rel.length];rw[N4]at z;omega) ?_;rw[<- rel.length];exact h _ _ (I.tok _)
def Xw(I:Inv X pins σ H s)(g:bI H a y o):s.TypeIs (.ref a) "dict":=by
 rcases g with⟨kvs,k,e,_,_⟩|⟨kvs,k,b,e,_,_,_⟩
 .obtain⟨_,_,vs,_,dd⟩:=vD I.hok e;exact dd.typeIs
 .obtain⟨_,_,xs,_,dd⟩:=Xv I.hok e;exact dd.typeIs
def xZ(td ty tv:TE):TS:=λD σ H=>tv σ H λv H1=>td σ H1 λx H2=>ty σ H2 λy H3=>∃a H4,x=.ref a/\pZ H3 a y v H4/\D.nx σ H4
def cj(hu:X.A.units+1<cLine)(ho:PE X o td)(hi:PE X i ty)(hv:PE X value tv)(hs:swapsWith value (some (.Subscript o i pos')) pos.line X.env=pure false):
  PS X (.Assign [.Subscript o i pos'] value pos) (xZ td ty tv):=by
 intro pins s σ H D I h;refine wpAny_Assign_Subscript (thn (hv pins s σ H _ I h) λr s1 ⟨v,H1,I1,rv,q1⟩=>thn (ho pins s1 σ H1 _ I1 q1) λu s2 ⟨x,H2,I2,rx,q2⟩=>thn (hi pins s2 σ H2 _ I2 q2) λiv s3 ⟨y,H3,I3,ry,a,H4,ex,g,q3⟩=>?_) hs;subst ex;obtain rfl:u=Value.ref a:=rx;exact cg hu I3 g ry rv λs4 I4=>⟨σ,H4,I4,q3⟩
def gp(h:Heap)(hb:sysModules<h.objs.size):yk P w H (h.push { cls:=.type "dict",data:=.dict #[] }) h.objs.size (.dK []):=
 ⟨F7 _,O2.mpr (Ne.symm (D2 hb)),[],.nil,Heap.DictOf.new h⟩
def sr:TE:=λ_ H Q=>∀p,H p=none->Q (.ref p) (upd H p (.dK []))
def gq:PE X (.Dict [] [] pos) sr:=λpins s σ H Q I h=>
 wpAny_Dict_empty ⟨.ref s.heap.objs.size,_,I.laid (a:=s.heap.objs.size) (o:=.dK []) (t':=s.toks) (λ_ _ q=>B6 _ q) (B7 _) (gp s.heap I.big),rfl,h _ (I.hok.fresh (B7 _))⟩
structure M2(X:Cx)(o:Co)(m:Str)(ky:Pos)(e f:Co)(Zd:Pos):Prop where
 base:attributeBase o m X.env (eval o X.env)=eval o X.env
 few:((backTo Zd (starEach [e,f] X.env)).all (λx=>!x.1)&&(backToKw Zd (keywordEach [] X.env)).all (λx=>x.1.isSome)
  && decide (([e,f]:List Expr).length+([]:List Keyword).length+(if([]:List Keyword).isEmpty then 0 else 1)<30))=true
 line:(ky.endLine==Zd.line)=true
 trees:backTo Zd (starEach [e,f] X.env)=[(false,eval e X.env),(false,eval f X.env)]
def IsD(H:Hp)(a:Addr):Prop:=(∃kvs,Rd H a (.dK kvs))\/∃kvs,Rd H a (.dT kvs)
def su(I:Inv X pins σ H s)(d:IsD H a):
  s.TypeIs (.ref a) "dict"/\(∀b,Value.ref a=.ref b->∃ob,s.heap.get? b=some ob/\ob.dict=none)/\(a==sysModules)=false:=by
 rcases d with⟨kvs,e⟩|⟨kvs,e⟩
 .obtain⟨_,hd,vs,_,dd⟩:=vD I.hok e;refine⟨dd.typeIs,λb q=>?_,hd⟩;cases q;obtain⟨ob,_,_,h1,h2,_⟩:=dd;exact⟨ob,h1,h2.2.1⟩
 .obtain⟨_,hd,xs,_,dd⟩:=Xv I.hok e;refine⟨dd.typeIs,λb q=>?_,hd⟩;cases q;obtain⟨ob,_,_,h1,h2,_⟩:=dd;exact⟨ob,h1,h2.2.1⟩
def sx(hu:A.units+1<cLine)(I:Inv X pins σ H s)(g:bI H a y o)(ry:RelV y u)(rd:RelV d r)(h:∀w' s',Inv X pins σ H s'->RelV (o.getD d) w'->Q w' s'):
  wpAny (Du X) A (call (.builtin "dict.get") [.ref a,u,r]) Q E s:=by
 rcases g with⟨kvs,k,e,ey,l⟩|⟨kvs,k,b,e,ey,eb,l⟩
 .subst ey;obtain⟨z,hd,vs,rel,dd⟩:=vD I.hok e;refine a1j a0E dd.typeIs a1F (a1w _ _ _) (meets_dict_get_default (z7 X.prog X.w) a (Xu ry) hd r) ⟨_,dd.mapOf,h _ _ (I.tok _) ?_⟩;rw[l];exact(rel.val k).getD rd
 .subst ey;cases(show u=Value.ref b from ry);obtain⟨z,hd,xs,rel,dd⟩:=Xv I.hok e;refine a1j a0E dd.typeIs a1F (a1w _ _ _) (meetsH_dict_get_default (tupleKind (z7 X.prog X.w)) a b hd r) ⟨T9 hu,k,xs,KD I.hok eb,dd,h _ _ (I.tok _) ?_⟩;rw[l];exact(rel.val k).getD rd
def sA(td ty tx:TE):TE:=λσ H Q=>td σ H λx H1=>∃a,x=.ref a/\IsD H1 a/\ty σ H1 λy H2=>tx σ H2 λz H3=>∃o,bI H3 a y o/\Q (o.getD z) H3
def gs(hu:X.A.units+1<cLine)(ho:PE X o td)(he:PE X e ty)(hf:PE X f tx)(m:M2 X o "get" ky e f Zd):PE X (.Call (.Attribute o "get" ky) [e,f] [] Zd) (sA td ty tx):=by
 intro pins s σ H Q I h;refine wpAny_Call_method m.base m.few m.line PySem.F.plainAttrs_dict a0E PySem.F.type_dict_get (thn (ho pins s σ H _ I h) λu s1 ⟨x,H1,I1,rx,a,ex,d,q1⟩=>?_);subst ex;obtain rfl:u=Value.ref a:=rx;obtain⟨t1,t2,_⟩:=su I1 d;refine⟨t1,t2,?_⟩;rw[m.trees];refine a0w rfl (a1Q (a0q (thn (he pins s1 σ H1 _ I1 q1) λiv s2 ⟨y,H2,I2,ry,q2⟩=>
  a0q (thn (hf pins s2 σ H2 _ I2 q2) λfv s3 ⟨z,H3,I3,rz,ov,g,q3⟩=>a09 ?_))))
 exact sx hu I3 g ry rz λw' s4 I4 rw'=>⟨_,H3,I4,rw',q3⟩
def gu(I:Inv X pins σ H s)(e:Rd H a (.dK kvs))(h:∀p s',H p=none->Inv X pins σ (upd H p (.dK kvs)) s'->Q (.ref p) s'):wpAny (Du X) A (call (.type "dict") [.ref a]) Q E s:=by obtain⟨z,hd,vs,rel,dd⟩:=vD I.hok e;refine kt_call_dict hd dd (by rw[<- rel.length];exact z) λh' dd' hs=>?_;refine h _ _ (I.hok.fresh (B7 _)) (I.laid (a:=s.heap.objs.size) (o:=.dK kvs) (t':=s.toks) (λb q hq=>?_) (B7 _) (cb z (O2.mpr (Ne.symm (D2 I.big))) rel dd'));exact(hs.2 b (D2 (C0 hq))).trans (B6 _ hq)
section
variable {X:Cx}{pins:Ca}{σ:St}{H:Hp}{s:Ce}{a:Addr}{y:V}{u:Value}{A:Cz}{E:B_}
end
end L2
namespace Att
open PySem PySem.W PySem.Calls PyProof.Rows
def Jo:∀(ns:CC)(vs:Cg),WellAll P h vs (ns.map WData.int)->IntsAre vs ns:=by
 intro ns
 induction ns with
 |nil=>intro vs w;rw[a0b]at w;cases w;exact .nil
 |cons n ns ih=>
  intro vs w;rw[C8]at w;cases w with
  |cons a b=>cases a;exact .cons _ _ (ih _ b)
def ck{l:OpenLaw}{n:Nat}(hn:l.most=some n){P:Params}{h:Heap}{args:List WData}{vals:Cg}
  (hpre:l.row.toRowW.claim.pre args=true) (hwl:WellAll P h vals args):
  ∃a vs ns,vals=[Value.ref a]/\args=[WData.list (ns.map WData.int)]/\h.get? a=some { cls:=.type "list",data:=.seq vs.toArray }/\IntsAre vs ns/\ns.length<=n:=by
 have hsh:WShape.hasAll [] args [.list .int]=true:=(pre_splitW hpre).1;have hc:l.pre.holds [] { args:=args }=true:=(pre_splitW hpre).2;obtain⟨d,r,rfl,h1,h2⟩:=hasAllW_cons hsh;obtain rfl:=hasAllW_nil h2;obtain⟨xs,rfl,h3⟩:=hasW_list h1;obtain⟨ns,rfl⟩:=items_int h3;have hlen:ns.length<=n:=by
  unfold OpenLaw.pre at hc;have h4:(WTm.not (.lt (.lit (.int (n:Int))) (.len (.arg 0)))).holds [] { args:=[.list (ns.map .int)] }=true:=by have h4:=(holds_andW hc).1;rw[hn]at h4;exact h4
  have h5:=condW_of h4 (w_not (w_lt w_lit (w_len_list (w_arg rfl))));rw[u8]at h5;refine Nat.le_of_not_lt λq=>?_;have q':(n:Int)<((ns.length:Nat):Int):=by omega
  first
   | (rw[L5 q']at h5;exact absurd h5 (by decide))
   | (simp at h5;omega)
 cases hwl with
 |cons w1 w2=>
  cases w2;cases w1 with
  |list ho hall=>exact⟨_,_,ns,rfl,rfl,ho,Jo ns _ hall,hlen⟩
def cn(l:OpenLaw)(args:List WData):l.row.toRowW.claim.post args (.bool true) args=true:=
 postW_of (r:=l.row.toRowW) (X:=(true==true))
  (show WShape.has [] (.bool true) .bool=true by first|rfl|decide|simp[WShape.has,WShape.arms,WShape.armsAll])
  (show(WTm.eq .res (.lit (.bool true))).value [] { args:=args,res:=some (.bool true),after:=args }=some (.bool (true==true))from w_eq_bool (w_res rfl) w_lit) rfl
def Xx{l:OpenLaw}{n:Nat}{q:Cq}{loose:Cn}{XP:(Str->Option Value)->Heap->Prop}{YP:World->Heap->Prop}{d:DefRec}
  (hn:l.most=some n) (hdf:d.params.defaults=[])
  (call:∀(w:Cv)(s₀ s₁:Ce)(mg mb:Cc)(fa:Addr)(o:Obj)(pm cd doc:Value)(a:Addr) (vs:Cg) (ns:CC),
   Ground q loose [] XP w s₀ mg mb s₁.heap->YP w s₁.heap->
   s₁.heap.get? fa=some o->o.data=.func (docDef d.name d.params d.body d.scope pm cd doc)->s₁.heap.CodeRec cd d.name->mg d.name=some (.ref fa)->
   s₁.heap.get? a=some { cls:=.type "list",data:=.seq vs.toArray }->IntsAre vs ns->ns.length<=n->s₁.gens = #[]->
   codeAny (model l.prog w) callerA (.call (.ref fa) ⟨[.ref a],[]⟩) (λr s'=>r=.ok (.ret (.bool true))/\OldK s₁.heap s'.heap/\s'.os=s₁.os/\AllBare s'.gens) s₁):
  WalkO q loose XP YP l.row.toRowW d [] (λf vs=>PySem.call f vs):=by
 intro w s₀ s₁ mg mb G Y fa o pm cd doc dV kV ho hd hcd hD hmg hg args vals as hpre hlay hrd hwl hlo;obtain rfl:dV=.none:=Dflts.none hD hdf;obtain rfl:kV=.none:=Dflts.noKw hD;obtain⟨a,vs,ns,rfl,rfl,hobj,hints,hlen⟩:=ck hn hpre hwl;refine enter_call (a0r (call w s₀ s₁ mg mb fa o pm cd doc a vs ns G Y ho (fd_plain hd) hcd hmg hobj hints hlen hg) λr s' hq=>?_);obtain⟨rfl,h2,h3,h4⟩:=hq;exact⟨.inl ⟨.bool true,.bool true,[],rfl,λ_=>rfl,.bool true,cn l _,λ_=>⟨List.Pairwise.nil,λ_ hm=>(nomatch hm)⟩⟩,h2,h3,h4⟩
section
variable {prog:Cq}{w:Cv}{A:Cz}{E:B_}{s:Ce}{K:CO}
end
end Att
namespace L2
open PySem PySem.Spec PyProof.Rows
def Wi:∀{vs:Cg}{ns:CC},IntsAre vs ns->Vals (ns.map V.int) vs
 |_,_,.nil=>.nil
 |_,_,.cons n t h=>.cons ⟨t,rfl⟩ (Wi h)
def inClass(s:CV)(j:Nat):Stmt:=match s with
 |.ClassDef _ _ _ body _ _ _ _ _ _ _=>body.getD j (.Pass ⟨0,0,0,0⟩)
 |_=>.Pass ⟨0,0,0,0⟩
def Jp(s:CV):Arguments:=match s with
 |.FunctionDef _ a _ _ _ _ _ _ _ _=>a
 |_=>{ posonlyargs:=[],args:=[],vararg:=none,kwonlyargs:=[],kw_defaults:=[],kwarg:=none,defaults:=[] }
def kO(s:CV):List Stmt:=match s with
 |.FunctionDef _ _ b _ _ _ _ _ _ _=>b
 |_=>[]
def zg(s:CV):Scope:=match s with
 |.FunctionDef _ _ _ _ _ _ sc _ _ _=>sc
 |_=>{ kind:=.function,names:=[],isGenerator:=false,isCoroutine:=false }
abbrev E0:XK:=λ_ _ _=>False
structure Fun(K:Cr)(x qual:Str)(st:CV)(f:Addr)(fd:CA):Prop where
 ex:∃(oc:Value)(od:CH)(kV doc pm:Value)(an:CH)(cdv ct:Value)(osl:CB),
  fd=PySem.W.fnOf x qual (Jp st) (kO st) (zg st) .none kV doc pm an cdv ct/\K.lookup f=some ⟨oc,od,.func fd,osl⟩/\PySem.W.codeIn K cdv qual=true
 kp:PySem.W.keepIn K (.ref f)=true
section
variable {P:Cq}{w:Cv}{K:Cr}{mg:Cc}{base:Heap}
def Fun.binds{x qual:Str}{st:CV}{f:Addr}{fd:CA}{ps:Cn}(F:Fun K x qual st f fd)
  (h:∀(kV doc pm:Value)(an:CH)(cdv ct:Value)(us:Cg),us.length=ps.length->bindArgs (PySem.W.fnOf x qual (Jp st) (kO st) (zg st) .none kV doc pm an cdv ct) ⟨us,[]⟩=pure (ps.zip us)):Binds K fd ps []:=by
 obtain⟨oc,od,kV,doc,pm,an,cdv,ct,osl,rfl,lk,hcd⟩:=F.ex;exact .all (h kV doc pm an cdv ct)
def lA{x qual:Str}{st:CV}{f:Addr}{oc:Value}{od an:CH}{osl:CB}{kV doc pm cdv ct:Value}(l:K.lookup f=some ⟨oc,od,.func (PySem.W.fnOf x qual (Jp st) (kO st) (zg st) .none kV doc pm an cdv ct),osl⟩)
  (c:PySem.W.codeIn K cdv qual=true) (k:PySem.W.keepIn K (.ref f)=true):Fun K x qual st f (PySem.W.fnOf x qual (Jp st) (kO st) (zg st) .none kV doc pm an cdv ct):=⟨⟨oc,od,kV,doc,pm,an,cdv,ct,osl,rfl,l,c⟩,k⟩
end
def jn(hr:jd k A):A.units+1<cLine:=F1 (Nat.add_le_add_left (by decide:1<=64) _) hr.units
def pv(i:Nat)(hN:X.N[i]?=some x:=by rfl)(hv:Vis X.env.scope x:=by first|exact Or.inl rfl|exact Or.inr (Or.inl rfl)|exact Or.inr (Or.inr rfl))(hd:(x==("__debug__":Str))=false:=by decide)
  (hcd:(x==("__classdict__":Str))=false:=by decide):PE X (.Name x pos) (V2 i):=rB hN hv hd hcd
def nq{A B:Prop}(h:B):if false=true then A else B:=by rw[if_neg C9];exact h
def nu{A B:Prop}(h:A):if true=true then A else B:=by rw[if_pos rfl];exact h
def zl(H H':Hp):Prop:=∀b o,H b=some o->H' b=some o
def zl.refl(H:Hp):zl H H:=λ_ _ h=>h
def zl.trans(a:zl H H1)(b:zl H1 H2):zl H H2:=λc o h=>b c o (a c o h)
section
variable {κ:Type}[DecidableEq κ]
end
end L2
set_option maxHeartbeats 4000000
namespace L2
open PySem PySem.Spec PyProof.Rows PySem.W
def qM:List Value:=[.type "ValueError",.type "Exception",.type "BaseException",.type "object"]
def Wj:List Value->List Value
 |.ref _::r=>Wj r
 |l=>l
structure Ki(K:CO)(C:Addr):Prop where
 over:(clsIn K C).any (λcd=>Wj cd.mro==qM && !cd.mro.isEmpty&&cd.hasDict)=true
 sa:findIn K (.ref C) "__setattr__"=some (some (.builtin "object.__setattr__"))
 ga:findIn K (.ref C) "__getattribute__"=some (some (.builtin "BaseException.__getattribute__"))
 gn:findIn K (.ref C) "__getattr__"=some none
 ty:typeIn K (.ref C)=some (.type "type")
def Qs(self:Value):∀l:List Value,Wj l=qM->refuseLoop self "__setattr__" l=pure ()
 |[],e=>by cases e
 |.ref c::r,e=>by rw[refuseLoop_ref];exact Qs self r e
 |.type n::r,e=>by rw[show Value.type n::r=qM from e];exact PySem.F.store_ValueError.passes self
 |.none::r,e=>by cases e
 |.bool _::r,e=>by cases e
 |.int _ _::r,e=>by cases e
 |.str _ _::r,e=>by cases e
 |.bytes _ _::r,e=>by cases e
 |.float _ _::r,e=>by cases e
 |.builtin _::r,e=>by cases e
 |.ellipsis::r,e=>by cases e
 |.notImplemented::r,e=>by cases e
def Wk{x:String}(hx:qM.contains (.type x)=true):∀l:List Value,Wj l=qM->l.contains (.type x)=true
 |[],e=>by cases e
 |.ref c::r,e=>by rw[List.contains_cons,Wk hx r e,Bool.or_true]
 |.type n::r,e=>by rw[show Value.type n::r=qM from e];exact hx
 |.none::r,e=>by cases e
 |.bool _::r,e=>by cases e
 |.int _ _::r,e=>by cases e
 |.str _ _::r,e=>by cases e
 |.bytes _ _::r,e=>by cases e
 |.float _ _::r,e=>by cases e
 |.builtin _::r,e=>by cases e
 |.ellipsis::r,e=>by cases e
 |.notImplemented::r,e=>by cases e
def Ki.cd{K:CO}{C:Addr}(c:Ki K C):∃cd,clsIn K C=some cd/\Wj cd.mro=qM/\cd.mro.isEmpty=false/\cd.hasDict=true:=by obtain⟨cd,hc,h⟩:=any_some c.over;simp only[Bool.and_eq_true,beq_iff_eq,Bool.not_eq_true']at h;exact⟨cd,hc,h.1.1,h.1.2,h.2⟩
def Ki.sub{K:CO}{C:Addr}(c:Ki K C){x:String}(hx:qM.contains (.type x)=true):mroIn K C (.type x)=some true:=by obtain⟨cd,hc,h1,h2,_⟩:=c.cd;unfold mroIn;rw[hc,Option.bind_some,if_neg (by rw[h2];decide),Wk hx _ h1]
def ym(C:Addr)(od:CH)(t:Addr)(T:Value)(sl:CB):Obj:=⟨.ref C,od,.fields #[.ref t,T,.none,.none,.bool false,.none],sl⟩
section
variable {prog:Cq}{w:Cv}{A:Cz}{E:B_}{s:Ce}{K:CO}{x dx C t:Addr}{T:Value}{sl:CB}{mA:Cc}{name:Str}{v:Value}{R:Result->Shared->Prop}
def UB(X:K.In s.heap)(c:Ki K C)(I:InstAt s.heap x (ym C od t T sl) C oo)(ht:takerIn K C name=some none)
  (h:∀b,wpAny (model prog w) A.in1 (Builtin.ObjectAttr.storeInOwnDict (.ref x) (.ref C) (.str name tk) name v b)
   (λfin s'=>match fin with | .done f=>R (.ok f) s' | .again c'=>c'.quiet=true/\codeAny (model prog w) A c' R s') (λe s'=>R (.error e) s') s):
  codeAny (model prog w) A (.call (.builtin "object.__setattr__") ⟨[.ref x,.str name tk,v],[]⟩) R s:=by
 have SF:=PySem.F.store_object;obtain⟨cd,hc,ho,ne,_⟩:=c.cd;have sub:Looks (model prog w) s.heap (isInstance (.ref x) (.type "object")) true:=I.type.andThen (a1G X (c.sub (x:="object") (by decide)));refine a0e SF.slot.plain SF.entry (@check_slot (model prog w) _ _ s "object.__setattr__" "object" "__setattr__" (.ref x) [.str name tk,v] [] _ SF.kind SF.split sub (SF.args (.ref x) (.str name tk) v) ?_);obtain⟨attr,ha,hr⟩:=E6.mp ht;have hm:Looks (model prog w) s.heap (mroOf (.ref C)) cd.mro:=(a2k X hc).andThen .now;have L3:Looks (model prog w) s.heap (Builtin.ObjectAttr.storeTaker? attr) none:=by
  cases attr with
  |none=>exact .now
  |some a=>
   obtain⟨b,hb,e⟩:=v4.mp hr;refine(looks_takesIn X hb).andThen ?_;cases b with
   |true=>cases e
   |false=>exact .now
 rw[osa_eq,refuse_eq];refine f8 (f8 (I.type.here (f8 (hm.here ?_))));rw[Qs _ _ ho];refine B8 (f8 (I.type.here (f8 ((a1k X ha).here (f8 (L3.here ?_))))));exact h _
def aV(X:K.In s.heap)(c:Ki K C)(hx:s.heap.get? x=some (ym C none t T sl))(ht:takerIn K C name=some none)
  (h:∀h',h'.get? x=some (ym C (some s.heap.objs.size) t T sl)->h'.Ns1 s.heap.objs.size (λy=>if y=name then some v else none)->
   (∀b o,b≠x->s.heap.get? b=some o->h'.get? b=some o)->Q () { s with heap:=h',toks:=s.toks+2 }):
  wpAny (model prog w) A (setAttr (.ref x) name v) Q E s:=by
 have I:InstAt s.heap x (ym C none t T sl) C none:=⟨hx,rfl,rfl,trivial⟩;refine set_plain X I c.sa (UB (s:={ s with toks:=s.toks+1 }) X c I ht λb=>?_);obtain⟨cd,hc,_,_,hd⟩:=c.cd;have hxs:x≠s.heap.objs.size:=D2 (C0 hx);have hx1:(s.heap.push emptyDict).get? x=some (ym C none t T sl):=B6 _ hx;refine f8 (B8 (f8 (f8 (a0S hx (f8 (Looks.here (s:={ s with toks:=s.toks+1 }) (a2k X hc) ?_))))));rw[hd];refine f8 (wpAny_alloc' (f8 (wpAny_update' hx1 (B8 ?_))));have hgx:((s.heap.push emptyDict).update x λo=>{ o with dict:=some s.heap.objs.size }).get? x=some (ym C (some s.heap.objs.size) t T sl):=G0 _ hx1 rfl;have hgd:((s.heap.push emptyDict).update x λo=>{ o with dict:=some s.heap.objs.size }).get? s.heap.objs.size=some emptyDict:=(a0Q _ _ _ _ hxs.symm).trans (Heap.get?_push_at rfl rfl);have hnd:((s.heap.push emptyDict).update x λo=>{ o with dict:=some s.heap.objs.size }).Ns s.heap.objs.size (λ_=>none):=⟨_,#[],_,hgd,rfl,λe he=>absurd he (by simp),λ_=>rfl⟩;refine f8 (B8 (f8 ?_));refine wpAny_nsSet1 (s:={ s with heap:=(s.heap.push emptyDict).update x λo=>{ o with dict:=some s.heap.objs.size },toks:=s.toks+1 }) (Heap.Ns1.of_empty hnd) λh' hn' hs=>?_;obtain⟨oD,esD,epD,hoD,hdD,hcD⟩:=hn'.count (PySem.Within.cons name v PySem.Within.nil);refine f8 (wpAny_lookBehind hoD (by rw[hdD];exact pastItsLine_dict (E3 hcD (by rw[B0,a0J,N4];omega))) ?_);refine B8 (h _ ((hs.2 _ hxs).trans hgx) hn' λb o hb e=>?_);exact(hs.2 _ (D2 (C0 e))).trans ((a0Q _ _ _ _ hb).trans (B6 _ e))
def cq(X:K.In s.heap)(c:Ki K C)(hx:s.heap.get? x=some (ym C (some dx) t T sl))(hn:s.heap.Ns1 dx mA)(hne:dx≠x)(ht:takerIn K C name=some none)
  (hw:PySem.Within mA ns) (hsz:ns.length<=sizeLine)
  (h:∀h',h'.Ns1 dx (λy=>if y=name then some v else mA y)->Heap.SameBut dx s.heap h'->Q () { s with heap:=h',toks:=s.toks+2 }):
  wpAny (model prog w) A (setAttr (.ref x) name v) Q E s:=by
 obtain⟨od,hod,_⟩:=Jh hn;have I:InstAt s.heap x (ym C (some dx) t T sl) C (some od):=⟨hx,rfl,rfl,hod⟩;refine set_plain X I c.sa (UB (s:={ s with toks:=s.toks+1 }) X c I ht λb=>?_);obtain⟨cd,hc,_,_,hd⟩:=c.cd;refine f8 (B8 (f8 (f8 (a0S hx (f8 (Looks.here (s:={ s with toks:=s.toks+1 }) (a2k X hc) ?_))))));rw[hd];refine B8 (a:=some dx) (f8 (B8 (f8 ?_)));refine wpAny_nsSet1 (s:={ s with toks:=s.toks+1 }) hn λh' hn2 hs2=>?_;obtain⟨oD,esD,epD,hoD,hdD,hcD⟩:=hn2.count (PySem.Within.cons name v hw);refine f8 (wpAny_lookBehind hoD (by rw[hdD];exact pastItsLine_dict (E3 hcD (by rw[B0];omega))) ?_);exact B8 (h _ hn2 hs2)
end
def strKeys(es:Array DictEntry):Bool:=es.toList.all λe=>match e.key with | .str _ _=>true|_=>false
def Wl(K:CO):List Value->Bool
 |.ref a::r=>(match K.lookup a with
   |some ⟨_,_,.cls cd,_⟩=>(match K.lookup cd.ns with
     |some ⟨_,_,.dict es _,_⟩=>strKeys es&&(es.toList.all λe=>!e.key.isStr "__init__")
     |_=>false)
   |_=>false)&&Wl K r
 |l=>l==qM
def aW{h:Heap}{N:Addr}{c:Value}{dd:CH}{es:Array DictEntry}{ep:Nat}{sl:CB}(e:h.get? N=some ⟨c,dd,.dict es ep,sl⟩)(k:strKeys es=true)
  (hi:(es.toList.all λe=>!e.key.isStr "__init__")=true):∃m,h.Ns N m/\m "__init__"=none:=by
 refine⟨λn=>nsFind es n,⟨_,es,ep,e,rfl,λx hx=>?_,λ_=>rfl⟩,?_⟩
 .have q:=P5.mp k x (a1O.mpr hx);split at q
  .rename_i n t hk;exact⟨n,t,hk⟩
  .cases q
 .show nsFind es "__init__"=none;unfold nsFind findBy;rw[<- a15,List.find?_eq_none.mpr λx hx=>by simpa using P5.mp hi x hx];rfl
def cu{K:CO}{h:Heap}(X:K.In h):∀l:List Value,Wl K l=true->OwnTail h qM l
 |.ref a::r,e=>by
  unfold Wl at e;obtain⟨e1,e2⟩:=a1S.mp e;split at e1
  .rename_i c dd cd sl hl;split at e1
   .rename_i c2 dd2 es ep sl2 hl2;obtain⟨k1,k2⟩:=a1S.mp e1;obtain⟨m,hm,hm0⟩:=aW (X _ _ hl2) k1 k2;exact .own (X _ _ hl) hm hm0 (cu X r e2)
   .cases e1
  .cases e1
 |[],e=>by cases e
 |.type n::r,e=>by rw[show Value.type n::r=qM from F9.mp e];exact .base
 |.none::r,e=>by rw[show Value.none::r=qM from F9.mp e];exact .base
 |.bool _::r,e=>by rw[F9.mp e];exact .base
 |.int _ _::r,e=>by rw[F9.mp e];exact .base
 |.str _ _::r,e=>by rw[F9.mp e];exact .base
 |.bytes _ _::r,e=>by rw[F9.mp e];exact .base
 |.float _ _::r,e=>by rw[F9.mp e];exact .base
 |.builtin _::r,e=>by rw[F9.mp e];exact .base
 |.ellipsis::r,e=>by rw[F9.mp e];exact .base
 |.notImplemented::r,e=>by rw[F9.mp e];exact .base
structure XMk(K:CO)(C f:Addr):Prop where
 cls:∃nm q N bs bm sn sub ab col dd k0 k1 k2 k3 k5,K.lookup C=some (excClassObj nm q C N bs bm true sn sub ab col dd k0 k1 k2 k3 k5 "ValueError.__new__")/\Wl K bm=true
 init:findIn K (.ref C) "__init__"=some (some (.ref f))
 fn:typeIn K (.ref f)=some (.type "function")
 kp:keepIn K (.ref C)=true
section
variable {prog:Cq}{w:Cv}{A:Cz}{E:B_}{K:CO}{C f:Addr}{h:Heap}{g:Array GenState}{d:Drawn}{t:Nat}{os:OsState}
def lC(rest:Cg):Obj:={ cls:=.type "tuple",data:=.seq rest.toArray }
def x3{rest:Cg}{Q:B_}(M:XMk K C f)(X:K.In h)(hrest:rest.length<=sizeLine)
  (hq:codeAny (model prog w) (A.under (.builtin "type.__call__" ⟨.ref C::rest,[]⟩)) (.call (.ref f) ⟨.ref (h.objs.size+1)::rest,[]⟩) (λr s'=>match r with | .ok (.ret v)=>v=.none/\Q (.ref (h.objs.size+1)) s' | .ok _=>False | .error e=>E e s')
   ⟨(h.push (lC rest)).push (ym C none h.objs.size .none #[]),g,d,t,os⟩):
  wpAny (model prog w) A (call (.ref C) rest) Q E ⟨h,g,d,t,os⟩:=by
 obtain⟨nm,q,N,bs,bm,sn,sub,ab,col,dd,k0,k1,k2,k3,k5,hK,hT⟩:=M.cls;have hC:=X _ _ hK;have T:=cu X _ hT;have F:=PySem.F.excBase_ValueError;have f1:=tc_lookup;have f2:=tc_bind (.ref C);have hTy:(⟨h,g,d,t,os⟩:Shared).TypeIs (.ref C) "type":=⟨_,hC,rfl⟩;refine a0d (codeAny_of_tree ?_);show wpAny _ _ (callAny (.ref C) _) _ _ _
 repeat(any_goals(first|assumption|with_reducible refine wpAny_loadPart_at hC ?_|wp_step))
 refine And.intro rfl (codeAny_call_builtin_at (a19 _ (by decide +kernel)) entry_typeCall (wpAny_check_type_call_sub hC ?_))
 repeat(first|with_reducible refine wpAny_loadPart_at hC ?_|with_reducible refine wpAny_madeBy_exc hC ?_|wp_step)
 refine codeAny_call_builtin_code (a19 _ F.quiet) (wpAny_check_new_subT F T hC (codeAny_exc_new_subT F T hC ?_ hrest));show wpAny _ _ _ _ _ ⟨(h.push (lC rest)).push (ym C none h.objs.size .none #[]),g,d,t,os⟩;have kp:∀b o,h.get? b=some o->((h.push (lC rest)).push (ym C none h.objs.size .none #[])).get? b=some o:=λb o e=>B6 _ (B6 _ e);have hx:((h.push (lC rest)).push (ym C none h.objs.size .none #[])).get? (h.objs.size+1)=some (ym C none h.objs.size .none #[]):=by heap_get
 have X1:K.In ((h.push (lC rest)).push (ym C none h.objs.size .none #[])):=X.keeps kp;have t1:Looks (model prog w) ((h.push (lC rest)).push (ym C none h.objs.size .none #[])) (typeOf (.ref (h.objs.size+1))) (.ref C):=(Looks.ld hx).andThen .now;have s1:Looks (model prog w) ((h.push (lC rest)).push (ym C none h.objs.size .none #[])) (isSubtype (.ref C) (.ref C)) true:=a1G X1 (by
  unfold mroIn clsIn;rw[hK];simp)
 have i1:=a1k (M:=model prog w) X1 M.init;have b1:=bind_fn (M:=model prog w) X1 (.ref (h.objs.size+1)) M.fn;unfold isInstance callSpecial? specialOf
 repeat(first|with_reducible refine a0d ?_|lk)
 refine a0r hq λr s' z=>?_;rcases r with e|(v|_|_|_)<;>first|exact z|exact z.elim|skip
 obtain⟨rfl,z⟩:=z;exact B8 (B8 z)
end
def XO(e C:Addr)(od:CH)(T:Value):HO:=.ext λh=>∃t sl,h.get? e=some (ym C od t T sl)
def XD(dx:Addr)(fs:CP):HO:=.ext λh=>∃mA,h.Ns1 dx mA/\(∀f,K4 (fs.lookup f) (mA f))/\PySem.Within mA (fs.map (·.1))/\fs.length<=1000
def XO.ok(x:h.get? e=some (ym C od t T sl)):yk P w H h e (XO e C od T):=
 ⟨⟨t,sl,x⟩,⟨_,x⟩,λ_ _ ⟨t',sl',p⟩ k=>⟨t',sl',k _ p⟩⟩
def XO.get(x:yk P w H h e (XO e C od T)):∃t sl,h.get? e=some (ym C od t T sl):=x.1
def XD.ok(n:h.Ns1 dx mA)(r:∀f,K4 (fs.lookup f) (mA f))(wi:PySem.Within mA (fs.map (·.1)))(l:fs.length<=1000):yk P w H h dx (XD dx fs):=by refine⟨⟨mA,n,r,wi,l⟩,?_,λh1 h2 ⟨m,⟨o,es,ep,ho,q⟩,r1⟩ k=>⟨m,⟨o,es,ep,k _ ho,q⟩,r1⟩⟩;obtain⟨o,es,ep,ho,_⟩:=n;exact⟨o,ho⟩
def XD.get(x:yk P w H h dx (XD dx fs)):∃mA,h.Ns1 dx mA/\(∀f,K4 (fs.lookup f) (mA f))/\PySem.Within mA (fs.map (·.1))/\fs.length<=1000:=x.1
def Inv.ny(I:Inv X pins σ H s)(he:H e=some (XO e C od T))(ch:CM)(hch:∀b∈ch,X.s₀.heap.objs.size<=b/\H b=none/\b≠X.env.locals/\(∀x c,X.env.cells.lookup x=some c->c≠b)/\∀p∈X.pn++pins,p.1≠b)
  (keep:∀b o,b≠e->b∉ch->b∉frs X.stack->s.heap.get? b=some o->h'.get? b=some o)
  (slot:∀b o,b∈frs X.stack->s.heap.get? b=some o->∃sl,h'.get? b=some { o with slots:=sl })
  (hx:∃t sl,h'.get? e=some (ym C od t T' sl)):Inv X pins σ (upd H e (XO e C od T')) { s with heap:=h' }:=by
 have ne:∀b,H b=none->b≠e:=λb n z=>by rw[z,he]at n;cases n
 have nf:∀b o,H b=some o->b∉frs X.stack:=λb o q z=>by rw[I.K5 b z]at q;cases q
 have nc:∀b o,H b=some o->b∉ch:=λb o q z=>by rw[(hch b z).2.1]at q;cases q
 obtain⟨t',sl',hx'⟩:=hx;have any:∀b o,b∉ch->b≠e->s.heap.get? b=some o->∃sl,h'.get? b=some { o with slots:=sl }:=λb o hb hne q=>by
  by_cases hf:b∈frs X.stack
  .exact slot b o hf q
  .exact⟨o.slots,keep b o hne hb hf q⟩
 refine I.step (g':=s.gens) (d':=s.drawn) (t':=s.toks) (ch:=ch) (λb hb=>⟨.inr (hch b hb).1,(hch b hb).2.2⟩) (λb o hL hb hc q n=>keep b o (ne b n) hc (λz=>?_) q) (λb o _ _ hc q n=>any b o hc (ne b n) q)
  (λb o _ _ n=>by rw[zc (ne b n)];exact n) (λb o hc q=>?_) (λb xs q=>?_) (λb o u q=>?_) (λb ps q=>⟨#[],?_⟩) (λm hm=>?_) (λb u q=>?_) I.bare
 .rcases C5.mp (I.Ky b z)with z|z
  .exact hL z
  .exact hb z
 .by_cases hbe:b=e
  .exact⟨_,hbe▸hx'⟩
  .obtain⟨sl,q'⟩:=any b o hc hbe q;exact⟨_,q'⟩
 .have:b≠e:=λz=>by rw[z,he]at q;cases q
  rw[zc this];exact q
 .have:b≠e:=λz=>by rw[z,he]at q;cases q
  rw[zc this];exact q
 .have:b≠e:=λz=>by rw[z,he]at q;cases q
  rw[zc this,q];simp
 .obtain⟨o,es,ep,ho,r⟩:=hm;have hL:H X.env.locals=none:=I.free;obtain⟨sl,q'⟩:=any _ o (λz=>(hch _ z).2.2.1 rfl) (ne _ hL) ho;exact⟨_,es,ep,q',r⟩
 .by_cases hbe:b=e
  .subst hbe;rw[zb]at q;cases q;exact XO.ok hx'
  .rw[zc hbe]at q;refine(I.hok b u q).fP (λc v hc r=>?_) (λc r=>?_) λc xs r=>?_
   .rcases hc with z|z
    .subst z;exact keep c v hbe (nc c u q) (nf c u q) r
    .have:c≠e:=λz2=>by rw[z2,he]at z;cases z
     exact keep c v this (nc c _ z) (nf c _ z) r
   .have:c≠e:=λz2=>by rw[z2,he]at r;cases r
    rw[zc this];exact r
   .have:c≠e:=λz2=>by rw[z2,he]at r;cases r
    rw[zc this];exact r
structure Tb(X:Cx)(pins:Ca)(H:Hp)(s:Ce)(Ta:Addr)(fl:Value):Prop where
 tbk:∃oT ts,s.heap.get? Ta=some oT/\oT.data=.fields ts/\ts[3]?=some fl
 new:X.s₀.heap.objs.size<=Ta
 free:H Ta=none
 pin:∀p∈X.pn++pins,p.1≠Ta
def Own(X:Cx):Prop:=X.stack=X.env::X.outer/\X.env.frame=some X.env.locals
def Tb.ok(I:Inv X pins σ H s)(b:Tb X pins H s Ta fl):Ta≠X.env.locals/\(∀x c,X.env.cells.lookup x=some c->c≠Ta)/\Ta∉frs X.stack:=by
 obtain⟨oT,ts,h1,h2,_⟩:=b.tbk;have nL:Ta≠X.env.locals:=λz=>by obtain⟨m,⟨o,es,ep,ho,hd,_⟩,_⟩:=I.loc;rw[z]at h1;rw[h1]at ho;cases ho;rw[h2]at hd;cases hd
 refine⟨nL,λx c q z=>?_,λz=>?_⟩
 .obtain⟨v,o,ho,hd⟩:=I.cell x c q;rw[z,h1]at ho;cases ho;rw[h2]at hd;cases hd
 .rcases C5.mp (I.Ky _ z)with z|z
  .exact nL z
  .obtain⟨_,o,ho,hn⟩:=I.Xm.mem z;rw[h1]at ho;cases ho;exact hn _ h2
def cw(I:Inv X pins σ H s)(he:H e=some (XO e C od (.ref Ta)))(b:Tb X pins H s Ta fl)
  (hQ:∀h',Inv X pins σ (upd H e (XO e C od (.ref Ta))) { s with heap:=h' }->Tb X pins (upd H e (XO e C od (.ref Ta))) { s with heap:=h' } Ta (f.elim .none λf=>rawInt f)->Q () { s with heap:=h' }):
  wpAny M A (setFlight (.ref e) f) Q E s:=by
 obtain⟨t,sl,hx⟩:=XO.get (I.hok e _ he);obtain⟨oT,ts,h1,h2,h3⟩:=id b.tbk;obtain⟨n1,n2,n3⟩:=b.ok I;have nTe:Ta≠e:=λz=>by have:=b.free;rw[z,he]at this;cases this
 have sz:=(a02.mp h3).1;unfold setFlight;refine f8 (a0X hx rfl (x:=.ref Ta) rfl ?_);rw[if_pos (show(Value.ref Ta != Value.none)=true from by simp)];refine a1J h1 h2 sz ?_;have oth:∀c,c≠Ta->(s.heap.update Ta (Obj.mapFields (·.setIfInBounds 3 (f.elim .none λf=>rawInt f)))).get? c=s.heap.get? c:=λc hc=>D8 _ _ (Ne.symm hc);refine hQ _ (I.ny he [Ta] (λc hc=>?_) (λc o _ hc _ q=>(oth c (by simpa using hc)).trans q) (λc o hc q=>⟨o.slots,(oth c (λz=>n3 (z▸hc))).trans q⟩) ⟨t,sl,(oth e (Ne.symm nTe)).trans hx⟩) ⟨⟨_,_,Heap.get?_update_self _ h1 (Obj.isFreed_of_fields (Obj.data_mapFields h2 _)),Obj.data_mapFields h2 _,by simp[sz]⟩,b.new,by rw[zc nTe];exact b.free,b.pin⟩;obtain rfl:c=Ta:=by simpa using hc
 exact⟨b.new,b.free,n1,n2,b.pin⟩
def gw(I:Inv X pins σ H s)(he:H e=some (XO e C od .none))(hQ:Q () s):wpAny M A (setFlight (.ref e) f) Q E s:=by obtain⟨t,sl,hx⟩:=XO.get (I.hok e _ he);unfold setFlight;refine f8 (a0X hx rfl (x:=.none) rfl ?_);exact B8 hQ
def Wm(own:Own X)(hA:A.frames=some X.stack)(I:Inv X pins σ H s)(he:H e=some (XO e C od T))
  (hQ:∀Tn h',Inv X pins σ (upd H e (XO e C od (.ref Tn))) { s with heap:=h' }->Tb X pins (upd H e (XO e C od (.ref Tn))) { s with heap:=h' } Tn (rawInt X.env.locals)->Q () { s with heap:=h' }):
  wpAny M A (do setField (.ref e) 1 (<- EntryCells.newEntry head (<- frameOf X.env) .none (rawInt X.env.locals) .none (<- entryPlaceOf X.env.locals hadNext))) Q E s:=by
 obtain⟨t,sl,hx⟩:=XO.get (I.hok e _ he);have hst:=I.stack;rw[own.1]at hst hA;refine f8 (wpAny_frameOf_fun hA hst own.2 λh1 hs1=>?_);refine f8 (wpAny_entryPlaceOf λpl hpl=>?_);unfold EntryCells.newEntry newFields;refine f8 (S5 ?_ (hpl.sizeOk5 _ _ _ _ _));have nef:e∉frs (X.env::X.outer):=λz=>by have:=I.K5 e (by rw[own.1];exact z);rw[he]at this;cases this
 have hx1:h1.get? e=some (ym C od t T sl):=(hs1.2.1 e nef).trans hx;have hnT:e≠h1.objs.size:=D2 (C0 hx1);refine a1J (B6 _ hx1) rfl (by show 1<6;decide) ?_;have hold:∀c o,c≠e->h1.get? c=some o->∀tb:Obj,((h1.push tb).update e (Obj.mapFields (·.setIfInBounds 1 (Value.ref h1.objs.size)))).get? c=some o:=λc o hc q tb=>
  (D8 _ _ (Ne.symm hc)).trans (B6 _ q)
 have hfr:H h1.objs.size=none:=I.hok.fresh (a2a hs1.1.symm);refine hQ h1.objs.size _ (I.ny he [] (λ_ z=>nomatch z) (λc o hc _ hf q=>hold c o hc ((hs1.2.1 c (by rw[own.1]at hf;exact hf)).trans q) _) (λc o hf q=>?_) ⟨t,sl,?_⟩) ⟨⟨_,_,(D8 _ _ hnT).trans (E2 _ rfl),rfl,?_⟩,?_,?_,λp hp z=>?_⟩
 .obtain⟨sl',q'⟩:=hs1.2.2 c o q;exact⟨sl',hold c _ (λz=>nef (by rw[own.1]at hf;exact z▸hf)) q' _⟩
 .exact G0 _ (B6 _ hx1) rfl
 .rcases hpl with rfl|⟨_,_,_,_,_,_,_,rfl⟩<;>simp
 .rw[hs1.1];exact I.sz
 .rw[zc (Ne.symm hnT)];exact hfr
 .have q:=(I.pin p hp).1;exact absurd (C0 q) (by rw[z,hs1.1];exact M8 _)
structure XIs(K:CO)(C:Addr):Prop where
 ha:findIn K (.ref C) "__class__"=some (some (.builtin "object.__class__"))
 hn:specialIn K (.builtin "object.__class__") "__get__"=some (some (.builtin "getset_descriptor.__get__"))
 htk:takesIn K (.builtin "object.__class__")=some true
section
variable {prog:Cq}{w:Cv}{A:Cz}{E:B_}{s:Ce}{K:CO}{x dx C t:Addr}{T:Value}{sl:CB}{mA:Cc}{name:Str}{v:Value}{R:Result->Shared->Prop}
def sC(X:K.In s.heap)(c:Ki K C)(z:XIs K C)(I:InstAt s.heap x ox C (some od))
  (h:Q (some (.ref C)) { s with toks:=s.toks+1 }):wpAny (model prog w) A (getAttr? (.ref x) "__class__") Q E s:=by
 obtain⟨cd,hc,ho,ne,hdct⟩:=c.cd;have hm:=c.sub (x:="object") (by decide);obtain⟨hp,g,d,tk,os⟩:=s;have L0:=I.type (M:=model prog w);have L1:=a1k (M:=model prog w) X c.ga;have L2:=a1k (M:=model prog w) X c.gn;have Lb:Looks (model prog w) hp (isInstance (.ref x) (.type "BaseException")) true:=L0.andThen (a1G X (c.sub (x:="BaseException") (by decide)));have hf:findObj K C (some od) "__class__"=some (.bind (.builtin "getset_descriptor.__get__") (.builtin "object.__class__")):=findObj_data (by rw[hc];rfl) z.ha z.hn z.htk;have L3:=looks_find (M:=model prog w) X I hf;have ga:=PySem.F.excAttr_ValueError.ga;have f3:=ga.bind (.ref x);unfold getAttr? getAttrBy? getAttrBy;refine f8 (a2b (f8 (a0z (G7 (f8 (L0.at (f8 (L1.at ?_))))))));dsimp only;rw[show(onTheHeap (Value.ref C)&&Value.builtin "BaseException.__getattribute__"==Value.builtin "object.__getattribute__")=false from by
  rw[show(Value.builtin "BaseException.__getattribute__"==Value.builtin "object.__getattribute__")=false from by decide +kernel];rfl]
 show wpAny _ _ (getAttrByItsOwn _ _ _ _ _ _) _ _ _;unfold getAttrByItsOwn;refine f8 (show wpAny _ _ (typeLookup (.ref C) "__getattr__") _ _ _ from L2.at ?_);refine f8 (a0z (G7 ?_));show wpAny _ _ (bindSpecial _ _ >>= _) _ _ _;rw[f3];refine f8 (B8 (a0d (a0e ga.plain F.entry_bexc_ga ?_)));have hk:builtinKind "BaseException.__getattribute__"=some .slot:=by decide +kernel
 have hs:splitId "BaseException.__getattribute__"=some ("BaseException","__getattribute__"):=by decide +kernel
 refine @check_slot (model prog w) _ _ ⟨hp,g,d,tk+1,os⟩ "BaseException.__getattribute__" "BaseException" "__getattribute__" (.ref x) [.str "__class__" tk] [] _ hk hs Lb (F.args_bexc_ga (.ref x) (.str "__class__" tk)) ?_;unfold Builtin.«object.__getattribute__»
 repeat(first|with_reducible refine a0d ?_|lk)
 refine class_get (s:=⟨hp,g,d,tk+1,os⟩) (ox:=ox) (od:=some od) X I hm ?_;exact B8 (B8 (B8 h))
def gz{ox od:Obj}(c:Ki K C)(z:XIs K C):KitX K (.ref x) (.ref C) (λh=>InstAt h x ox C (some od))where
 ty:=λ_ _ _ I=>I.type
 it:=λ_ _ X _=>by
  obtain⟨cd,hc,_⟩:=c.cd;unfold clsIn at hc;split at hc
  .rename_i c' d' cd' sl' hl;intro A' Q' E' s' k q;unfold isType loadHead;exact f8 (a0S (k _ _ (X _ _ hl)) (B8 q))
  .cases hc
 ne:=λh tp dd its n sl X htp=>by
  obtain⟨cd,hc,_⟩:=c.cd;refine Bool.eq_false_iff.mpr λq=>?_;obtain rfl:C=tp:=Value.ref.inj (F9.mp q);unfold clsIn at hc;split at hc
  .rename_i c' d' cd' sl' hl;cases(X _ _ hl).symm.trans htp
  .cases hc
 ca:=λX I k=>sC X c z I k
end
def K_(h:H a=some o):upd H a o=H:=by
 funext b;unfold upd;split
 .rename_i e;rw[e,h]
 .rfl
def XC(e C dx:Addr):HO:=.ext λh=>∃t T sl,h.get? e=some (ym C (some dx) t T sl)
def XC.get(x:yk P w H h e (XC e C dx)):∃t T sl,h.get? e=some (ym C (some dx) t T sl):=x.1
section
variable {X:Cx}{pins:Ca}{σ:St}{H:Hp}{s:Ce}{e C dx Ta:Addr}{od:CH}{T fl:Value}{M:Model}{A:Cz}{E:B_}{Q:Unit->Shared->Prop}
def Fl(X:Cx)(pins:Ca)(H:Hp)(s:Ce)(e C:Addr)(od:CH):Prop:=
 ∃T,H e=some (XO e C od T)/\(T=.none\/∃Ta fl,T=.ref Ta/\Tb X pins H s Ta fl/\(fl=.none\/∃n:Int,fl=rawInt n))
def UC(own:Own X)(hA:A.frames=some X.stack)(I:Inv X pins σ H s)(f:Fl X pins H s e C od)
  (hQ:∀Tn h',Inv X pins σ (upd H e (XO e C od (.ref Tn))) { s with heap:=h' }->Tb X pins (upd H e (XO e C od (.ref Tn))) { s with heap:=h' } Tn (rawInt X.env.locals)->Q () { s with heap:=h' }):
  wpAny M A (noteFrame (.ref e) X.env) Q E s:=by
 obtain⟨T,he,hT⟩:=f;obtain⟨t,sl,hx⟩:=XO.get (I.hok e _ he);unfold noteFrame;simp only[own.2];refine f8 (a0X hx rfl (x:=T) rfl ?_);rcases hT with rfl|⟨Ta,fl,rfl,b,hfl⟩
 .rw[if_neg (by decide)];exact Wm own hA I he hQ
 .rw[if_pos (show(Value.ref Ta != Value.none)=true from by simp)];obtain⟨oT,ts,h1,h2,h3⟩:=id b.tbk;refine f8 (a0X h1 h2 h3 ?_);by_cases hq:¬(fl==rawInt X.env.locals)=true
  .rw[if_neg hq];obtain⟨n1,n2,n3⟩:=b.ok I;have nTe:Ta≠e:=λz=>by have:=b.free;rw[z,he]at this;cases this
   have sz:=(a02.mp h3).1;refine f8 (a1J h1 h2 sz ?_);have oth:∀c,c≠Ta->(s.heap.update Ta (Obj.mapFields (·.setIfInBounds 3 .none))).get? c=s.heap.get? c:=λc hc=>D8 _ _ (Ne.symm hc);have I2:Inv X pins σ H { s with heap:=s.heap.update Ta (Obj.mapFields (·.setIfInBounds 3 .none)) }:=by
    have:=I.ny (T':=.ref Ta) he [Ta] (h':=s.heap.update Ta (Obj.mapFields (·.setIfInBounds 3 .none))) (λc hc=>by
     obtain rfl:c=Ta:=by simpa using hc
     exact⟨b.new,b.free,n1,n2,b.pin⟩) (λc o _ hc _ q=>(oth c (by simpa using hc)).trans q) (λc o hc q=>⟨o.slots,(oth c (λz=>n3 (z▸hc))).trans q⟩) ⟨t,sl,(oth e (Ne.symm nTe)).trans hx⟩
    rwa [K_ he]at this
   exact Wm own hA I2 he λTn h'=>hQ Tn h'
  .have hq:=Classical.not_not.mp hq;rw[if_pos hq];obtain rfl:fl=rawInt X.env.locals:=eq_of_beq hq;refine B8 ?_;have:=hQ Ta s.heap (by rw[K_ he];exact I) (by rw[K_ he];exact b);exact this
end
def x4(X:Cx)(E:XK)(v:Value)(s':Ce):Prop:=∃σ H' e C dx,v=.ref e/\Inv X.nox [] σ H' s'/\Fl X.nox [] H' s' e C (some dx)/\E (.ref e) (some dx) (upd H' e (XC e C dx))
def CXe(P:Cq)(w:Cv):CXT:=λouter H s E v s'=>∃e C dx Ta oT ts H',v=.ref e/\s'.os=s.os/\AllBare s'.gens/\Un (frs outer) [] H H' s.heap s'.heap/\HOk P w H' s'.heap/\
 H' e=some (XO e C (some dx) (.ref Ta))/\s'.heap.get? Ta=some oT/\oT.data=.fields ts/\ts[3]?=some .none/\H' Ta=none/\s.heap.objs.size<=Ta/\E (.ref e) (some dx) (upd H' e (XC e C dx))
abbrev thr(X:Cx)(E:XK):Cx:=X.Kh (x4 X E)
def Inv.thrown(I:Inv X pins σ H s)(h:CXe X.prog X.w X.stack H s E v s'):
  ∃H' e C dx,v=.ref e/\Inv X pins σ H' s'/\Fl X pins H' s' e C (some dx)/\E (.ref e) (some dx) (upd H' e (XC e C dx)):=by
 obtain⟨e,C,dx,Ta,oT,ts,H',rfl,os,bare,un,hok,he,h1,h2,h3,hn,hs,q⟩:=h;have I2:Inv X pins σ H' s':=I.rA os un hok bare λb z=>absurd z (by simp);refine⟨H',e,C,dx,rfl,I2,⟨_,he,.inr ⟨Ta,_,rfl,⟨⟨oT,ts,h1,h2,h3⟩,E3 I.sz hs,hn,λp hp z=>?_⟩,.inl rfl⟩⟩,q⟩;have:=C0 (I.pin p hp).1;rw[z]at this;exact absurd hs (Nat.not_le.mpr this)
def Inv.UD(I:Inv X pins σ H s):Inv X [] σ H s:=I.Jf λ_ h=>nomatch h
def Fl.UD(f:Fl X pins H s e C od):Fl X [] H s e C od:=by obtain⟨T,he,h⟩:=f;refine⟨T,he,h.imp id λ⟨Ta,fl,e1,b,h2⟩=>⟨Ta,fl,e1,⟨b.tbk,b.new,b.free,λp hp=>b.pin p ?_⟩,h2⟩⟩;rw[F0]at hp;exact D7 _ hp
def Fl.Kh(f:Fl X pins H s e C od):Fl (X.Kh E) pins H s e C od:=by obtain⟨T,he,h⟩:=f;exact⟨T,he,h.imp id λ⟨Ta,fl,e1,b,h2⟩=>⟨Ta,fl,e1,⟨b.tbk,b.new,b.free,b.pin⟩,h2⟩⟩
def yD:Passes (CXe X.prog X.w) (thr X E) E:=λpins σ H s v s' I h=>by obtain⟨H',e,C,dx,rfl,I2,f,q⟩:=Inv.thrown (X:=thr X E) I h;exact⟨σ,H',e,C,dx,rfl,(I2.jm.Kh _).UD,(Fl.Kh (X:=thr X E) f.UD),q⟩
def KG:Passes (CXe P w) X E0:=λpins σ H s v s' I h=>by obtain⟨e,C,dx,Ta,oT,ts,H',_,_,_,_,_,_,_,_,_,_,_,q⟩:=h;exact False.elim q
def zx(own:Own X):PassesOwn (Du X) X.A X.env (x4 X E):=λv s' ⟨σ,H',e,C,dx,hv,I,f,q⟩=>by
 subst hv;have hA:X.A.frames=some X.nox.stack:=I.ok.frames;refine UC (X:=X.nox) own hA I f λTn h' I2 b=>?_;obtain⟨t,sl,hx⟩:=XO.get (I2.hok e _ zb);refine f8 (a0X hx rfl (x:=.ref Tn) rfl ?_);rw[if_neg (show ¬((Value.ref Tn==Value.none)=true)from by simp)];refine cw I2 zb b λh2 I3 b3=>?_;rw[YW]at I3 b3;refine⟨σ,_,e,C,dx,rfl,I3,⟨_,zb,.inr ⟨Tn,_,rfl,b3,.inr ⟨(X.env.locals:Int),?_⟩⟩⟩,?_⟩
 .rw[own.2];rfl
 .rw[YW];exact q
def lD{P:Cq}{w:Cv}{K:CO}{mg:Cc}{base:Heap}{N:Cn}{qual:Str}{scope:Scope}{f:Addr}{cd:Value}{A:Cz}{outer:List Env}{s:Ce}{H:Hp}{E:XK}{v:Value}{s':Ce}
  (h:x4 (aT (CXe P w) P w K mg base N qual scope f cd A outer s H E) E v s'):(aT (CXe P w) P w K mg base N qual scope f cd A outer s H E).xe v s':=by
 obtain⟨σ,H',e,C,dx,hv,I,fl,q⟩:=h;subst hv;have own:Own (aT (CXe P w) P w K mg base N qual scope f cd A outer s H E):=⟨rfl,rfl⟩;show wpAny (model P w) _ (leaving _ (.ref e)) _ _ s';unfold leaving;refine f8 (UC (X:=(aT (CXe P w) P w K mg base N qual scope f cd A outer s H E).nox) own I.ok.frames I fl λTn h' I2 b=>?_);refine cw I2 zb b λh2 I3 b3=>?_;rw[YW]at I3 b3;obtain⟨oT,ts,h1,h2',h3⟩:=b3.tbk;exact⟨e,C,dx,Tn,oT,ts,_,rfl,I3.os,I3.bare,I3.base,I3.hok,zb,h1,h2',h3,b3.free,b3.new,by rw[YW];exact q⟩
def PSs.sD{X:Cx}{E:B_}{st:CQ}{t:TS}(h:PSs (X.Kh E) st t)(hE:∀v s,E v s->X.xe v s):PSs X st t:=λpins s σ H D I hw=>
 L4 (h pins s σ H D (I.Kh E) hw) (λ_ _ q=>q.jm) hE
section
variable {P:Cq}{w:Cv}{K:CO}{mg:Cc}{base:Heap}
def Fun.okX{x qual:Str}{st:CV}{f:Addr}{fd:CA}{N ps:Cn}{k:Nat}{sp:Sp}(F:Fun K x qual st f fd)(S:zr N ps (zg st))(len:∀vs H Q E,sp vs H Q E->vs.length=ps.length)
  (YU:∀(cdv:Value)(A:Cz)(outer:List Env)(s:Ce)(H:Hp)(vs:Ck)(Q:VK) (E:XK),jd k (A.deeper (envOfC qual (zg st) s.heap.objs.size f cdv))->sp vs H Q E->
   ∃t,PSs (thr (aT (CXe P w) P w K mg base N qual (zg st) f cdv A outer s H E) E) (kO st) t/\t { nx:=λ_ H'=>Q .non H',rt:=Q } (start N vs) H):qQ P w K mg base (CXe P w) (k+1) f fd ps sp:=by
 obtain⟨oc,od,kV,doc,pm,an,cdv,ct,osl,rfl,lk,hcd⟩:=F.ex;refine rW lk hcd S len λA outer s H vs Q E hr hsp=>?_;obtain⟨t,h,q⟩:=YU cdv A outer s H vs Q E hr hsp;exact⟨t,h.sD λv s h=>lD h,q⟩
end
def sE(C:Addr)(sp:Sp)(E:XK)(t:TA):TE:=λσ H Q=>t σ H λvs H1=>vs.length<=1000/\∀x,H1 x=none->sp (.ref x::vs) (upd H1 x (XO x C none .none)) (λv H2=>v=.non/\Q (.ref x) H2) E
def Inv.x5(I:Inv X pins σ H s):
  Inv X pins σ (upd H (s.heap.objs.size+1) (XO (s.heap.objs.size+1) C none .none)) { s with heap:=(s.heap.push (lC us)).push (ym C none s.heap.objs.size .none #[]) }:=
 I.laid (t':=s.toks) (λb u e=>B6 _ (B6 _ e)) (a0i _) (XO.ok (t:=s.heap.objs.size) (sl:=#[]) (by heap_get))
def cz(M:XMk X.K C f)(F:qQ X.prog X.w X.K X.mg X.base CX k f fd ps sp)(hr:jd (k+1) X.A)(hb:Binds X.K fd ps [])
  (hx:Passes CX X E) (I:Inv X pins σ H s) (r:Vals vs us) (hl:vs.length<=1000) (h:∀x,H x=none->sp (.ref x::vs) (upd H x (XO x C none .none)) (λv H2=>v=.non/\Q (.ref x) H2) E):
  wpAny (Du X) X.A (call (.ref C) us) (EP X pins σ Q) X.xe s:=by
 have hq:=h (s.heap.objs.size+1) (I.hok.fresh (a0i _));have I2:=Inv.x5 (C:=C) (us:=us) I;have r2:Vals (V.ref (s.heap.objs.size+1)::vs) (Value.ref (s.heap.objs.size+1)::us):=.cons rfl r;have hl2:(Value.ref (s.heap.objs.size+1)::us++[]).length=ps.length:=by have e:=r2.length;rw[F.len _ _ _ _ hq]at e;rw[F0];exact e.symm
 have bd:=hb _ (Value.ref (s.heap.objs.size+1)::us) I2.kIn hl2;rw[F0]at bd;obtain⟨hh,g,d,tk,os⟩:=s;refine x3 M I.kIn (by rw[<- r.length,N4];omega) (a0r (F.run _ X.stack _ _ ⟨_::us,[]⟩ _ _ _ E (hr.make C us []) (I2.fU.make C us []) bd r2 hq) λr s' hq'=>?_);cases r with
 |error e=>exact hx pins σ _ _ e s' I2 hq'
 |ok fl=>
  cases fl with
  |ret u=>obtain⟨v,H',I3,rv,ev,q3⟩:=I2.after hq';subst ev;exact⟨rv,⟨V.ref (hh.objs.size+1),H',I3,rfl,q3⟩⟩
  |next=>exact False.elim hq'
  |brk=>exact False.elim hq'
  |cont=>exact False.elim hq'
def gA(M:XMk X.K C f)(F:qQ X.prog X.w X.K X.mg X.base CX k f fd ps sp)(hr:jd (k+1) X.A)(hg:Gl X x)(hm:X.mg x=some (.ref C))(hb:Binds X.K fd ps [])(hx:Passes CX X E)
  (ha:PA X (e::es) t) (hdb:(x==("__debug__":Str))=false:=by decide) (he:starEach (e::es) X.env=(false,eval e X.env)::starEach es X.env:=by rfl) (hpl:(backTo pos (starEach es X.env)).any (·.1)=false:=by rfl):
  PE X (.Call (.Name x p) (e::es) [] pos) (sE C sp E t):=by
 intro pins s σ H Q I h;refine N7 (Xn I hg hm ?_ hdb);refine a16 (h₀:=X.base) I.ok.mod.kin M.kp (thn (ha pos pins s σ H _ I h) λus s1 ⟨vs,H1,I1,r,hl,q⟩=>⟨I1.kIn,?_⟩) he hpl;exact cz M F hr hb hx I1 r hl q
def x6(K:CO)(ta tv:TE)(f:Str):TS:=λD σ H=>tv σ H λy H1=>ta σ H1 λx H2=>∃e C T,x=.ref e/\Ki K C/\takerIn K C f=some none/\
  ((H2 e=some (XO e C none T)/\∀dx,H2 dx=none->D.nx σ (upd (upd H2 dx (XD dx [(f,y)])) e (XO e C (some dx) T)))\/
   (∃dx fs,H2 e=some (XO e C (some dx) T)/\H2 dx=some (XD dx fs)/\dx≠e/\fs.length<1000/\D.nx σ (upd H2 dx (XD dx (Xf f y fs)))))
section
variable {X:Cx}{o value:Co}{f:Str}{pos pos':Pos}{ta tv:TE}
def YY(ha:PE X o ta)(hv:PE X value tv)(hs:swapsWith value (some (.Attribute o f pos')) pos.line X.env=pure false):PS X (.Assign [.Attribute o f pos'] value pos) (x6 X.K ta tv f):=by
 intro pins s σ H D I h;refine plainObj_wpAny_Assign_Attribute (thn (hv pins s σ H _ I h) λu s1 ⟨y,H1,I1,ry,q⟩=>thn (ha pins s1 σ H1 _ I1 q) λov s2 ⟨x,H2,I2,rx,e,C,T,ex,c,tk,q2⟩=>?_) hs;subst ex;obtain rfl:ov=Value.ref e:=rx;rcases q2 with⟨he,q2⟩|⟨dx,fs,he,hd,ne,l,q2⟩
 .obtain⟨t,sl,hx⟩:=XO.get (I2.hok e _ he);have hne:s2.heap.objs.size≠e:=M9 (C0 hx);have hfr:H2 s2.heap.objs.size=none:=I2.hok.fresh (B7 _);refine aV I2.kIn c hx tk λh' hx' hn' kp=>⟨σ,_,?_,q2 _ hfr⟩;have lt:∀b o,s2.heap.get? b=some o->b≠s2.heap.objs.size:=λb o q=>D2 (C0 q);have ltH:∀b o,H2 b=some o->b≠s2.heap.objs.size:=λb o q z=>by rw[z,hfr]at q;cases q
  refine I2.un (h':=h') (t':=s2.toks+2) ⟨λb o q n _ _=>kp b o (λz=>by rw[z,he]at n;cases n) q,λb o q n _ _=>⟨o.slots,kp b o (λz=>by rw[z,he]at n;cases n) q⟩,λb o q n _=>?_,λb o q _=>?_,λb xs q=>?_,λb o u q=>?_,λb ps q=>⟨#[],?_⟩⟩ λb ob q=>?_
  .rw[zc (λz=>by rw[z,he]at n;cases n),zc (lt b o q)];exact n
  .by_cases hb:b=e
   .exact⟨_,hb▸hx'⟩
   .exact⟨o,kp b o hb q⟩
  .rw[zc (λz=>by rw[z,he]at q;cases q),zc (ltH b _ q)];exact q
  .rw[zc (λz=>by rw[z,he]at q;cases q),zc (ltH b _ q)];exact q
  .rw[zc (λz=>by rw[z,he]at q;cases q),zc (ltH b _ q),q];simp
  .by_cases hb:b=e
   .subst hb;rw[zb]at q;cases q;exact XO.ok hx'
   .rw[zc hb]at q;by_cases hb2:b=s2.heap.objs.size
    .subst hb2;rw[zb]at q;cases q;refine XD.ok hn' (λg=>?_) (λg hg=>?_) (by show 1<=1000;decide)
     .show K4 (List.lookup g [(f,y)]) (if g=f then some u else none);by_cases z:g=f
      .subst z;rw[if_pos rfl];simp only[List.lookup,beq_self_eq_true];exact ry
      .rw[if_neg z];simp only[List.lookup,beq_eq_false_iff_ne.mpr z];exact True.intro
     .by_cases z:g=f
      .subst z;exact C7.mpr rfl
      .exact absurd (if_neg z) hg
    .rw[zc hb2]at q;refine(I2.hok b ob q).fP (λc v hc r=>kp c v ?_ r) (λc r=>?_) λc xs r=>?_
     .rcases hc with z|z
      .rw[z];exact hb
      .intro z2;rw[z2,he]at z;cases z
     .rw[zc (λz=>by rw[z,he]at r;cases r),zc (ltH c _ r)];exact r
     .rw[zc (λz=>by rw[z,he]at r;cases r),zc (ltH c _ r)];exact r
 .obtain⟨t,sl,hx⟩:=XO.get (I2.hok e _ he);obtain⟨mA,hn,r,wi,l1⟩:=XD.get (I2.hok dx _ hd);refine cq I2.kIn c hx hn ne tk wi (by rw[u8,N4];omega) λh' hn' sb=>⟨σ,_,?_,q2⟩;have hdx:∃u,h'.get? dx=some u:=let⟨o,_,_,e',_⟩:=hn';⟨o,e'⟩
  refine I2.write (x:=dx) (e:=dx) (t':=s2.toks+2) (by rw[hd];exact True.intro) (.inl rfl) (λb u hb z=>(sb.2 b hb).trans z) hdx (XD.ok hn' (λg=>?_) (λg hg=>?_) ?_)
  .show K4 ((Xf f y fs).lookup g) (if g=f then some u else mA g);rw[Ji];by_cases q:g=f
   .rw[if_pos q,if_pos q];exact ry
   .rw[if_neg q,if_neg q];exact r g
  .by_cases q:g=f
   .rw[q];exact(Jj f y fs).1
   .refine(Jj f y fs).2 g (wi g λz=>hg ?_);show(if g=f then some u else mA g)=none;rw[if_neg q];exact z
  .have:=Jk f y fs;omega
def x8(I:Inv X pins σ H s)(he:H e=some (XC e C dx)\/∃T,H e=some (XO e C (some dx) T)):∃t T sl,s.heap.get? e=some (ym C (some dx) t T sl):=by
 rcases he with he|⟨T,he⟩
 .exact XC.get (I.hok e _ he)
 .obtain⟨t,sl,h⟩:=XO.get (I.hok e _ he);exact⟨t,T,sl,h⟩
def sF(K:CO)(E:XK)(te:TE):TS:=λ_ σ H=>te σ H λv H1=>∃e C dx,v=.ref e/\Ki K C/\H1 e=some (XO e C (some dx) .none)/\E (.ref e) (some dx) (upd H1 e (XC e C dx))
def gB(hh:X.calm=true)(he:PE (thr X E) e te):PS (thr X E) (.Raise (some e) none pos) (sF X.K E te):=by
 intro pins s σ H D I h;rw[arm_exec_Raise];refine f8 (T8 ?_);show wpAny _ _ (raiseStmt X.env (some (do let v<-eval e X.env;standAt pos;pure v)) none) _ _ s;unfold raiseStmt;refine f8 (f8 (thn (he pins s σ H _ I h) λu s1 ⟨v,H1,I1,rv,a,C,dx,ev,c,hx,q⟩=>f8 (T8 (B8 ?_))));subst ev;obtain rfl:u=Value.ref a:=rv;obtain⟨t,sl,ho⟩:=XO.get (I1.hok a _ hx);obtain⟨cd,hcd,_⟩:=c.cd;have L0:Looks (Du X) s1.heap (typeOf (.ref a)) (.ref C):=(Looks.ld ho).andThen .now;have Lb:Looks (Du X) s1.heap (isSubtype (.ref C) (.type "BaseException")) true:=a1G I1.kIn (c.sub (x:="BaseException") (by decide));have LI:Looks (Du X) s1.heap (isInstance (.ref a) (.type "BaseException")) true:=L0.andThen Lb;have fin:(thr X E).xe (.ref a) s1:=⟨σ,H1,a,C,dx,rfl,(I1.jm.Kh _).UD,⟨.none,hx,.inl rfl⟩,q⟩;have hd:(thr X E).A.handled=none:=I1.ok.hd hh;have LT:Looks (Du X) s1.heap (isType (.ref a)) false:=by intro A' Q' E' s' k q;unfold isType loadHead;exact f8 (a0S (k _ _ ho) (B8 q))
 have LE:Looks (Du X) s1.heap (isExcClass (.ref a)) false:=LT.andThen .now;refine f8 (B8 ?_);dsimp only;refine f8 (G7 ?_);unfold excFromValue;refine f8 (LE.here ?_);simp only[Bool.false_eq_true,if_false];refine f8 (LI.here ?_);simp only[if_true];refine B8 (f8 (LT.here ?_));simp only[Bool.false_eq_true,if_false];have LC:Looks (Du X) s1.heap (typeOf (.ref C)) (.type "type"):=looks_typeIn I1.kIn c.ty;have LR:Looks (Du X) s1.heap (raisedInstance (.ref a)) (.ref a):=by unfold raisedInstance;refine L0.andThen (LC.andThen ?_);rw[if_pos (by simp)];exact .now
 refine f8 (LR.here (f8 (gw I1 hx ?_)));exact wpAny_raiseNew_none hd fin
end
def TyX(K:CO)(H:Hp)(x:V)(t:Value):Prop:=bH K H x t\/
 ∃e C dx fs,x=.ref e/\t=.ref C/\Ki K C/\XIs K C/\(H e=some (XC e C dx)\/∃T,H e=some (XO e C (some dx) T))/\H dx=some (XD dx fs)
def x9:V->Option Value
 |.ref a=>some (.ref a)
 |.ty n=>some (.type n)
 |_=>none
def gC(r:RelV c u)(e:x9 c=some v):u=v:=by
 cases c with
 |ref a=>cases e;exact r
 |ty n=>cases e;exact r
 |_=>cases e
def Xy(I:Inv X pins σ H s)(rx:RelV x u)(ty:TyX X.K H x t):∃P,KitX X.K u t P/\P s.heap/\u≠.builtin "__main__.__loader__#opaque":=by
 rcases ty with ty|⟨e,C,dx,fs,rfl,rfl,c,z,he,hd⟩
 .cases ty with
  |non=>cases(show u=Value.none from rx);exact⟨_,kitx_none,True.intro,λz=>nomatch z⟩
  |bl y=>cases(show u=Value.bool y from rx);exact⟨_,kitx_bool,True.intro,λz=>nomatch z⟩
  |int i=>obtain⟨t,q⟩:=(show ∃t,u=Value.int i t from rx);cases q;exact⟨_,kitx_int,True.intro,λz=>nomatch z⟩
  |str y=>obtain⟨t,q⟩:=(show ∃t,u=Value.str y t from rx);cases q;exact⟨_,kitx_str,True.intro,λz=>nomatch z⟩
  |flt y=>obtain⟨t,q⟩:=(show ∃t,u=Value.float y t from rx);cases q;exact⟨_,kitx_float,True.intro,λz=>nomatch z⟩
  |@lst a xs ea=>cases(show u=Value.ref a from rx);obtain⟨_,_,n,_,h1⟩:=(show yk X.prog X.w H s.heap a (.lst xs)from I.hok a _ ea);exact⟨_,kitx_list,⟨_,h1,rfl⟩,λz=>nomatch z⟩
  |@frz a ob xs ea=>cases(show u=Value.ref a from rx);obtain⟨_,_,_,n,_,h1⟩:=(show yk X.prog X.w H s.heap a (.frz ob (.lst xs))from I.hok a _ ea);exact⟨_,kitx_list,⟨_,h1,rfl⟩,λz=>nomatch z⟩
  |@tup a xs ea=>cases(show u=Value.ref a from rx);obtain⟨_,_,_,p⟩:=(show yk X.prog X.w H s.heap a (.tup xs)from I.hok a _ ea);obtain⟨o,h1,h2,_⟩:=p;exact⟨_,kitx_tuple,⟨o,h1,h2⟩,λz=>nomatch z⟩
  |@dK a kvs ea=>cases(show u=Value.ref a from rx);obtain⟨_,_,vs,_,p⟩:=(show yk X.prog X.w H s.heap a (.dK kvs)from I.hok a _ ea);obtain⟨o,es,ep,h1,h2,_⟩:=p;exact⟨_,kitx_dict,⟨o,h1,h2.1⟩,λz=>nomatch z⟩
  |@dT a kvs ea=>cases(show u=Value.ref a from rx);obtain⟨_,_,xs,_,o,es,ep,h1,h2,_⟩:=(show yk X.prog X.w H s.heap a (.dT kvs)from I.hok a _ ea);exact⟨_,kitx_dict,⟨o,h1,h2.1⟩,λz=>nomatch z⟩
  |@ins a C dx fs ea cl ha hn htk hm=>cases(show u=Value.ref a from rx);obtain⟨mA,O,_⟩:=m5 I.hok ea;obtain⟨od,J,_⟩:=O.look;exact⟨_,kitx_own (cl.get _) cl.hd ha hn htk hm,J,λz=>nomatch z⟩
 .cases(show u=Value.ref e from rx);obtain⟨t,T,sl,hx⟩:=x8 I he;obtain⟨mA,hn,_⟩:=XD.get (I.hok dx _ hd);obtain⟨od,hod,_⟩:=Jh hn;exact⟨_,gz c z,⟨hx,rfl,rfl,hod⟩,λz=>nomatch z⟩
abbrev TEx:=St->Hp->VK->XK->Prop
section
variable {X:Cx}{k:Nat}{f C:Addr}{fd:CA}{ps:Cn}{sp:Sp}{x m:Str}{p pos ky:Pos}{e o:Co}{es:Ci}{ta te:TE}{t:TA}
end
section
variable {X:Cx}{pins:Ca}{σ:St}{H:Hp}{s:Ce}{v:Value}
end
def gD(i j:Int):Prop:=i.natAbs<2 ^ 8192/\j.natAbs<2 ^ 8192
def gD.ok(h:gD i j):IntMulOk i j:=IntMulOk.of_le (intBits_le_iff.mpr h.1) (intBits_le_iff.mpr h.2) (by decide)
def nA:OpR X (binaryOp .Mult) (rI gD λi j=>.int (i*j)):=opI λ_ _ _ _ _ _ _ hc q=>mul_int q hc.ok
section
variable {H:Hp}{Q:VK}{i j:Int}{x y:Str}{v:V}{o:Option V}{r:St}{n:Nat}
end
section
variable {K:CO}{C:Addr}{f g:Str}{E E':XK}{D:Ends}{σ:St}{H:Hp}{v u:V}{te tu:TE}
end
def zl.upd{H:Hp}{p:Addr}{o:HO}(h:H p=Option.none):zl H (upd H p o):=λb q e=>by rw[zc (yC e h)];exact e
def Xz(cells:CF):List (Str×NameKind)->List (Str×Addr)->List (Str×Addr)
 |[],cs=>cs
 | (n,k)::r,cs=>Xz cells r (if k == .free then(match cells.lookup n with|some c=>(n,c)::cs|none=>cs)else cs)
def Qt{env:Env}:∀(names:CN)(cs:CF),(∀y∈names,y.2=.free->(env.cells.lookup y.1).isSome=true)->
  (forIn names cs λx r=>if(x.2==NameKind.free)=true then do let a<-cellOf env x.1;pure (ForInStep.yield ((x.1,a)::r))else pure (ForInStep.yield r))=(pure (Xz env.cells names cs):Sem _)
 |[],cs,_=>rfl
 | (n,k)::r,cs,h=>by
  rw[List.forIn_cons];have ih:=λcs=>Qt (env:=env) r cs λy hy=>h y (B4 _ hy);unfold Xz;by_cases hk:(k==NameKind.free)=true
  .have hs:=h (n,k) B3 (F9.mp hk);obtain⟨c,hc⟩:=L8.mp hs;have hc':List.lookup n env.cells=some c:=hc;simp only[hk,if_true,cellOf,hc',pure_bind];exact ih _
  .have hk':(k==NameKind.free)=false:=by simpa using hk
   simp only[hk',Bool.false_eq_true,if_false,pure_bind];exact ih _
def aX(h:∀y∈scope.names,y.2=.free->(env.cells.lookup y.1).isSome=true):closureFor scope env=pure (Xz env.cells scope.names []):=by have:=Qt scope.names [] h;simp only[closureFor];rw[this];rfl
def wL{cells:CF}{x:Str}{c:Addr}:∀(names:CN)(cs:CF),(∀d,cs.lookup x=some d->cells.lookup x=some d)->(Xz cells names cs).lookup x=some c->cells.lookup x=some c
 |[],cs,h,e=>h c e
 | (n,k)::r,cs,h,e=>by
  unfold Xz at e;refine wL r _ (λd hd=>?_) e;by_cases hk:(k==NameKind.free)=true
  .rw[if_pos hk]at hd;split at hd
   .rename_i c' hc';rw[G8]at hd;split at hd
    .rename_i hx;cases hd;rw[F9.mp hx];exact hc'
    .exact h d hd
   .exact h d hd
  .rw[if_neg hk]at hd;exact h d hd
def Va{cells:CF}{x:Str}:∀(names:CN)(cs:CF),((cs.lookup x).isSome=true\/((x,NameKind.free)∈names/\(cells.lookup x).isSome=true))->((Xz cells names cs).lookup x).isSome=true
 |[],cs,h=>by
  rcases h with h|⟨h,_⟩
  .exact h
  .cases h
 | (n,k)::r,cs,h=>by
  unfold Xz;refine Va r _ ?_;rcases h with h|⟨h,hc⟩
  .left;by_cases hk:(k==NameKind.free)=true
   .rw[if_pos hk];split
    .rw[G8];split
     .rfl
     .exact h
    .exact h
   .rw[if_neg hk];exact h
  .rcases C5.mp h with e|e
   .left;cases e;rw[if_pos (by rfl)];obtain⟨c,hc⟩:=L8.mp hc;rw[hc,G8];simp
   .exact .inr ⟨e,hc⟩
def nB{x:Str}{c:Addr}:∀(names:CN)(h:Heap)(cs:CF),(cellsFrom h.objs.size names cs).lookup x=some c->cs.lookup x=some c\/(h.objs.size<=c/\∃v,(pushCells h names).IsCell c v)
 |[],_,_,e=>.inl e
 | (n,k)::r,h,cs,e=>by
  unfold cellsFrom at e;unfold pushCells;split at e
  .rename_i hk;rw[if_pos hk];have e':(cellsFrom (h.push { cls:=.type "cell",data:=.cell none }).objs.size r ((n,h.objs.size)::cs)).lookup x=some c:=by rw[a0s];exact e
   rcases nB r _ _ e' with z|⟨z,v⟩
   .rw[G8]at z;split at z
    .cases z;exact .inr ⟨B7 _,none,_,a1C r _ _ _ (E2 _ rfl),rfl⟩
    .exact .inl z
   .rw[a0s]at z;exact .inr ⟨a1b z,v⟩
  .rename_i hk;rw[if_neg hk];exact nB r h cs e
def cA:∀(names:CN)(lo:Nat)(cs:CF),(∀x y c,cs.lookup x=some c->cs.lookup y=some c->x=y)->(∀x c,cs.lookup x=some c->c<lo)->∀x y c,(cellsFrom lo names cs).lookup x=some c->(cellsFrom lo names cs).lookup y=some c->x=y
 |[],_,_,h,_=>h
 | (n,k)::r,lo,cs,h,hl=>by
  unfold cellsFrom;split
  .refine cA r _ _ (λx y c e1 e2=>?_) λx c e=>?_
   .rw[G8]at e1 e2;split at e1<;>split at e2
    .rename_i q1 _ q2;rw[F9.mp q1,F9.mp q2]
    .cases e1;exact absurd (hl _ _ e2) (M8 _)
    .cases e2;exact absurd (hl _ _ e1) (M8 _)
    .exact h x y c e1 e2
   .rw[G8]at e;split at e
    .cases e;exact P6 _
    .exact a1c (hl x c e)
  .exact cA r _ _ h hl
def cB{x:Str}:∀(names:CN)(lo:Nat)(cs:CF),((cs.lookup x).isSome=true\/(x,NameKind.cell)∈names)->((cellsFrom lo names cs).lookup x).isSome=true
 |[],_,_,h=>h.elim id λz=>nomatch z
 | (n,k)::r,lo,cs,h=>by
  unfold cellsFrom;split
  .refine cB r _ _ ?_;rcases h with h|h
   .left;rw[G8];split
    .rfl
    .exact h
   .rcases C5.mp h with e|e
    .cases e;left;rw[G8];simp
    .exact .inr e
  .rename_i hk;refine cB r _ _ (h.imp id λz=>?_);rcases C5.mp z with e|e
   .cases e;exact absurd rfl hk
   .exact e
def cC{x:Str}:∀(names:CN)(lo:Nat)(cs:CF),(x,NameKind.cell)∉names->(cellsFrom lo names cs).lookup x=cs.lookup x
 |[],_,_,_=>rfl
 | (n,k)::r,lo,cs,h=>by
  unfold cellsFrom;split
  .rename_i hk;rw[cC r _ _ λz=>h (B4 _ z),G8];have:(x==n)=false:=by
    cases q:x==n with
    |false=>rfl
    |true=>exact absurd (by rw[F9.mp q,F9.mp hk];exact B3) h
   rw[this]
  .exact cC r _ _ λz=>h (B4 _ z)
def cD{x:Str}{c:Addr}:∀(names:CN)(lo b:Nat)(cs:CF),b<=lo->((x,NameKind.cell)∈names\/∀d,cs.lookup x=some d->b<=d)->(cellsFrom lo names cs).lookup x=some c->b<=c
 |[],_,_,_,_,h,e=>h.elim (λz=>nomatch z) λz=>z c e
 | (n,k)::r,lo,b,cs,hb,h,e=>by
  unfold cellsFrom at e;split at e
  .refine cD r _ b _ (Nat.le_succ_of_le hb) ?_ e;rcases h with h|h
   .rcases C5.mp h with z|z
    .cases z;refine .inr λd hd=>?_;rw[G8]at hd;simp at hd;rw[<- hd];exact hb
    .exact .inl z
   .refine .inr λd hd=>?_;rw[G8]at hd;split at hd
    .cases hd;exact hb
    .exact h d hd
  .rename_i hk;refine cD r _ b _ hb (h.imp (λz=>?_) id) e;rcases C5.mp z with q|q
   .cases q;exact absurd rfl hk
   .exact q
def aY
  (h:Q (newEnv scope s.heap.objs.size globals (cellsFrom (s.heap.objs.size+1) scope.names cl) qual none .none (some env) builtinsNs) { s with heap:=pushCells (s.heap.push { cls:=.type "dict",data:=.dict #[] }) scope.names }):
  wpAny M A (newFunctionEnv scope globals cl [] qual none .none (some env)) Q E s:=by
 simp only[newFunctionEnv,Option.isSome_some,if_true];refine f8 (wpAny_alloc ?_);refine f8 (wpAny_layCells _ (λname kind cells=>by cases hkc:kind==NameKind.cell<;>simp[hkc]) _ _ _ _ ?_);rw[show({ s with heap:=s.heap.push { cls:=.type "dict",data:=.dict #[] } }:Shared).heap.objs.size=s.heap.objs.size+1 from a0s ..];refine f8 ?_;rw[List.forIn_nil];exact B8 (B8 h)
abbrev UE(scope:Scope)(cl:CF)(L:Addr)(env:Env):Env:={ compEnvC scope cl L env with cells:=cellsFrom (L+1) scope.names cl }
abbrev yL(X:Cx)(scope:Scope)(N:Cn)(fp:CM)(pn:Ca)(s:Ce)(H:Hp)(L:Addr):Cx:=
 { X with N:=N,s₀:=s,H₀:=H,env:=UE scope (Xz X.env.cells scope.names []) L X.env,outer:=X.stack,ex:=fp,fn:=λx=>scope.names.contains (x,.cell),pn:=pn,xe:=λ_ _=>False }
def bJ(X:Cx)(scope:Scope)(N:Cn)(fr:Ct):Bool:=
 scope.kind == .function&&scope.names.all (λy=>y.2 != .cell || !scope.names.contains (y.1,.free))&&scope.names.all (λy=>y.2 != .local||scope.names.lookup y.1==some .local) &&
 scope.names.all (λy=>y.2 != .free||(X.env.kindOf y.1==some .cell||X.env.kindOf y.1==some .free))&&N.length==fr.length &&
 (N.zip fr).all λp=>match p.2 with|none=>true|some j=>X.N[j]?==some p.1&&scope.names.contains (p.1,.free)&&((relabel scope X.env).names.lookup p.1==some .cell||(relabel scope X.env).names.lookup p.1==some .free)
def fV(σ:St)(fr:Ct):St:=fr.map λo=>match o with|none=>none|some j=>(σ[j]?).join
def PTs(X:Cx)(ifs:Ci)(t:TT):Prop:=
 ∀(pins:Ca)(s:Ce)(σ:St)(H:Hp)(Q:Bool->Hp->Prop),Inv X pins σ H s->t σ H Q->
  wpAny (Du X) X.A (forIn ifs true λc r=>if r=true then do let ok<-isTrue c X.env (eval c X.env);pure (ForInStep.yield ok)else pure (ForInStep.yield r)) (TP X pins σ Q) X.xe s
def BL:TT:=λ_ H Q=>Q true H
def nC:PTs X [] BL:=λ_ _ σ H _ I h=>wpAny_tests_nil ⟨H,I,h⟩
def nD(h:PT X c t):PTs X [c] t:=λpins s σ H Q I q=>wpAny_tests_one (h pins s σ H Q I q)
def Wn(h:(relabel scope env).names.lookup x=some .cell\/(relabel scope env).names.lookup x=some .free):(x,NameKind.free)∈scope.names\/(x,NameKind.cell)∈scope.names:=by
 have key:∀(names:CN) k,(names.map λ(n,k)=>if(k==NameKind.free&&env.scope.kind == .function&&env.kindOf n==some .cell)then(n,NameKind.cell)else(n,k)).lookup x=some k->(k=.cell\/k=.free)->(x,NameKind.free)∈names\/(x,NameKind.cell)∈names:=by
  intro names
  induction names with
  |nil=>intro k e _;simp at e
  |cons y r ih=>
   intro k e hk;obtain⟨n,kd⟩:=y;rw[C8,G8]at e;by_cases q:(kd==NameKind.free&&env.scope.kind == .function&&env.kindOf n==some .cell)=true
   .simp only[q,if_true]at e;split at e
    .rename_i hx;have hf:kd=.free:=by simp only[Bool.and_eq_true,beq_iff_eq]at q;exact q.1.1
     left;rw[F9.mp hx,hf];exact B3
    .exact(ih k e hk).imp (B4 _) (B4 _)
   .simp only[q,Bool.false_eq_true,if_false]at e;split at e
    .rename_i hx;have e':kd=k:=G9 e;rcases hk with z|z
     .right;rw[F9.mp hx,e',z];exact B3
     .left;rw[F9.mp hx,e',z];exact B3
    .exact(ih k e hk).imp (B4 _) (B4 _)
 rcases h with h|h
 .exact key _ _ h (.inl rfl)
 .exact key _ _ h (.inr rfl)
def XA(I:Nat->Shared->Prop)
  (turn:∀n s,I n s->wpAny (model prog w) A (pyNext it) (λr s1=>match r with
   |none=>R (.ok .next) s1
   |some v=>wpAny (model prog w) A (letOwnedTupleGo target it v) (λ_ s1'=>wpAny (model prog w) A (assign target env v) (λ_ s2=>
     wpAny (model prog w) A (forIn ifs true λc r=>if r=true then do let ok<-isTrue c env (eval c env);pure (ForInStep.yield ok)else pure (ForInStep.yield r)) (λok s3=>
      if ok=true then wpAny (model prog w) A (eval elt env) (λx s4=>wpAny (model prog w) A (call (.builtin "list.append") [acc,x]) (λ_ s5=>∃m,m<n/\I m s5) (λ_ _=>False) s4) (λ_ _=>False) s3
      else ∃m,m<n/\I m s3) (λ_ _=>False) s2) (λ_ _=>False) s1') (λ_ _=>False) s1) (λ_ _=>False) s)
  (n:Nat) (h:I n s):codeAny (model prog w) A (.compLoop (.ListComp elt [⟨target,yM,ifs,0⟩] scope pos) 0 it acc env) R s:=by
 refine codeAny_loop rfl I (λn s hI=>?_) n h;show wpAny _ A ((compTurn (.ListComp elt [⟨target,yM,ifs,0⟩] scope pos) 0 it acc env).onRaise (λx=>do noteFrame x env;theTreesLotGoes x)) _ _ s;refine wpAny_noted ?_;rw[compTurn_list];refine f8 (T8 (f8 (L4 (turn n s hI) (λr s1 h1=>?_) λ_ _ z=>False.elim z)));cases r with
 |none=>exact B8 h1
 |some v=>
  refine f8 (L4 h1 (λ_ s1' h1'=>f8 (L4 h1' (λ_ s2 h2=>f8 (L4 h2 (λok s3 h3=>?_) λ_ _ z=>False.elim z)) λ_ _ z=>False.elim z)) λ_ _ z=>False.elim z);cases ok with
  |false=>exact B8 ⟨rfl,h3⟩
  |true=>exact f8 (f8 (L4 h3 (λx s4 h4=>f8 (L4 h4 (λ_ s5 h5=>B8 (B8 ⟨rfl,h5⟩)) λ_ _ z=>False.elim z)) λ_ _ z=>False.elim z))
def aZ{X:Cx}{pins:Ca}{σ:St}{H2:Hp}{s2:Ce}{elt yM tg:Co}{ifs:Ci}{scope:Scope}{pos:Pos}{N:Cn}{fr:Ct}{it:Addr}{fp:CM}{tn:Nat->Heap->Prop}{J:It}
  {E:B_}{RR:Value->Addr->Result->Shared->Prop}
  (hc:X.calm=true) (hok:bJ X scope N fr=true) (I2:Inv X pins σ H2 s2) (T:Turn X.prog X.w X.K tg J fp it tn) (st:tn 0 s2.heap) (f2:∀b∈fp,fR X pins H2 b)
  (k:∀(s3:Ce)(h1:Heap),Inv X pins σ (upd H2 s2.heap.objs.size (.lst [])) s3->Inv (yL X scope N fp (X.pn++pins) s3 (upd H2 s2.heap.objs.size (.lst [])) s3.heap.objs.size) [] (fV σ fr) (upd H2 s2.heap.objs.size (.lst [])) { s3 with heap:=h1,toks:=s3.toks+0 }->(∀b o,s2.heap.get? b=some o->h1.get? b=some o)->(∀b∈fp,(upd H2 s2.heap.objs.size (.lst [])) b=none)->(∀H':Hp,(∀b∈fp,H' b=none)->∀b∈fp,fR (yL X scope N fp (X.pn++pins) s3 (upd H2 s2.heap.objs.size (.lst [])) s3.heap.objs.size) [] H' b)->
   codeAny (Du X) X.A (.compLoop (.ListComp elt [⟨tg,yM,ifs,0⟩] scope pos) 0 (.ref it) (.ref s2.heap.objs.size) (UE scope (Xz X.env.cells scope.names []) s3.heap.objs.size X.env)) (RR (.ref s2.heap.objs.size) s3.heap.objs.size) { s3 with heap:=h1,toks:=s3.toks+0 }):
  wpAny (Du X) X.A (newList []) (λacc s3=>wpAny (Du X) X.A (newFunctionEnv scope X.env.globals (Xz X.env.cells scope.names []) [] X.env.qual none .none (some X.env)) (λcenv s4=>
   codeAny (Du X) X.A (.compStart (.ListComp elt [⟨tg,yM,ifs,0⟩] scope pos) 0 (.ref it) acc { cenv with scope:=relabel scope X.env }) (RR acc cenv.locals) s4) E s3) E s2:=by
 unfold bJ at hok;simp only[Bool.and_eq_true,beq_iff_eq,List.all_eq_true]at hok;obtain⟨⟨⟨⟨⟨k1,k2⟩,k3⟩,k4⟩,k5⟩,k6⟩:=hok;have hcf:∀x,(x,NameKind.free)∈scope.names->(x,NameKind.cell)∉scope.names:=λx hf hc'=>by have:=k2 _ hc';simp only[bne_self_eq_false,Bool.false_or,Bool.not_eq_true',List.contains_eq_mem,decide_eq_false_iff_not]at this;exact this hf
 refine S5 ?_;have I3:Inv X pins σ (upd H2 s2.heap.objs.size (.lst [])) { s2 with heap:=s2.heap.push { cls:=.type "list",data:=.seq ([]:List Value).toArray } }:=I2.xU (ys:=[]) (its:=[]) (t':=s2.toks) .nil (F7 _);refine aY ?_;generalize hs3:({ s2 with heap:=s2.heap.push { cls:=.type "list",data:=.seq ([]:List Value).toArray } }:Shared)=s3 at I3 ⊢;have hns1:=(Heap.Ns.new s3.heap (.type "dict")).keeps (a1C scope.names _);have kp1:∀b o,s3.heap.get? b=some o->(pushCells (s3.heap.push { cls:=.type "dict",data:=.dict #[] }) scope.names).get? b=some o:=λb o e=>a1C _ _ b o (B6 _ e);have cor:∀x c,(cellsFrom (s3.heap.objs.size+1) scope.names (Xz X.env.cells scope.names [])).lookup x=some c->X.env.cells.lookup x=some c\/(s3.heap.objs.size+1<=c/\∃v,(pushCells (s3.heap.push { cls:=.type "dict",data:=.dict #[] }) scope.names).IsCell c v):=λx c e=>by have:=nB (x:=x) (c:=c) scope.names (s3.heap.push { cls:=.type "dict",data:=.dict #[] }) (Xz X.env.cells scope.names []) (by rw[a0s];exact e);rw[a0s]at this;exact this.imp (wL _ [] λ_ z=>by simp at z) id
 generalize hh1:pushCells (s3.heap.push { cls:=.type "dict",data:=.dict #[] }) scope.names=h1 at hns1 kp1 cor ⊢;have kp0:∀b o,s2.heap.get? b=some o->s3.heap.get? b=some o:=λb o e=>by rw[<- hs3];exact B6 _ e
 have fp3:∀b∈fp,b<s3.heap.objs.size/\(upd H2 s2.heap.objs.size (.lst [])) b=none:=λb hb=>by obtain⟨o,ho,_⟩:=T.obj _ _ st b hb;refine⟨C0 (kp0 _ _ ho),?_⟩;rw[zc (D2 (C0 ho))];exact(f2 b hb).1
 have okc:(yL X scope N fp (X.pn++pins) s3 (upd H2 s2.heap.objs.size (.lst [])) s3.heap.objs.size).Ok:=by
  refine⟨I3.ok.mod,k1,I3.ok.glob,I3.ok.blt,B7 _,cA _ _ _ (λx y c e1 e2=>I3.ok.inj x y c (wL _ [] (λ_ z=>by simp at z) e1) (wL _ [] (λ_ z=>by simp at z) e2)) (λx c e=>?_),λx hx=>?_,λx c z e=>?_,λ_=>I3.ok.hd hc,I3.ok.frames,.inl rfl,
   λb hb=>⟨D2 (fp3 b hb).1,λx c e=>?_⟩,I3.bs,E3 I3.ok.bsz I3.sz,λb o e hb=>?_,λb hb z=>?_,I3.stack,I3.K5⟩
  .obtain⟨v,hv⟩:=I3.cell x c (wL _ [] (λ_ z=>by simp at z) e);exact a1c hv.lt
  .refine L8.mp (cB _ _ _ ?_);rcases Wn hx with hf|hf
   .have hk:=k4 _ hf;simp only[bne_self_eq_false,Bool.false_or,Bool.or_eq_true,beq_iff_eq]at hk;obtain⟨c,hcx⟩:=I3.ok.has x hk;exact .inl (Va _ [] (.inr ⟨hf,by rw[hcx];rfl⟩))
   .exact .inr hf
  .exact cD scope.names (s3.heap.objs.size+1) s3.heap.objs.size _ (a0i _) (.inl (List.contains_iff_mem.mp z)) e
  .rcases cor x c e with z|⟨z,_⟩
   .exact(f2 b hb).2.2.2.2.1 x c z
   .exact λq=>absurd (F1 (a1b z) (show c<s3.heap.objs.size by rw[q];exact(fp3 b hb).1)) (M8 _)
  .rcases(f2 b hb).2.2.2.1 with z|z
   .exact I2.ok.xg b o e z
   .have:=C0 e;exact absurd (D0 this I2.ok.bsz) (Nat.not_lt.mpr z)
  .rcases C5.mp (I3.Ky b z)with z|z
   .exact(f2 b hb).2.1 z
   .exact(f2 b hb).2.2.1 z
 have lenN:(fV σ fr).length=N.length:=by unfold fV;rw[u8];exact k5.symm
 have J0:Inv (yL X scope N fp (X.pn++pins) s3 (upd H2 s2.heap.objs.size (.lst [])) s3.heap.objs.size) [] (fV σ fr) (upd H2 s2.heap.objs.size (.lst [])) { s3 with heap:=h1,toks:=s3.toks+0 }:=by
  have I4:=I3.kept (h':=h1) (t':=s3.toks+0) kp1;refine⟨okc,rfl,I3.bare,Un.kept kp1,⟨_,hns1,λi x v e1 e2 _=>?_⟩,λx c e=>(cor x c e).elim (I4.cell x c) λz=>z.2,I3.hok.fresh (B7 _),λx c e=>(cor x c e).elim (I4.Qq x c) λz=>I3.hok.fresh (a1b z.1),λp hp=>?_,I4.hok,lenN⟩
  .unfold fV at e2;rw[D5]at e2;cases hfi:fr[i]? with
   |none=>rw[hfi]at e2;cases e2
   |some o=>
    rw[hfi]at e2;cases o with
    |none=>cases e2
    |some j=>
     have e3:(σ[j]?).join=some v:=G9 e2;have hm:(x,some j)∈N.zip fr:=by refine O8 (i:=i) ?_;rw[List.getElem?_zip_eq_some];exact⟨e1,hfi⟩
     have hk:=k6 _ hm;simp only[Bool.and_eq_true,Bool.or_eq_true,beq_iff_eq,List.contains_iff_mem]at hk;obtain⟨⟨g1,g2⟩,g3⟩:=hk;have hσ:σ[j]?=some (some v):=by
      cases q:σ[j]? with
      |none=>rw[q]at e3;cases e3
      |some w=>rw[q]at e3;cases w with
       |none=>cases e3
       |some w=>cases e3;rfl
     have hkx:=k4 _ g2;simp only[bne_self_eq_false,Bool.false_or,Bool.or_eq_true,beq_iff_eq]at hkx;obtain⟨m,_,hl⟩:=I4.loc;obtain⟨u,ru,lk⟩:=hl j x v g1 hσ (by rcases hkx with z|z;exact .inr (.inl z);exact .inr (.inr z));refine⟨u,ru,.inr ⟨g3,?_⟩⟩;rcases lk with⟨z,_⟩|⟨_,c,ec,z⟩
     .rcases hkx with q|q<;>(rw[z]at q;cases q)
     .obtain⟨c',hc'⟩:=L8.mp (Va (cells:=X.env.cells) (x:=x) scope.names [] (.inr ⟨g2,by rw[ec];rfl⟩));have:=wL _ [] (λ_ z=>by simp at z) hc';rw[ec]at this;cases this;exact⟨c,(cC _ _ _ (hcf x g2)).trans hc',z⟩
  .have hp':p∈X.pn++pins:=by rw[F0]at hp;exact hp
   obtain⟨q1,q2,q3,q4,q5⟩:=I4.pin p hp';refine⟨q1,q2,D2 (C0 (I3.pin p hp').1),λz=>?_,q5⟩;rcases C5.mp (I3.Ky _ z)with z|z
   .exact q3 z
   .exact q4 z
 have stat:∀{H':Hp},(∀b∈fp,H' b=none)->∀b∈fp,fR (yL X scope N fp (X.pn++pins) s3 (upd H2 s2.heap.objs.size (.lst [])) s3.heap.objs.size) [] H' b:=λhn b hb=>
  ⟨hn b hb,(okc.exf b hb).1,λz=>okc.xh b hb z,.inl hb,(okc.exf b hb).2,λp hp=>by rw[F0]at hp;exact(f2 b hb).2.2.2.2.2 p hp⟩
 have loop:=k s3 h1 I3 J0 (λb o e=>kp1 b o (kp0 b o e)) (λb hb=>(fp3 b hb).2) (λ_ hn=>stat hn);exact codeAny_compStart_list loop (T.self _ 0 _ _ _ (T.keep _ _ _ st λb _ o e=>kp1 b o (kp0 b o e)) loop)
def UG{X:Cx}{pins:Ca}{σ:St}{H2:Hp}{s2:Ce}{elt yM tg:Co}{ifs:Ci}{scope:Scope}{pos:Pos}{N:Cn}{fr:Ct}{g:TG}{tc:TT}{te:TE}{it:Addr}{fp:CM}{tn:Nat->Heap->Prop}{J:It}
  {E:B_}{RR:Value->Addr->Result->Shared->Prop}{Q:VK}
  (hc:X.calm=true) (hok:bJ X scope N fr=true) (I2:Inv X pins σ H2 s2) (T:Turn X.prog X.w X.K tg J fp it tn) (st:tn 0 s2.heap) (f2:∀b∈fp,fR X pins H2 b)
  (hg:∀fp pn s H L,PG (yL X scope N fp pn s H L) tg g) (hi:∀fp pn s H L,PTs (yL X scope N fp pn s H L) ifs tc) (he:∀fp pn s H L,PE (yL X scope N fp pn s H L) elt te)
  (h:∀acc,H2 acc=none->∃W:Nat->Nat->St->Hp->Prop,(∃m,W 0 m (fV σ fr) (upd H2 acc (.lst [])))/\∀i m σ' H',W i m σ' H'->
   (J.stop i H'/\Q (.ref acc) H')\/(J.go i H'/\∃N:St->Hp->Prop,(∀σ' H',N σ' H'->∃m',m'<m/\W (i+1) m' σ' H')/\∀x H3,J.yld i H' x H3->g x σ' H3 λσ4 H4=>tc σ4 H4 λb H5=>
    if b=true then te σ4 H5 λv H6=>∃ys,H6 acc=some (.lst ys)/\ys.length<sizeLine/\N σ4 (upd H6 acc (.lst (ys++[v])))else N σ4 H5))
  (hRR:∀acc C m s' H',Inv X pins σ H' s'->s'.heap.Ns C m->X.s₀.heap.objs.size<=C->H' C=none->C≠X.env.locals->(∀x c,X.env.cells.lookup x=some c->c≠C)->(∀p∈X.pn++pins,p.1≠C)->Q (.ref acc) H'->RR (.ref acc) C (.ok .next) s'):
  wpAny (Du X) X.A (newList []) (λacc s3=>wpAny (Du X) X.A (newFunctionEnv scope X.env.globals (Xz X.env.cells scope.names []) [] X.env.qual none .none (some X.env)) (λcenv s4=>
   codeAny (Du X) X.A (.compStart (.ListComp elt [⟨tg,yM,ifs,0⟩] scope pos) 0 (.ref it) acc { cenv with scope:=relabel scope X.env }) (RR acc cenv.locals) s4) E s3) E s2:=by
 have hDf:H2 s2.heap.objs.size=none:=I2.hok.fresh (B7 _);obtain⟨W,⟨m0,w0⟩,turn⟩:=h _ hDf;refine aZ hc hok I2 T st f2 λs3 h1 I3 J0 kp fpn stat=>?_;have hcc:(yL X scope N fp (X.pn++pins) s3 (upd H2 s2.heap.objs.size (.lst [])) s3.heap.objs.size).calm=true:=hc;refine XA (λn s'=>∃i σ' H',Inv (yL X scope N fp (X.pn++pins) s3 (upd H2 s2.heap.objs.size (.lst [])) s3.heap.objs.size) [] σ' H' s'/\tn i s'.heap/\(∀b∈fp,H' b=none)/\W i n σ' H') ?_ m0
  ⟨0,_,_,J0,T.keep _ _ _ st λb _ o e=>kp b o e,fpn,w0⟩
 rintro n s5 ⟨i,σ5,H5,I5,st5,fr5,w5⟩
 rcases turn i n σ5 H5 w5 with⟨stop,qn⟩|⟨go,NN,hNN,step⟩
 .refine thn (T.done (yL X scope N fp (X.pn++pins) s3 (upd H2 s2.heap.objs.size (.lst [])) s3.heap.objs.size) rfl rfl rfl hcc i [] s5 σ5 H5 _ I5 (stat _ fr5) st5 stop) λr s6 ⟨hr,I6⟩=>?_;subst hr;have I7:Inv X pins σ H5 s6:=I3.rA (ch:=fp) I6.os I6.base I6.hok I6.bare λb hb=>⟨(f2 b hb).2.2.2.1,(f2 b hb).2.1,(f2 b hb).2.2.2.2.1,(f2 b hb).2.2.2.2.2⟩;obtain⟨mm,hmm,_⟩:=I6.loc;refine hRR _ _ mm s6 H5 I7 hmm I3.sz I6.free (M9 I3.lt) (λx c e z=>?_) (λp hp z=>?_) qn
  .obtain⟨v,hv⟩:=I3.cell x c e;exact absurd hv.lt (by rw[z];exact M8 _)
  .exact absurd (C0 (I3.pin p hp).1) (by rw[z];exact M8 _)
 .refine thn (T.item (yL X scope N fp (X.pn++pins) s3 (upd H2 s2.heap.objs.size (.lst [])) s3.heap.objs.size) rfl rfl rfl hcc i [] s5 σ5 H5 _ I5 (stat _ fr5) st5 go) λr s6 ⟨u,hr,h6⟩=>?_;subst hr;refine thn h6 λ_ s7 ⟨x,H7,I7,r7,y7,st7,fr7⟩=>?_;have I7':=I7.pinned (stat _ fr7) (T.obj _ _ st7);have again:∀{σ9:St}{H9:Hp}{s9:Ce},Inv (yL X scope N fp (X.pn++pins) s3 (upd H2 s2.heap.objs.size (.lst [])) s3.heap.objs.size) ([]++V8 fp s7.heap) σ9 H9 s9->NN σ9 H9->
    ∃m,m<n/\∃i σ' H',Inv (yL X scope N fp (X.pn++pins) s3 (upd H2 s2.heap.objs.size (.lst [])) s3.heap.objs.size) [] σ' H' s9/\tn i s9.heap/\(∀b∈fp,H' b=none)/\W i m σ' H':=λ{σ9 H9 s9} I9 n9=>by
   obtain⟨m',hm,w9⟩:=hNN σ9 H9 n9;refine⟨m',hm,i+1,σ9,H9,I9.qT,T.keep _ _ _ st7 λb hb o e=>(I9.pin (b,o) (C6 _ (C6 _ (wK hb e)))).1,λb hb=>?_,w9⟩;obtain⟨o,e,d⟩:=T.obj _ _ st7 b hb;exact(I9.pin (b,o) (C6 _ (C6 _ (wK hb e)))).2.1
  refine thn (hg _ _ _ _ _ _ s7 σ5 H7 x u _ I7' r7 (step x H7 y7)) λ_ s8 ⟨σ8,H8,I8,q8⟩=>?_;refine thn (hi _ _ _ _ _ _ s8 σ8 H8 _ I8 q8) λok s9 ⟨H9,I9,q9⟩=>?_;cases ok with
  |false=>rw[if_neg (by decide)]at q9 ⊢;exact again I9 q9
  |true=>rw[if_pos rfl]at q9 ⊢;refine thn (he _ _ _ _ _ _ s9 σ8 H9 _ I9 q9) λy s10 ⟨v,H10,I10,r10,ys,h10,l10,q10⟩=>?_;refine thn (Jm (X:=yL X scope N fp (X.pn++pins) s3 (upd H2 s2.heap.objs.size (.lst [])) s3.heap.objs.size) _ s10 σ8 H10 (.ref s2.heap.objs.size) [v] (.ref s2.heap.objs.size) [y] (λ_ H11=>NN σ8 H11) I10 rfl (.cons r10 .nil) ⟨_,ys,v,rfl,rfl,h10,l10,q10⟩) λ_ s11 ⟨_,H11,I11,_,q11⟩=>?_;exact again I11 q11
def tLC(wi:TI)(g:TG)(tc:TT)(te:TE)(fr:Ct):TE:=λσ H Q=>wi σ H λJ H1=>∀acc,H1 acc=none->∃W:Nat->Nat->St->Hp->Prop,(∃m,W 0 m (fV σ fr) (upd H1 acc (.lst [])))/\∀i m σ' H',W i m σ' H'->
 (J.stop i H'/\Q (.ref acc) H')\/(J.go i H'/\∃N:St->Hp->Prop,(∀σ' H',N σ' H'->∃m',m'<m/\W (i+1) m' σ' H')/\∀x H3,J.yld i H' x H3->g x σ' H3 λσ4 H4=>tc σ4 H4 λb H5=>
  if b=true then te σ4 H5 λv H6=>∃ys,H6 acc=some (.lst ys)/\ys.length<sizeLine/\N σ4 (upd H6 acc (.lst (ys++[v])))else N σ4 H5)
def UH{X:Cx}{pins:Ca}{σ:St}{H:Hp}{s:Ce}{scope:Scope}{N:Cn}{fr:Ct}(hok:bJ X scope N fr=true)(I:Inv X pins σ H s):
  scope.kind=.function/\(∀y∈scope.names,y.2=.local->scope.names.lookup y.1=some .local)/\closureFor scope X.env=pure (Xz X.env.cells scope.names []):=by
 unfold bJ at hok;simp only[Bool.and_eq_true,beq_iff_eq,List.all_eq_true]at hok;obtain⟨⟨⟨⟨⟨k1,k2⟩,k3⟩,k4⟩,k5⟩,k6⟩:=hok;refine⟨k1,λy hy z=>?_,aX λy hy z=>?_⟩
 .have:=k3 y hy;rw[z]at this;simpa using this
 .have hk:=k4 y hy;rw[z]at hk;simp only[bne_self_eq_false,Bool.false_or,Bool.or_eq_true,beq_iff_eq]at hk;obtain⟨c,hcx⟩:=I.ok.has y.1 hk;rw[hcx];rfl
def nE(N:Cn)(fr:Ct)(hc:X.calm=true)(hok:bJ X scope N fr=true)(hi:PI X tg yM wi)(hg:∀fp pn s H L,PG (yL X scope N fp pn s H L) tg g)(ht:∀fp pn s H L,PTs (yL X scope N fp pn s H L) ifs tc)(he:∀fp pn s H L,PE (yL X scope N fp pn s H L) elt te)
  (hs:∀x,foldedSetIterable yM X.env x=pure x:=by intro _;rfl):PE X (.ListComp elt [⟨tg,yM,ifs,0⟩] scope pos) (tLC wi g tc te fr):=by
 intro pins s σ H Q I h;obtain⟨k1,k3,hcl⟩:=UH hok I;rw[eval_ListComp];refine a1l (use:=none) rfl hs hcl k1 k3 (thn (hi pins s σ H _ I h) λv s1 h1=>thn h1 λitv s2 h2=>?_);obtain⟨it,fp,tn,J,H2,e,I2,T,st2,f2,hr⟩:=h2;subst e;refine UG (Q:=Q) (RR:=λacc C=>compPost (Du X) X.A X.xe none (EP X pins σ Q) acc C) hc hok I2 T st2 f2 hg ht he hr λacc C m s' H' I' hn h1 h2 h3 h4 h5 q=>?_;exact⟨m,hn,λh' sb=>⟨.ref acc,H',I'.turned (t':=s'.toks) (λb o hb e=>(sb.2 b hb).trans e) h2 h3 (.inr h1) h4 h5,rfl,q⟩⟩
def sG(N:Cn)(fr:Ct)(hN:X.N.Nodup)(hy:X.N[i]?=some y)(hl:X.env.scope.names.lookup y=some .local)(hc:X.calm=true)(hok:bJ X scope N fr=true)(hi:PI X tg yM wi)(hg:∀fp pn s H L,PG (yL X scope N fp pn s H L) tg g)
  (ht:∀fp pn s H L,PTs (yL X scope N fp pn s H L) ifs tc) (he:∀fp pn s H L,PE (yL X scope N fp pn s H L) elt te) (hsw:swapsWith (.ListComp elt [⟨tg,yM,ifs,0⟩] scope pos) (some (.Name y py)) bL.line X.env=pure true:=by rfl)
  (hs:∀x,foldedSetIterable yM X.env x=pure x:=by intro _;rfl):PS X (.Assign [.Name y py] (.ListComp elt [⟨tg,yM,ifs,0⟩] scope pos) bL) (pW (tLC wi g tc te fr) (Xp i)):=by
 intro pins s σ H D I h;obtain⟨k1,k3,hcl⟩:=UH hok I;rw[exec_Assign_Name_used _ _ _ _ hsw];refine f8 (T8 (f8 ?_));show wpAny _ X.A (do let _<-comprehension (.ListComp elt [⟨tg,yM,ifs,0⟩] scope pos) scope X.env _ (newList []) false (eval yM X.env) (some (assign (.Name y py) X.env))) _ _ s;refine f8 (L4 (a1l (use:=some (assign (.Name y py) X.env)) (Q:=λ_ s'=>SP X pins D .next s') rfl hs hcl k1 k3
  (thn (hi pins s σ H _ I h) λv s1 h1=>thn h1 λitv s2 h2=>?_)) (λ_ s' hq=>B8 (B8 hq)) λ_ _ z=>z)
 obtain⟨it,fp,tn,J,H2,e,I2,T,st2,f2,hr⟩:=h2;subst e;refine UG (Q:=λv H1=>Xp i v σ H1 D.nx) (RR:=λacc C=>compPost (Du X) X.A X.xe (some (assign (.Name y py) X.env)) (λ_ s'=>SP X pins D .next s') acc C) hc hok I2 T st2 f2 hg ht he hr λacc C m s' H' I' hn h1 h2 h3 h4 h5 q=>?_;show wpAny _ X.A (assign (.Name y py) X.env (.ref acc)) _ _ _;refine wpAny_assign_Name (V5 (v:=.ref acc) I' hN hy (.inl hl) rfl (λs'' I'' ⟨a,sb,ha⟩=>?_) (.inr hl));have nea:C≠a:=λz=>by
  rcases ha with e|e
  .exact h3 (z.trans e)
  .exact h4 y a e z.symm
 obtain⟨o,es,ep,ho,rr⟩:=id hn;refine⟨m,⟨o,es,ep,(sb.2 C nea).trans ho,rr⟩,λh' sb'=>⟨_,H',I''.turned (t':=s''.toks) (λb o hb e=>(sb'.2 b hb).trans e) h2 h3 (.inr h1) h4 h5,q⟩⟩
section
variable {X:Cx}
def BM:V->Option Int->Option Int->Hp->VK->Prop:=λx lo hi H Q=>∃z,x=.str z/\z.length<=sizeLine/\Q (.str (Txt.slice z lo hi)) H
def sH:SlR X BM:=by
 intro pins s σ H x v vl vu lo hi sl Q I rx hs pl pu h;obtain⟨z,rfl,hz,q⟩:=h;obtain⟨t,rfl⟩:=rx;have part:∀{a:Value}{o:CU},IsPart a o->∃p:Option (Int×Tok),a=partValue p/\p.map (·.1)=o:=by
  intro a o h;cases h
  .exact⟨none,rfl,rfl⟩
  .exact⟨some (_,_),rfl,rfl⟩
 obtain⟨p1,rfl,rfl⟩:=part pl;obtain⟨p2,rfl,rfl⟩:=part pu;refine⟨"str",_,F.slot_str_getitem.lookup,typeIs_str _ _ _,wpAny_getItem_str_slice (l:=p1) (u:=p2) (st:=none) ?_ rfl ?_⟩
 .exact hs
 .exact post_val_or_str ⟨E3 (Txt.slice_le z _ _) hz,λt' k=>⟨.str _,H,I.tok _,⟨t',rfl⟩,q⟩⟩
end
section
variable {X:Cx}
end
section
variable {X:Cx}
end
section
variable {C:Addr}{f g:Str}{E':XK}{σ:St}{H:Hp}{v u:V}{te tu:TE}{Q:VK}
end
section
variable {K:CO}{C e:Addr}{f:Str}{σ:St}{H:Hp}{v:V}{te:TE}{Q:VK}{fs:CP}
end
section
variable {te:TE}{fr:Ct}{σ:St}{H:Hp}{Q:VK}{r:St}
end
abbrev TJ:=St->Hp->Str->(Str->Hp->Prop)->Prop
section
variable {X:Cx}{e:Co}{es:Ci}{t:TE}{tj:TJ}{pos:Pos}
end
section
variable {X:Cx}
def sI:R2:=λx y H Q=>∃z i,x=.str z/\y=.int i/\z.length<=16/\-2 ^ 63<=i/\i<=1048576/\Q (.str (Txt.mul z i)) H
def a5:OpR X (binaryOp .Mult) sI:=by intro pins s σ H x y v u Q I rx ry h;obtain⟨z,i,rfl,rfl,hz,h1,h2,q⟩:=h;obtain⟨t,rfl⟩:=rx;obtain⟨t',rfl⟩:=ry;exact PySem.W.KXi.mul rfl hz h1 h2 λt' k _ _=>⟨.str _,H,I.tok _,⟨_,rfl⟩,q⟩
end
section
variable {X:Cx}{e o c:Co}{st:CV}{rest a b:CQ}{t u:TS}{te to:TE}{tc:TT}{pos:Pos}
end
section
variable {X:Cx}
def sJ(i j:Int):Prop:=j≠0/\j.natAbs<2 ^ 8192
def gE:OpR X (binaryOp .FloorDiv) (rI sJ λi j=>.int (i.fdiv j)):=opI λ_ j _ _ _ _ _ hc q=>floordiv_int hc.1 q (.inl (PyProof.noPylong_of_log2 (by
 have h1:j.natAbs≠0:=by have:=hc.1;omega
 have:=(Nat.log2_lt h1).mpr hc.2;omega)))
def cE:∀{ns:CC}{us:Cg},Vals (ns.map V.int) us->∃ts:List (Int×Tok),us=ts.map (λz=>Value.int z.1 z.2)/\ts.map Prod.fst=ns
 |[],_,.nil=>⟨[],rfl,rfl⟩
 |n::ns,_,.cons ⟨t,e⟩ r=>by subst e;obtain⟨ts,rfl,rfl⟩:=cE r;exact⟨(n,t)::ts,rfl,rfl⟩
end
section
variable {P:Cq}{w:Cv}{K:Cr}{mg:Cc}{base:Heap}
end
section
variable {X:Cx}{k:Nat}{f:Addr}{fd:CA}{ps:Cn}{sp:Sp}{x:Str}{p pos:Pos}{e:Co}{es:Ci}{t:TA}
end
section
variable {X:Cx}{tg:Co}
end
section
variable {K:CO}{H:Hp}{Q:VK}
end
section
variable {X:Cx}
end
section
variable {X:Cx}{C:Addr}{x:Str}{p pos:Pos}
end
section
variable {X:Cx}{alts:Addr->Sp->Prop}{E:XK}{o e:Co}{m:Str}{es:Ci}{ky pos:Pos}{ta:TE}{t:TA}
end
def UI{A:Cz}{xs ys:Ck}{us ws:Cg}{e:Dq}(r1:Vals xs us)(r2:Vals ys ws)(he:∀j x y u v,xs[j]?=some x->ys[j]?=some y->RelV x u->RelV y v->SeqAt.EqAt A s u v (e j)):
  ∀j (h1:j<us.toArray.size) (h2:j<ws.toArray.size),SeqAt.EqAt A s us.toArray[j] ws.toArray[j] (e j):=by
 intro j h1 h2;rw[D9]at h1 h2;have l1:j<xs.length:=by rw[r1.length];exact h1
 have l2:j<ys.length:=by rw[r2.length];exact h2
 have e1:xs[j]?=some xs[j]:=B9 l1;have e2:ys[j]?=some ys[j]:=B9 l2;obtain⟨u,hu,ru⟩:=r1.get e1;obtain⟨w,hw,rw'⟩:=r2.get e2;have eu:us.toArray[j]=u:=by have:=B9 h1;rw[hu]at this;simpa using(G9 this).symm
 have ew:ws.toArray[j]=w:=by have:=B9 h2;rw[hw]at this;simpa using(G9 this).symm
 rw[eu,ew];exact he j _ _ _ _ e1 e2 ru rw'
section
variable {X:Cx}
end
section
variable {H:Hp}{Q:VK}{i j:Int}
end
def zl.none(s:zl H H')(h:H' q=Option.none):H q=Option.none:=by
 cases e:H q with
 |none=>rfl
 |some o=>rw[s _ _ e]at h;cases h
inductive PV where
 |i (n:Int)|s (x:Str)|b (c:Bool)|n
 |l (xs:List PV)|t (xs:List PV)|d (kvs:List (Key×PV))|o (c:Nat) (fs:List (Str×PV))|x (c:Nat) (fs:List (Str×PV))|sc (ns:CC)|dt (kvs:List (List Key×Int))
abbrev Cu:=(List (Key×PV))
abbrev Cy:=List PV
abbrev CD:=(List (Str×PV))
abbrev CJ:=Option PV
abbrev Dc:=(PV->PV->Option Bool)
def dtV(kvs:List (List Key×Int)):List (List Key×V):=kvs.map λq=>(q.1,V.int q.2)
inductive Out(α:Type)where
 |ok (a:α)|exc (c:Nat) (fs:CD)|wall
abbrev Cw:=(List PV->Out PV)
abbrev Di:=(PV->PV->Out PV)
def Out.bind{α β:Type}:Out α->(α->Out β)->Out β
 |.ok a,f=>f a
 |.exc c fs,_=>.exc c fs
 |.wall,_=>.wall
structure RC where
 K:Frag
 cls:Nat->Addr
def KL(K:CO)(a:Addr)(xs:Ck):Prop:=∃(o:Obj)(its:CG)(n:Nat),K.lookup a=some o/\o.cls=.type "list"/\o.dict=none/\o.data=.seq its n/\its.size<=sizeLine/\Vals xs its.toList
def XB(K:CO)(N:Cd)(H:Hp)(p:Addr)(vs:Ck):Prop:=(N p/\Rd H p (.lst vs))\/KL K p vs
def XB.sq{K:CO}{N:Cd}{H:Hp}{p:Addr}{vs:Ck}(h:XB K N H p vs):SqL K H p vs:=h.elim (λz=>.inl z.2) .inr
mutual
def Rep(W:RC)(M:Cd)(H:Hp):PV->V->Prop
 |.i n,v=>v=.int n
 |.s x,v=>v=.str x
 |.b c,v=>v=.bl c
 |.n,v=>v=.non
 |.l xs,v=>∃p vs,v=.ref p/\M p/\H p=some (.lst vs)/\zy W M H xs vs
 |.t xs,v=>∃p vs,v=.ref p/\SqT W.K H p vs/\zy W M H xs vs
 |.d kvs,v=>∃p es,v=.ref p/\M p/\Rd H p (.dK es)/\yE W M H kvs es
 |.sc ns,v=>∃p,v=.ref p/\XB W.K M H p (ns.map V.int)
 |.dt kvs,v=>∃p,v=.ref p/\M p/\Rd H p (.dT (dtV kvs))
 |.o c fs,v=>∃p dx es,v=.ref p/\M p/\H p=some (.ins (W.cls c) dx es)/\vo W M H fs es
 |.x c fs,v=>∃p dx es,v=.ref p/\H p=some (XC p (W.cls c) dx)/\H dx=some (XD dx es)/\vo W M H fs es
def zy(W:RC)(M:Cd)(H:Hp):List PV->List V->Prop
 |[],vs=>vs=[]
 |x::xs,vs=>∃v r,vs=v::r/\Rep W M H x v/\zy W M H xs r
def yE(W:RC)(M:Cd)(H:Hp):List (Key×PV)->List (Key×V)->Prop
 |[],es=>es=[]
 |kx::r,es=>∃v q,es=(kx.1,v)::q/\Rep W M H kx.2 v/\yE W M H r q
def vo(W:RC)(M:Cd)(H:Hp):List (Str×PV)->List (Str×V)->Prop
 |[],es=>es=[]
 |kx::r,es=>∃v q,es=(kx.1,v)::q/\Rep W M H kx.2 v/\vo W M H r q
end
def Imm:HO->Prop
 |.lst _=>False | .dK _=>False | .dT _=>False | .set _ _=>False | .ins _ _ _=>False | .tbl _=>False
 |_=>True
def Fr(M:Cd)(H H':Hp):Prop:=∀a o,H a=some o->(M a\/Imm o)->H' a=some o
def Fr.rd(f:Fr M H H')(h:Rd H p u)(m:M p):Rd H' p u:=
 h.elim (λz=>.inl (f _ _ z (.inl m))) λ⟨o,z⟩=>.inr ⟨o,f _ _ z (.inl m)⟩
def Fr.sqT{M:Cd}{K:CO}{H H':Hp}(f:Fr M H H'){p:Addr}{u:Ck}(h:SqT K H p u):SqT K H' p u:=
 h.elim (λh=>.inl (h.elim (λz=>.inl (f _ _ z (.inr trivial))) λ⟨o,z⟩=>.inr ⟨o,f _ _ z (.inr trivial)⟩)) .inr
def XB.frame{K:CO}{N:Cd}{H H':Hp}(f:Fr N H H'){p:Addr}{vs:Ck}(h:XB K N H p vs):XB K N H' p vs:=h.elim (λz=>.inl ⟨z.1,f.rd z.2 z.1⟩) .inr
def y_(h:Rd H p u):H p≠none:=by rcases h with z|⟨_,z⟩<;>rw[z]<;>intro e<;>cases e
section
variable {W:RC}{M M':Cd}{H H':Hp}
mutual
def Rep.gen(f:Fr M H H')(s:∀a,M a->H a≠none->M' a):∀{x:PV}{v:V},Rep W M H x v->Rep W M' H' x v
 |.i n,v,h=>h
 |.s x,v,h=>h
 |.b c,v,h=>h
 |.n,v,h=>h
 |.l xs,v,h=>by unfold Rep at h ⊢;obtain⟨p,vs,e,m,r,q⟩:=h;exact⟨p,vs,e,s p m (by rw[r];intro e;cases e),f _ _ r (.inl m),zy.gen f s q⟩
 |.sc ns,v,h=>by unfold Rep at h ⊢;obtain⟨p,e,r⟩:=h;exact⟨p,e,r.elim (λz=>.inl ⟨s p z.1 (by rcases z.2 with z|⟨_,z⟩<;>rw[z]<;>intro e<;>cases e),f.rd z.2 z.1⟩) .inr⟩
 |.dt kvs,v,h=>by unfold Rep at h ⊢;obtain⟨p,e,m,r⟩:=h;exact⟨p,e,s p m (y_ r),f.rd r m⟩
 |.t xs,v,h=>by unfold Rep at h ⊢;obtain⟨p,vs,e,r,q⟩:=h;exact⟨p,vs,e,f.sqT r,zy.gen f s q⟩
 |.d kvs,v,h=>by unfold Rep at h ⊢;obtain⟨p,vs,e,m,r,q⟩:=h;exact⟨p,vs,e,s p m (y_ r),f.rd r m,yE.gen f s q⟩
 |.o c fs,v,h=>by unfold Rep at h ⊢;obtain⟨p,dx,es,e,m,r,q⟩:=h;exact⟨p,dx,es,e,s p m (by rw[r];intro e;cases e),f _ _ r (.inl m),vo.gen f s q⟩
 |.x c fs,v,h=>by unfold Rep at h ⊢;obtain⟨p,dx,es,e,r,r2,q⟩:=h;exact⟨p,dx,es,e,f _ _ r (.inr trivial),f _ _ r2 (.inr trivial),vo.gen f s q⟩
def zy.gen(f:Fr M H H')(s:∀a,M a->H a≠none->M' a):∀{x:Cy}{v:Ck},zy W M H x v->zy W M' H' x v
 |[],v,h=>h
 |x::xs,vs,h=>by unfold zy at h ⊢;obtain⟨v,r,e,h1,h2⟩:=h;exact⟨v,r,e,Rep.gen f s h1,zy.gen f s h2⟩
def yE.gen(f:Fr M H H')(s:∀a,M a->H a≠none->M' a):∀{x:Cu}{v:Cf},yE W M H x v->yE W M' H' x v
 |[],v,h=>h
 | (k,x)::xs,vs,h=>by unfold yE at h ⊢;obtain⟨v,r,e,h1,h2⟩:=h;exact⟨v,r,e,Rep.gen f s h1,yE.gen f s h2⟩
def vo.gen(f:Fr M H H')(s:∀a,M a->H a≠none->M' a):∀{x:CD}{v:CP},vo W M H x v->vo W M' H' x v
 |[],v,h=>h
 | (k,x)::xs,vs,h=>by unfold vo at h ⊢;obtain⟨v,r,e,h1,h2⟩:=h;exact⟨v,r,e,Rep.gen f s h1,vo.gen f s h2⟩
end
end
def Fr.refl:Fr M H H:=λ_ _ h _=>h
def zl.fr(s:zl H H'):Fr M H H':=λa o h _=>s a o h
def Rep.same(h:Rep W M H x v)(s:zl H H'):Rep W M H' x v:=Rep.gen s.fr (λ_ m _=>m) h
def zy.same(h:zy W M H x v)(s:zl H H'):zy W M H' x v:=zy.gen s.fr (λ_ m _=>m) h
def yE.same(h:yE W M H x v)(s:zl H H'):yE W M H' x v:=yE.gen s.fr (λ_ m _=>m) h
def Rep.sub(h:Rep W M H x v)(s:∀a,M a->H a≠none->M' a):Rep W M' H x v:=Rep.gen Fr.refl s h
def zy.sub(h:zy W M H x v)(s:∀a,M a->H a≠none->M' a):zy W M' H x v:=zy.gen Fr.refl s h
def yE.sub(h:yE W M H x v)(s:∀a,M a->H a≠none->M' a):yE W M' H x v:=yE.gen Fr.refl s h
def vo.sub(h:vo W M H x v)(s:∀a,M a->H a≠none->M' a):vo W M' H x v:=vo.gen Fr.refl s h
def zT(W:RC)(N M:Cd)(H:Hp):PV->V->Prop
 |.l xs,v=>∃p vs,v=.ref p/\N p/\H p=some (.lst vs)/\zy W M H xs vs
 |.d kvs,v=>∃p es,v=.ref p/\N p/\Rd H p (.dK es)/\yE W M H kvs es
 |.sc ns,v=>∃p,v=.ref p/\XB W.K N H p (ns.map V.int)
 |.dt kvs,v=>∃p,v=.ref p/\N p/\Rd H p (.dT (dtV kvs))
 |.o c fs,v=>∃p dx es,v=.ref p/\N p/\H p=some (.ins (W.cls c) dx es)/\vo W M H fs es
 |x,v=>Rep W M H x v
def zT.iff:zT W M M H x v↔Rep W M H x v:=by cases x<;>simp only[zT,Rep]
def zT.gen{W:RC}{N M N' M':Cd}{H H':Hp}{x:PV}{v:V}(fN:Fr N H H')(f:Fr M H H')(sN:∀a,N a->H a≠none->N' a)(s:∀a,M a->H a≠none->M' a)(h:zT W N M H x v):zT W N' M' H' x v:=by
 cases x with
 |l xs=>obtain⟨p,vs,e,m,r,q⟩:=h;exact⟨p,vs,e,sN p m (by rw[r];intro e;cases e),fN _ _ r (.inl m),q.gen f s⟩
 |d kvs=>obtain⟨p,es,e,m,r,q⟩:=h;exact⟨p,es,e,sN p m (y_ r),fN.rd r m,q.gen f s⟩
 |sc ns=>obtain⟨p,e,r⟩:=h;exact⟨p,e,r.elim (λz=>.inl ⟨sN p z.1 (y_ z.2),fN.rd z.2 z.1⟩) .inr⟩
 |dt kvs=>obtain⟨p,e,m,r⟩:=h;exact⟨p,e,sN p m (y_ r),fN.rd r m⟩
 |o c fs=>obtain⟨p,dx,es,e,m,r,q⟩:=h;exact⟨p,dx,es,e,sN p m (by rw[r];intro e;cases e),fN _ _ r (.inl m),q.gen f s⟩
 |i n=>exact Rep.gen f s h
 |s n=>exact Rep.gen f s h
 |b n=>exact Rep.gen f s h
 |n=>exact Rep.gen f s h
 |t n=>exact Rep.gen f s h
 |x c n=>exact Rep.gen f s h
def zT.same(h:zT W N M H x v)(s:zl H H'):zT W N M H' x v:=zT.gen s.fr s.fr (λ_ m _=>m) (λ_ m _=>m) h
def zT.sub(h:zT W N M H x v)(sN:∀a,N a->H a≠none->N' a)(s:∀a,M a->H a≠none->M' a):zT W N' M' H x v:=zT.gen Fr.refl Fr.refl sN s h
def Rep.weak(h:Rep W M H x v):zT W (λ_=>True) M H x v:=zT.sub (zT.iff.mpr h) (λ_ _ _=>trivial) (λ_ m _=>m)
def Kj(W:RC)(M:Cd)(H:Hp)(p:Addr):PV->Prop
 |.l xs=>∃vs,H p=some (.lst vs)/\zy W M H xs vs
 |.d kvs=>∃es,H p=some (.dK es)/\yE W M H kvs es
 |.dt kvs=>H p=some (.dT (dtV kvs))
 |.o c fs=>∃dx es,H p=some (.ins (W.cls c) dx es)/\vo W M H fs es
 |_=>False
def Kj.xm(h:Kj W M H p x)(n:N p):zT W N M H x (.ref p):=by
 cases x with
 |l xs=>obtain⟨vs,e,q⟩:=h;exact⟨p,vs,rfl,n,e,q⟩
 |d kvs=>obtain⟨es,e,q⟩:=h;exact⟨p,es,rfl,n,.inl e,q⟩
 |dt kvs=>exact⟨p,rfl,n,.inl h⟩
 |o c fs=>obtain⟨dx,es,e,q⟩:=h;exact⟨p,dx,es,rfl,n,e,q⟩
 |i n=>exact h.elim
 |s n=>exact h.elim
 |b n=>exact h.elim
 |n=>exact h.elim
 |t n=>exact h.elim
 |x c n=>exact h.elim
 |sc n=>exact h.elim
def Kj.gen(h:Kj W M H p x)(hp:H' p=H p)(f:Fr M H H')(s:∀a,M a->H a≠none->M' a):Kj W M' H' p x:=by
 cases x with
 |l xs=>obtain⟨vs,e,q⟩:=h;exact⟨vs,hp.trans e,q.gen f s⟩
 |d kvs=>obtain⟨es,e,q⟩:=h;exact⟨es,hp.trans e,q.gen f s⟩
 |dt kvs=>exact hp.trans h
 |o c fs=>obtain⟨dx,es,e,q⟩:=h;exact⟨dx,es,hp.trans e,q.gen f s⟩
 |i n=>exact h.elim
 |s n=>exact h.elim
 |b n=>exact h.elim
 |n=>exact h.elim
 |t n=>exact h.elim
 |x c n=>exact h.elim
 |sc n=>exact h.elim
def Kj.some{W:RC}{M:Cd}{H:Hp}{p:Addr}{x:PV}(h:Kj W M H p x):∃o,H p=some o/\¬Imm o:=by
 cases x with
 |l xs=>obtain⟨vs,e,q⟩:=h;exact⟨_,e,id⟩
 |d kvs=>obtain⟨es,e,q⟩:=h;exact⟨_,e,id⟩
 |dt kvs=>exact⟨_,h,id⟩
 |o c fs=>obtain⟨dx,es,e,q⟩:=h;exact⟨_,e,id⟩
 |i n=>exact h.elim
 |s n=>exact h.elim
 |b n=>exact h.elim
 |n=>exact h.elim
 |t n=>exact h.elim
 |x c n=>exact h.elim
 |sc n=>exact h.elim
def Kj.same(h:Kj W M H p x)(s:zl H H'):Kj W M H' p x:=by obtain⟨o,e,_⟩:=h.some;exact h.gen ((s _ _ e).trans e.symm) s.fr λ_ m _=>m
structure Bs where
 H0:Hp
 M0:Addr->Prop
 N0:Addr->Prop
 nz:∀a,N0 a->H0 a≠none
 pin:Option Addr
 xc:Addr->Prop
structure LC where
 W:RC
 E:XK
 fr:Bool
abbrev Sto:=List (Option PV)
def Bs.Mt(B:Bs):Addr->Prop:=λa=>B.M0 a\/B.H0 a=none
def Mof(B:Bs)(S:Cb)(P:Cm):Addr->Prop:=λa=>(B.Mt a/\¬B.xc a)/\∀i,S[i]?=some 2->P i≠a
structure Rel(W:RC)(B:Bs)(S:Cb)(P:Cm)(H:Hp)(σ:St)(ρ:Sto):Prop where
 same:zl B.H0 H
 len:σ.length=ρ.length
 var:∀(i:Nat) x,ρ[i]?=some (some x)->∃v,σ[i]?=some (some v)/\(S[i]?=some 2->v=.ref (P i)/\Kj W (Mof B S P) H (P i) x)/\(S[i]?=some 1->zT W B.N0 (Mof B S P) H x v)/\(S[i]?≠some 2->S[i]?≠some 1->Rep W (Mof B S P) H x v)
 act:∀i,S[i]?=some 2->B.H0 (P i)=none/\∃o,H (P i)=some o/\¬Imm o
 inj:∀i j,S[i]?=some 2->S[j]?=some 2->P i=P j->i=j
 pin:S[0]?=some 2->∀p,B.pin=some p->P 0=p
 exc:∀a,B.xc a->∃o,H a=some o/\¬Imm o/\B.H0 a=none
 axc:∀i,S[i]?=some 2->¬B.xc (P i)
def Rel.keep{W:RC}{B:Bs}{S:Cb}{P:Cm}{H H':Hp}{σ:St}{ρ:Sto}(R:Rel W B S P H σ ρ)(s:zl H H'):Rel W B S P H' σ ρ where
 same:=R.same.trans s
 len:=R.len
 var:=λi x e=>by obtain⟨v,h1,h2,h3,h4⟩:=R.var i x e;exact⟨v,h1,λz=>⟨(h2 z).1,(h2 z).2.same s⟩,λz=>(h3 z).same s,λz z'=>(h4 z z').same s⟩
 act:=λi h=>⟨(R.act i h).1,let⟨o,e,n⟩:=(R.act i h).2;⟨o,s _ _ e,n⟩⟩
 inj:=R.inj
 pin:=R.pin
 exc:=λa h=>let⟨o,e,n⟩:=R.exc a h;⟨o,s _ _ e,n⟩
 axc:=R.axc
def Rel.wr(R:Rel W B S P H σ ρ)(hi:S[i]?=some 2)(hl:i<ρ.length)(hσ:σ[i]?=some (some (.ref (P i))))(hn:¬Imm o)(hx:Kj W (Mof B S P) (upd H (P i) o) (P i) x'):Rel W B S P (upd H (P i) o) σ (ρ.set i (some x')):=by
 obtain⟨h0,o0,e0,n0⟩:=R.act i hi;have fM:Fr (Mof B S P) H (upd H (P i) o):=λa q e m=>by
  have:a≠P i:=λz=>by
   rcases m with m|m
   .exact m.2 i hi z.symm
   .rw[z,e0]at e;cases e;exact n0 m
  rw[zc this];exact e
 have fN:Fr B.N0 H (upd H (P i) o):=λa q e m=>by
  have:a≠P i:=λz=>by
   rcases m with m|m
   .exact B.nz a m (z▸h0)
   .rw[z,e0]at e;cases e;exact n0 m
  rw[zc this];exact e
 refine⟨λa q e=>?_,by rw[F5];exact R.len,λj x e=>?_,λj hj=>?_,R.inj,R.pin,λa h=>?_,R.axc⟩
 .have:a≠P i:=λz=>by rw[z,h0]at e;cases e
  rw[zc this];exact R.same a q e
 .by_cases hij:i=j
  .subst hij;rw[E4 hl]at e;cases e;exact⟨_,hσ,λ_=>⟨rfl,hx⟩,(λz=>by rw[hi]at z;cases z),λz=>absurd hi z⟩
  .rw[E5 hij]at e;obtain⟨v,h1,h2,h3,h4⟩:=R.var j x e;refine⟨v,h1,λz=>⟨(h2 z).1,?_⟩,λz=>zT.gen fN fM (λ_ m _=>m) (λ_ m _=>m) (h3 z),λz z'=>Rep.gen fM (λ_ m _=>m) (h4 z z')⟩;have:P j≠P i:=λq=>hij (R.inj i j hi z q.symm);exact(h2 z).2.gen (zc this) fM λ_ m _=>m
 .by_cases hij:j=i
  .subst hij;exact⟨h0,o,zb,hn⟩
  .obtain⟨g0,o1,e1,n1⟩:=R.act j hj;have:P j≠P i:=λq=>hij (R.inj j i hj hi q);exact⟨g0,o1,by rw[zc this];exact e1,n1⟩
 .obtain⟨o1,e1,n1⟩:=R.exc a h;by_cases e:a=P i
  .subst e;exact⟨o,zb,hn,n1.2⟩
  .exact⟨o1,by rw[zc e];exact e1,n1⟩
def yr{S:Cb}{i j c:Nat}(h:(S.set i 0)[j]?=some 2):S[j]?=some 2/\j≠i:=by
 by_cases e:i=j
 .subst e;rw[List.getElem?_set]at h;rw[if_pos rfl]at h;split at h<;>cases h
 .rw[E5 e]at h;exact⟨h,λz=>e z.symm⟩
def Rel.set(R:Rel W B S P H σ ρ)(hx:Rep W (Mof B S P) H x v):Rel W B (S.set i 0) P H (σ.set i (some v)) (ρ.set i (some x)):=by
 have sM:∀a,Mof B S P a->H a≠none->Mof B (S.set i 0) P a:=λa m _=>⟨m.1,λj hj=>m.2 j (yr (c:=0) hj).1⟩;refine⟨R.same,by rw[F5,F5];exact R.len,λj y e=>?_,λj hj=>R.act j (yr (c:=0) hj).1,λj k hj hk=>R.inj j k (yr (c:=0) hj).1 (yr (c:=0) hk).1,λh0=>R.pin (yr (c:=0) h0).1,R.exc,λj hj=>R.axc j (yr (c:=0) hj).1⟩;by_cases hij:i=j
 .subst hij;have hl:i<ρ.length:=by
   have:=(C4.mp e).1
   rwa [F5]at this
  rw[E4 hl]at e;cases e;refine⟨v,by rw[E4 (by rw[R.len];exact hl)],λz=>absurd rfl (yr (c:=0) z).2,λz=>?_,λ_ _=>hx.sub sM⟩;rw[List.getElem?_set,if_pos rfl]at z;split at z<;>cases z
 .rw[E5 hij]at e;obtain⟨w,h1,h2,h3,h4⟩:=R.var j y e;rw[E5 hij,E5 hij];exact⟨w,h1,λz=>⟨(h2 z).1,(h2 z).2.gen rfl Fr.refl sM⟩,λz=>(h3 z).sub (λ_ m _=>m) sM,λz z'=>(h4 z z').sub sM⟩
def Rel.BO(R:Rel W B S P H σ ρ)(s:zl H H')(hp:H p=none)(hi:i<S.length)(hi0:i≠0)(hx:Kj W (λa=>Mof B S P a/\a≠p) H' p x):Rel W B (S.set i 2) (λj=>if j=i then p else P j) H' (σ.set i (some (.ref p))) (ρ.set i (some x)):=by
 have s0:B.H0 p=none:=zl.none R.same hp;have hS:∀{j},(S.set i 2)[j]?=some 2->j≠i->S[j]?=some 2:=λ{j} h n=>by rwa [E5 (λz=>n z.symm)]at h
 have sM:∀a,Mof B S P a->a≠p->Mof B (S.set i 2) (λj=>if j=i then p else P j) a:=λa m hn=>⟨m.1,λj hj=>by
  by_cases e:j=i
  .simp only[e,if_true];exact λz=>hn z.symm
  .simp only[e,if_false];exact m.2 j (hS hj e)⟩
 have sMH:∀a,Mof B S P a->H a≠none->Mof B (S.set i 2) (λj=>if j=i then p else P j) a:=λa m hn=>sM a m λz=>hn (z▸hp);have pj:∀{j},S[j]?=some 2->P j≠p:=λ{j} hj z=>by obtain⟨_,o,e,_⟩:=R.act j hj;rw[z,hp]at e;cases e
 refine⟨R.same.trans s,by rw[F5,F5];exact R.len,λj y e=>?_,λj hj=>?_,λj k hj hk e=>?_,λh0 q hq=>?_,λa h=>let⟨o,e,n⟩:=R.exc a h;⟨o,s _ _ e,n⟩,λj hj=>?_⟩
 .by_cases hij:i=j
  .subst hij;have hl:i<ρ.length:=by
    have:=(C4.mp e).1
    rwa [F5]at this
   rw[E4 hl]at e;cases e;rw[E4 (by rw[R.len];exact hl),E4 hi];refine⟨.ref p,rfl,λ_=>⟨by simp,?_⟩,(λz=>by cases z),λz=>absurd rfl z⟩;simp only[if_true];exact hx.gen rfl Fr.refl λa m _=>sM a m.1 m.2
  .rw[E5 hij]at e;obtain⟨w,h1,h2,h3,h4⟩:=R.var j y e;rw[E5 hij,E5 hij];have nij:¬j=i:=λz=>hij z.symm;simp only[nij,if_false];exact⟨w,h1,λz=>⟨(h2 z).1,((h2 z).2.gen (H':=H) rfl Fr.refl sMH).same s⟩,λz=>((h3 z).sub (λ_ m _=>m) sMH).same s,λz z'=>((h4 z z').sub sMH).same s⟩
 .by_cases hij:j=i
  .subst hij;simp only[if_true];exact⟨s0,hx.some⟩
  .simp only[hij,if_false];obtain⟨g0,o,e,n⟩:=R.act j (hS hj hij);exact⟨g0,o,s _ _ e,n⟩
 .by_cases h1:j=i
  .by_cases h2:k=i
   .rw[h1,h2]
   .simp only[h1,h2,if_true,if_false]at e;exact absurd e.symm (pj (hS hk h2))
  .by_cases h2:k=i
   .simp only[h1,h2,if_true,if_false]at e;exact absurd e (pj (hS hj h1))
   .simp only[h1,h2,if_false]at e;exact R.inj j k (hS hj h1) (hS hk h2) e
 .rw[E5 hi0]at h0;rw[if_neg (λz=>hi0 z.symm)];exact R.pin h0 q hq
 .by_cases e:j=i
  .rw[if_pos e];exact λz=>by obtain⟨o,q,_⟩:=R.exc p z;rw[hp]at q;cases q
  .rw[if_neg e];exact R.axc j (hS hj e)
def Rel.freeze(R:Rel W B S P H σ ρ)(hi:S[i]?=some 2):Rel W B (S.set i 0) P H σ ρ:=by
 have sM:∀a,Mof B S P a->H a≠none->Mof B (S.set i 0) P a:=λa m _=>⟨m.1,λj hj=>m.2 j (yr (c:=0) hj).1⟩;refine⟨R.same,R.len,λj y e=>?_,λj hj=>R.act j (yr (c:=0) hj).1,λj k hj hk=>R.inj j k (yr (c:=0) hj).1 (yr (c:=0) hk).1,λh0=>R.pin (yr (c:=0) h0).1,R.exc,λj hj=>R.axc j (yr (c:=0) hj).1⟩;obtain⟨w,h1,h2,h3,h4⟩:=R.var j y e;by_cases hij:i=j
 .subst hij;obtain⟨rfl,ha⟩:=h2 hi;have hl:i<S.length:=(C4.mp hi).1;rw[E4 hl];refine⟨_,h1,(λz=>by cases z),(λz=>by cases z),λ_ _=>zT.iff.mp ((ha.gen (H':=H) rfl Fr.refl sM).xm ⟨⟨.inr (R.act i hi).1,λz=>?_⟩,λj hj e=>?_⟩)⟩
  .exact R.axc i hi z
  obtain⟨g1,g2⟩:=yr (c:=0) hj;exact g2 (R.inj j i g1 hi e)
 .rw[E5 hij];exact⟨w,h1,λz=>⟨(h2 z).1,(h2 z).2.gen rfl Fr.refl sM⟩,λz=>(h3 z).sub (λ_ m _=>m) sM,λz z'=>(h4 z z').sub sM⟩
def Rel.wrx(R:Rel W B S P H σ ρ)(ha:B.xc a)(hn:¬Imm o):Rel W B S P (upd H a o) σ ρ:=by
 obtain⟨o0,e0,n0,h0⟩:=R.exc a ha;have fM:Fr (Mof B S P) H (upd H a o):=λc q e m=>by
  have:c≠a:=λz=>by
   rcases m with m|m
   .exact m.1.2 (z▸ha)
   .rw[z,e0]at e;cases e;exact n0 m
  rw[zc this];exact e
 have fN:Fr B.N0 H (upd H a o):=λc q e m=>by
  have:c≠a:=λz=>by
   rcases m with m|m
   .exact B.nz c m (z▸h0)
   .rw[z,e0]at e;cases e;exact n0 m
  rw[zc this];exact e
 have pa:∀{i},S[i]?=some 2->P i≠a:=λ{i} hi z=>R.axc i hi (z▸ha);refine⟨λc q e=>?_,R.len,λj x e=>?_,λj hj=>?_,R.inj,R.pin,λc h=>?_,R.axc⟩
 .have:c≠a:=λz=>by rw[z,h0]at e;cases e
  rw[zc this];exact R.same c q e
 .obtain⟨v,h1,h2,h3,h4⟩:=R.var j x e;exact⟨v,h1,λz=>⟨(h2 z).1,(h2 z).2.gen (zc (pa z)) fM λ_ m _=>m⟩,λz=>zT.gen fN fM (λ_ m _=>m) (λ_ m _=>m) (h3 z),λz z'=>Rep.gen fM (λ_ m _=>m) (h4 z z')⟩
 .obtain⟨g0,o1,e1,n1⟩:=R.act j hj;exact⟨g0,o1,by rw[zc (pa hj)];exact e1,n1⟩
 .by_cases e:c=a
  .subst e;exact⟨o,zb,hn,h0⟩
  .obtain⟨o1,e1,n1⟩:=R.exc c h;exact⟨o1,by rw[zc e];exact e1,n1⟩
abbrev ME:=Sto->Out PV
abbrev MT:=Sto->Out Bool
abbrev MA:=Sto->Out (List PV)
inductive Fw where
 |nx (ρ:Sto)|rt (x:PV)|bk (ρ:Sto)|ct (ρ:Sto)
abbrev MS:=Sto->Out Fw
def XPo(C:LC)(B:Bs)(c:Nat)(fs:CD):Prop:=∀e dx es H2,zl B.H0 H2->H2 e=some (XC e (C.W.cls c) dx)->H2 dx=some (XD dx es)->vo C.W B.Mt H2 fs es->C.E (.ref e) (some dx) H2
def zE(C:LC)(B:Bs)(H:Hp)(R:Hp->PV->V->Prop)(Q:VK):Out PV->Prop
 |.ok r=>∀v H2,zl H H2->R H2 r v->Q v H2
 |.exc c fs=>XPo C B c fs
 |.wall=>False
def Wo(C:LC)(B:Bs)(H:Hp)(Q:Bool->Hp->Prop):Out Bool->Prop
 |.ok r=>∀H2,zl H H2->Q r H2
 |.exc c fs=>XPo C B c fs
 |.wall=>False
def RV(C:LC)(B:Bs)(S:Cb)(P:Cm)(w:Bool)(H:Hp)(x:PV)(v:V):Prop:=zT C.W (if w=true then λ_=>True else Mof B S P) (Mof B S P) H x v
def RV.rep(h:RV C B S P false H x v):Rep C.W (Mof B S P) H x v:=zT.iff.mp h
def RV.of(h:Rep C.W (Mof B S P) H x v):RV C B S P false H x v:=zT.iff.mpr h
def RV.weak(h:RV C B S P w H x v):zT C.W (λ_=>True) (Mof B S P) H x v:=zT.sub h (λ_ _ _=>trivial) λ_ m _=>m
def RV.same(h:RV C B S P w H x v)(s:zl H H'):RV C B S P w H' x v:=zT.same h s
def LE(C:LC)(S:Cb)(w:Bool)(te:TE)(m:ME):Prop:=∀B P H σ ρ,Rel C.W B S P H σ ρ->∀Q,zE C B H (RV C B S P w) Q (m ρ)->te σ H Q
def LT(C:LC)(S:Cb)(tt:TT)(m:MT):Prop:=∀B P H σ ρ,Rel C.W B S P H σ ρ->∀Q,Wo C B H Q (m ρ)->tt σ H Q
def EM(X:Cx)(C:LC)(S:Cb)(w:Bool)(e:Co)(m:ME):Prop:=X.K=C.W.K->∃te,PE X e te/\LE C S w te m
def TM(X:Cx)(C:LC)(S:Cb)(e:Co)(m:MT):Prop:=X.K=C.W.K->∃tt,PT X e tt/\LT C S tt m
def TWM(X:Cx)(C:LC)(S:Cb)(e:Co)(m:MT):Prop:=X.K=C.W.K->∃tt,PW X e tt/\LT C S tt m
def zE.bind(h:zE C B H R Q (o.bind f))(k:∀r,o=.ok r->∀v H2,zl H H2->R0 H2 r v->zE C B H2 R Q (f r)->Q' v H2)(hR:∀H2,zl H H2->∀x v,R H2 x v->R H2 x v):zE C B H R0 Q' o:=by
 cases o with
 |ok r=>exact λv H2 s hr=>k r rfl v H2 s hr (by
   show zE C B H2 R Q (f r);have h:zE C B H R Q (f r):=h;revert h;cases f r with
   |ok x=>exact λh v H3 s3 hx=>h v H3 (s.trans s3) hx
   |exc c fs=>exact id
   |wall=>exact id)
 |exc c fs=>exact h
 |wall=>exact h
def yx(h:zE C B H R Q (o.bind f))(k:∀r v H2,zl H H2->R0 H2 r v->zE C B H2 R Q (f r)->Q' v H2):zE C B H R0 Q' o:=
 zE.bind h (λr _ v H2 s hr hp=>k r v H2 s hr hp) λ_ _ _ _ h=>h
def YZ(h:zE C B H R Q o)(s:zl H H2):zE C B H2 R Q o:=by
 cases o with
 |ok x=>exact λv H3 s3 hx=>h v H3 (s.trans s3) hx
 |exc c fs=>exact h
 |wall=>exact h
def Jq(h:Wo C B H Q o)(s:zl H H2):Wo C B H2 Q o:=by
 cases o with
 |ok x=>exact λH3 s3=>h H3 (s.trans s3)
 |exc c fs=>exact h
 |wall=>exact h
def a6(h:Wo C B H Q (o.bind f))(k:∀r v H2,zl H H2->R0 H2 r v->Wo C B H2 Q (f r)->Q' v H2):zE C B H R0 Q' o:=by
 cases o with
 |ok r=>exact λv H2 s hr=>k r v H2 s hr (Jq (o:=f r) h s)
 |exc c fs=>exact h
 |wall=>exact h
def ZI(h:Wo C B H Q (o.bind f))(k:∀r H2,zl H H2->Wo C B H2 Q (f r)->Q' r H2):Wo C B H Q' o:=by
 cases o with
 |ok r=>exact λH2 s=>k r H2 s (Jq (o:=f r) h s)
 |exc c fs=>exact h
 |wall=>exact h
def zd(i:Nat):ME:=λρ=>match ρ[i]? with|some (some x)=>.ok x|_=>.wall
def mC(x:PV):ME:=λ_=>.ok x
section
variable {X:Cx}{C:LC}{S:Cb}{e a b:Co}{w w1 w2:Bool}{m m1 m2:ME}{t1 t2:MT}
def EM.weak(h:EM X C S w e m):EM X C S true e m:=λhK=>by
 obtain⟨te,h1,h2⟩:=h hK;refine⟨te,h1,λB P H σ ρ R Q q=>h2 B P H σ ρ R Q ?_⟩;revert q;cases m ρ with
 |ok r=>exact λq v H2 s hr=>q v H2 s (by unfold RV;rw[if_pos rfl];exact hr.weak)
 |exc c fs=>exact id
 |wall=>exact id
def lv(R:Rel C.W B S P H σ ρ)(q:zE C B H R' Q (zd i ρ))(k:∀x v,σ[i]?=some (some v)->ρ[i]?=some (some x)->R' H x v):V2 i σ H Q:=by
 unfold zd at q;cases e:ρ[i]? with
 |none=>rw[e]at q;exact q.elim
 |some o=>
  cases o with
  |none=>rw[e]at q;exact q.elim
  |some x=>rw[e]at q;obtain⟨v,hv,_⟩:=R.var i x e;exact⟨v,hv,q v H (zl.refl _) (k x v hv e)⟩
def qE(h:PE X e (V2 i))(hS:S[i]?≠some 2/\S[i]?≠some 1:=by decide):EM X C S false e (zd i):=λ_=>⟨_,h,λB P H σ ρ R Q q=>lv R q λx v hv e=>by
 obtain⟨v',hv',_,_,h4⟩:=R.var i x e;rw[hv]at hv';cases hv';exact RV.of (h4 hS.1 hS.2)⟩
def sL(h:PE X e (V2 i)):EM X C S true e (zd i):=λ_=>⟨_,h,λB P H σ ρ R Q q=>lv R q λx v hv e=>by
 obtain⟨v',hv',h2,h3,h4⟩:=R.var i x e;rw[hv]at hv';cases hv';show zT C.W (if true=true then _ else _) _ _ _ _;rw[if_pos rfl];by_cases c2:S[i]?=some 2
 .obtain⟨rfl,z⟩:=h2 c2;exact z.xm trivial
 .by_cases c1:S[i]?=some 1
  .exact(h3 c1).sub (λ_ _ _=>trivial) λ_ m _=>m
  .exact(h4 c2 c1).weak⟩
def x_(h:PE X e (tC v))(hx:∀M H,Rep C.W M H x v):EM X C S false e (mC x):=λ_=>⟨_,h,λB P H σ ρ R Q q=>q v H (zl.refl _) (RV.of (hx _ _))⟩
def cF(h:PE X e (tC (.int i))):EM X C S false e (mC (.i i)):=x_ h λ_ _=>rfl
def lF(h:PE X e (tC (.str i))):EM X C S false e (mC (.s i)):=x_ h λ_ _=>rfl
def vx(h:PE X e (tC (.bl i))):EM X C S false e (mC (.b i)):=x_ h λ_ _=>rfl
def mOp(p:Di)(m1 m2:ME):ME:=λρ=>(m1 ρ).bind λx=>(m2 ρ).bind λy=>p x y
def mUn(p:PV->Out PV)(m1:ME):ME:=λρ=>(m1 ρ).bind p
def New(M:Cd)(H:Hp):Prop:=∀p,H p=none->M p
def Rel.new(R:Rel W B S P H σ ρ):New (Mof B S P) H:=λp h=>⟨⟨.inr (zl.none R.same h),λz=>by obtain⟨o,q,_⟩:=R.exc p z;rw[h]at q;cases q⟩,λi hi e=>by obtain⟨_,o,q,_⟩:=R.act i hi;rw[e,h]at q;cases q⟩
def RV.eq:RV C B S P false=Rep C.W (Mof B S P):=by
 funext H x v;exact propext zT.iff
def Lf2(W:RC)(r:R2)(p:Di):Prop:=∀(M:Cd)(C:LC)(B:Bs) H x y v u Q,New M H->zT W (λ_=>True) M H x v->zT W (λ_=>True) M H y u->zE C B H (Rep W M) Q (p x y)->r v u H Q
def Lf1(W:RC)(r:V->Hp->VK->Prop)(p:PV->Out PV):Prop:=∀(M:Cd)(C:LC)(B:Bs) H x v Q,New M H->zT W (λ_=>True) M H x v->zE C B H (Rep W M) Q (p x)->r v H Q
def gF(L:Lf2 C.W r p)(h1:LE C S w1 ta m1)(h2:LE C S w2 tb m2):LE C S false (tOp r ta tb) (mOp p m1 m2):=λB P H σ ρ R Q q=>
 h1 B P H σ ρ R _ (yx q λx v H1 s1 r1 q1=>h2 B P H1 σ ρ (R.keep s1) _ (yx q1 λy u H2 s2 r2 q2=>L _ C B H2 x y v u Q ((R.keep s1).keep s2).new (r1.same s2).weak r2.weak (RV.eq▸q2)))
def zJ(o:OpR X (binaryOp op) r)(L:Lf2 C.W r p)(h1:EM X C S w1 a m1)(h2:EM X C S w2 b m2):EM X C S false (.BinOp a op b pos) (mOp p m1 m2):=λhK=>by obtain⟨ta,a1,a2⟩:=h1 hK;obtain⟨tb,b1,b2⟩:=h2 hK;exact⟨_,xK o a1 b1,gF L a2 b2⟩
def sO(o:UnR X (unaryOp op) r)(L:Lf1 C.W r p)(h1:EM X C S w1 a m1):EM X C S false (.UnaryOp op a pos) (mUn p m1):=λhK=>by obtain⟨ta,a1,a2⟩:=h1 hK;exact⟨_,xM o a1,λB P H σ ρ R Q q=>a2 B P H σ ρ R _ (yx q λx v H1 s1 r1 q1=>L _ C B H1 x v Q (R.keep s1).new r1.weak (RV.eq▸q1))⟩
def UJ(o:OpR X (compareOp op) r)(L:Lf2 C.W r p)(h1:EM X C S w1 a m1)(h2:EM X C S w2 b m2)(hm:behindInMarks op b=false):EM X C S false (.Compare a [op] [b] pos) (mOp p m1 m2):=λhK=>by obtain⟨ta,a1,a2⟩:=h1 hK;obtain⟨tb,b1,b2⟩:=h2 hK;exact⟨_,bX o a1 b1 hm,gF L a2 b2⟩
def asB:PV->Out Bool
 |.b c=>.ok c
 |_=>.wall
def yP(m:ME):MT:=λρ=>(m ρ).bind asB
def XE(h:LE C S w te m):LT C S (m4 te) (yP m):=λB P H σ ρ R Q q=>
 h B P H σ ρ R _ (a6 q λx v H1 s1 r1 q1=>by
  cases x with
  |b c=>exact⟨c,(show v=.bl c from r1),q1 H1 (zl.refl _)⟩
  |_=>exact q1.elim)
def Qu(o:OpR X (compareOp op) r)(L:Lf2 C.W r p)(h1:EM X C S w1 a m1)(h2:EM X C S w2 b m2)(hm:behindInMarks op b=false):TM X C S (.Compare a [op] [b] pos) (yP (mOp p m1 m2)):=λhK=>by obtain⟨ta,a1,a2⟩:=h1 hK;obtain⟨tb,b1,b2⟩:=h2 hK;exact⟨_,Xq o a1 b1 hm,XE (gF L a2 b2)⟩
variable {c:Co}{w3:Bool}{m3:ME}
end
def pI(g:Int->Int->PV):PV->PV->Out PV
 |.i a,.i b=>.ok (g a b)
 |_,_=>.wall
def pU(g:Int->PV):PV->Out PV
 |.i a=>.ok (g a)
 |_=>.wall
def xn(hg:∀a b M H,Rep W M H (g a b) (gv a b)):Lf2 W (rI0 gv) (pI g):=λM C B H x y v u Q hM hx hy q=>by
 cases x with
 |i a=>
  cases y with
  |i b=>exact⟨a,b,hx,hy,q _ H (zl.refl _) (hg a b _ _)⟩
  |_=>exact q.elim
 |_=>exact q.elim
def BP(hg:∀a M H,Rep W M H (g a) (gv a)):Lf1 W (rU gv) (pU g):=λM C B H x v Q hM hx q=>by
 cases x with
 |i a=>exact⟨a,hx,q _ H (zl.refl _) (hg a _ _)⟩
 |_=>exact q.elim
abbrev Be:=pI λa b=>.i (a-b)
abbrev pLt:=pI λa b=>.b (decide (a<b))
abbrev pLe:=pI λa b=>.b (decide (a<=b))
abbrev pGt:=pI λa b=>.b (decide (b<a))
abbrev Aa:=pU λa=>.i (-a)
def sP:Lf2 W (rI0 λi j=>.int (i-j)) Be:=xn λ_ _ _ _=>rfl
def lG:Lf1 W (rU λi=>.int (-i)) Aa:=BP λ_ _ _=>rfl
section
variable {W:RC}{M:Cd}{H:Hp}
def zy.nil:zy W M H [] []:=rfl
def zy.cons(h:Rep W M H x v)(t:zy W M H xs vs):zy W M H (x::xs) (v::vs):=⟨v,vs,rfl,h,t⟩
def zy.len:∀{xs:Cy}{vs:Ck},zy W M H xs vs->vs.length=xs.length
 |[],_,h=>by cases(show _=_ from h);rfl
 |x::xs,_,h=>by obtain⟨v,r,rfl,_,h2⟩:=h;rw[B0,B0,zy.len h2]
def zy.get:∀{xs:Cy}{vs:Ck}{i:Nat}{x:PV},zy W M H xs vs->xs[i]?=some x->∃v,vs[i]?=some v/\Rep W M H x v
 |[],_,_,_,_,e=>by simp at e
 |x::xs,_,0,y,h,e=>by obtain⟨v,r,rfl,h1,h2⟩:=h;simp at e;subst e;exact⟨v,rfl,h1⟩
 |x::xs,_,i+1,y,h,e=>by obtain⟨v,r,rfl,h1,h2⟩:=h;simp only[List.getElem?_cons_succ]at e ⊢;exact zy.get h2 e
def zy.lH:∀{xs:Cy}{vs:Ck}{i:Nat}{v:V},zy W M H xs vs->vs[i]?=some v->∃x,xs[i]?=some x/\Rep W M H x v
 |[],_,_,_,h,e=>by cases(show _=_ from h);simp at e
 |x::xs,_,0,y,h,e=>by obtain⟨v,r,rfl,h1,h2⟩:=h;simp at e;subst e;exact⟨x,rfl,h1⟩
 |x::xs,_,i+1,y,h,e=>by obtain⟨v,r,rfl,h1,h2⟩:=h;simp only[List.getElem?_cons_succ]at e ⊢;exact zy.lH h2 e
def zy.append:∀{xs ys:Cy}{vs us:Ck},zy W M H xs vs->zy W M H ys us->zy W M H (xs++ys) (vs++us)
 |[],_,_,_,h,k=>by cases(show _=_ from h);exact k
 |x::xs,_,_,_,h,k=>by obtain⟨v,r,rfl,h1,h2⟩:=h;exact⟨v,_,rfl,h1,zy.append h2 k⟩
def zy.take:∀{xs:Cy}{vs:Ck}(n:Nat),zy W M H xs vs->zy W M H (xs.take n) (vs.take n)
 |[],_,_,h=>by cases(show _=_ from h);simp;exact zy.nil
 |x::xs,_,0,h=>zy.nil
 |x::xs,_,n+1,h=>by obtain⟨v,r,rfl,h1,h2⟩:=h;exact⟨v,_,rfl,h1,zy.take n h2⟩
def zy.drop:∀{xs:Cy}{vs:Ck}(n:Nat),zy W M H xs vs->zy W M H (xs.drop n) (vs.drop n)
 |[],_,_,h=>by cases(show _=_ from h);simp;exact zy.nil
 |x::xs,_,0,h=>h
 |x::xs,_,n+1,h=>by obtain⟨v,r,rfl,h1,h2⟩:=h;exact zy.drop n h2
def zy.ints:∀{ns:CC},zy W M H (ns.map PV.i) (ns.map V.int)
 |[]=>rfl
 |n::ns=>⟨_,_,rfl,rfl,zy.ints⟩
def zy.at(h:zy W M H xs vs)(e:atI xs i=some x):∃v,atI vs i=some v/\Rep W M H x v:=by
 unfold atI at e ⊢;rw[h.len];cases q:ixN xs.length i with
 |none=>rw[q]at e;cases e
 |some j=>rw[q]at e;exact h.get e
def zy.cut{xs:Cy}{vs:Ck}{lo hi:CU}(h:zy W M H xs vs):zy W M H ((xs.drop (HT.sIx xs.length 0 lo)).take (HT.sIx xs.length xs.length hi-HT.sIx xs.length 0 lo)) (lh vs lo hi):=by unfold lh;rw[h.len];exact(h.drop _).take _
def yE.iff:∀{kvs:Cu}{es:Cf},yE W M H kvs es↔es.map (·.1)=kvs.map (·.1)/\zy W M H (kvs.map (·.2)) (es.map (·.2))
 |[],es=>⟨λh=>by cases(show _=_ from h);exact⟨rfl,rfl⟩,λh=>by cases es with|nil=>rfl|cons a r=>cases h.1⟩
 |kx::r,es=>by
  constructor
  .rintro ⟨v,q,rfl,h1,h2⟩
   obtain⟨e,t⟩:=yE.iff.mp h2;exact⟨by simp only[List.map_cons,e],v,_,rfl,h1,t⟩
  .rintro ⟨e,v,q,e2,h1,h2⟩
   cases es with
   |nil=>cases e2
   |cons a es=>simp only[List.map_cons,List.cons.injEq]at e e2;refine⟨a.2,es,by rw[<- e.1],by rw[e2.1];exact h1,yE.iff.mpr ⟨e.2,by rw[e2.2];exact h2⟩⟩
def cG(n:New M H)(hp:H p=none)(h:zy W M H xs vs):Rep W M (upd H p (.lst vs)) (.l xs) (.ref p):=⟨p,vs,rfl,n p hp,zb,h.same (zl.upd hp)⟩
def nF(hp:H p=none)(h:zy W M H xs vs):Rep W M (upd H p (.tup vs)) (.t xs) (.ref p):=⟨p,vs,rfl,SqT.of zb,h.same (zl.upd hp)⟩
end
def sQ:R2:=λx y H Q=>(rI0 (λi j=>.int (i+j)) x y H Q\/∃i j,x=.str i/\y=.str j/\i.length+j.length<=sizeLine/\Q (.str (i++j)) H)\/Bc x y H Q
def qa:OpR X (binaryOp .Add) sQ:=(rK.or aQ).or si
def qU:PV->PV->Out PV
 |.i a,.i b=>.ok (.i (a+b))
 |.s a,.s b=>if a.length+b.length<=sizeLine then .ok (.s (a++b))else .wall
 |.l a,.l b=>if a.length+b.length<=sizeLine then .ok (.l (a++b))else .wall
 |_,_=>.wall
def qb:Lf2 W sQ qU:=λM C B H x y v u Q n hx hy q=>by
 unfold qU at q;split at q
 .exact .inl (.inl ⟨_,_,hx,hy,q _ H (zl.refl _) rfl⟩)
 .split at q
  .rename_i h;exact .inl (.inr ⟨_,_,hx,hy,h,q _ H (zl.refl _) rfl⟩)
  .exact q.elim
 .split at q
  .rename_i h;obtain⟨p,vs,rfl,_,e,r⟩:=hx;obtain⟨p',vs',rfl,_,e',r'⟩:=hy;exact .inr ⟨p,p',vs,vs',rfl,rfl,e,e',by rw[r.len,r'.len];exact h,λz hz=>q _ _ (zl.upd hz) (cG n hz (r.append r'))⟩
  .exact q.elim
 .exact q.elim
def sR:R2:=λx y H Q=>(rI i9 (λi j=>.int (i*j)) x y H Q\/rI gD (λi j=>.int (i*j)) x y H Q)\/(sI x y H Q\/Bd x y H Q)
def Jr:OpR X (binaryOp .Mult) sR:=(rM.or nA).or (a5.or sj)
instance{i j:Int}:Decidable (i9 i j):=by unfold i9;infer_instance
instance{i j:Int}:Decidable (pY i j):=by unfold pY;infer_instance
instance{i j:Int}:Decidable (A6 i j):=by unfold A6;infer_instance
def Ko:PV->PV->Out PV
 |.i a,.i b=>if i9 a b\/(a.natAbs<2 ^ 8192/\b.natAbs<2 ^ 8192)then .ok (.i (a*b))else .wall
 |.s a,.i b=>if a.length<=16/\-2 ^ 63<=b/\b<=1048576 then .ok (.s (Txt.mul a b))else .wall
 |.l a,.i b=>if -(2 ^ 63)<=b/\b<2 ^ 63/\a.length*b.toNat<=sizeLine then .ok (.l (List.replicate b.toNat a).flatten)else .wall
 |_,_=>.wall
def zy.rep{W:RC}{M:Cd}{H:Hp}{xs:Cy}{vs:Ck}(h:zy W M H xs vs):∀n,zy W M H (List.replicate n xs).flatten (List.replicate n vs).flatten
 |0=>rfl
 |n+1=>by rw[O4,O4,M6,M6];exact h.append (h.rep n)
def Js:Lf2 W sR Ko:=λM C B H x y v u Q n hx hy q=>by
 unfold Ko at q;split at q
 .split at q
  .rename_i h;rcases h with h|h
   .exact .inl (.inl ⟨_,_,hx,hy,h,q _ H (zl.refl _) rfl⟩)
   .exact .inl (.inr ⟨_,_,hx,hy,h,q _ H (zl.refl _) rfl⟩)
  .exact q.elim
 .split at q
  .rename_i h;exact .inr (.inl ⟨_,_,hx,hy,h.1,h.2.1,h.2.2,q _ H (zl.refl _) rfl⟩)
  .exact q.elim
 .split at q
  .rename_i h;obtain⟨p,vs,rfl,_,e,r⟩:=hx;exact .inr (.inr ⟨p,_,vs,rfl,hy,e,h.1,h.2.1,by rw[r.len];exact h.2.2,λz hz=>q _ _ (zl.upd hz) (cG n hz (r.rep _))⟩)
  .exact q.elim
 .exact q.elim
def sS:R2:=λx y H Q=>rI pY (λi j=>.int (i / j)) x y H Q\/rI sJ (λi j=>.int (i.fdiv j)) x y H Q
def j9:OpR X (binaryOp .FloorDiv) sS:=mY.or gE
def j_:PV->PV->Out PV
 |.i a,.i b=>if pY a b then .ok (.i (a / b))else if b≠0/\b.natAbs<2 ^ 8192 then .ok (.i (a.fdiv b))else .wall
 |_,_=>.wall
def kc:Lf2 W sS j_:=λM C B H x y v u Q n hx hy q=>by
 unfold j_ at q;split at q
 .split at q
  .rename_i h;exact .inl ⟨_,_,hx,hy,h,q _ H (zl.refl _) rfl⟩
  .split at q
   .rename_i h;exact .inr ⟨_,_,hx,hy,h,q _ H (zl.refl _) rfl⟩
   .exact q.elim
 .exact q.elim
def sT:R2:=λx y H Q=>rI (λ_ j=>0<j) (λi j=>.int (i % j)) x y H Q\/rI (λ_ j=>j≠0) (λi j=>.int (i.fmod j)) x y H Q
def z9:OpR X (binaryOp .Mod) sT:=rN.or mZ
def yQ:PV->PV->Out PV
 |.i a,.i b=>if 0<b then .ok (.i (a % b))else if b≠0 then .ok (.i (a.fmod b))else .wall
 |_,_=>.wall
def z_:Lf2 W sT yQ:=λM C B H x y v u Q n hx hy q=>by
 unfold yQ at q;split at q
 .split at q
  .rename_i h;exact .inl ⟨_,_,hx,hy,h,q _ H (zl.refl _) rfl⟩
  .split at q
   .rename_i h;exact .inr ⟨_,_,hx,hy,h,q _ H (zl.refl _) rfl⟩
   .exact q.elim
 .exact q.elim
def sU:Lf2 W (rI0 λi j=>.bl (decide (i<j))) pLt:=xn λ_ _ _ _=>rfl
def Ab:Lf2 W (rI0 λi j=>.bl (decide (i<=j))) pLe:=xn λ_ _ _ _=>rfl
def a7:Lf2 W (rI0 λi j=>.bl (decide (j<i))) pGt:=xn λ_ _ _ _=>rfl
def bI.rk(e:Rd H a (.dK kvs)):bI H a (kV k) (KC kvs k):=.inl ⟨kvs,k,e,rfl,rfl⟩
def RFr(W:RC)(M:Cd)(H:Hp)(H2:Hp)(x:PV)(v:V):Prop:=∃p,v=.ref p/\H p=none/\Kj W (λa=>M a/\a≠p) H2 p x
def RFr.rep(n:New M H)(h:RFr W M H H2 x v):Rep W M H2 x v:=by obtain⟨p,rfl,hp,h⟩:=h;exact zT.iff.mp ((h.xm (N:=M) (n p hp)).sub (λ_ m _=>m) λ_ m _=>m.1)
def LFr(C:LC)(S:Cb)(te:TE)(m:ME):Prop:=∀B P H σ ρ,Rel C.W B S P H σ ρ->∀Q,zE C B H (RFr C.W (Mof B S P) H) Q (m ρ)->te σ H Q
def FM(X:Cx)(C:LC)(S:Cb)(e:Co)(m:ME):Prop:=X.K=C.W.K->∃te,PE X e te/\LFr C S te m
def vE(h:zE C B H R Q o)(k:∀x v H2,zl H H2->R' H2 x v->R H2 x v):zE C B H R' Q o:=by
 cases o with
 |ok r=>exact λv H2 s hr=>h v H2 s (k _ _ _ s hr)
 |exc c fs=>exact h
 |wall=>exact h
def FM.em(h:FM X C S e m):EM X C S false e m:=λhK=>by obtain⟨te,h1,h2⟩:=h hK;exact⟨te,h1,λB P H σ ρ R Q q=>h2 B P H σ ρ R Q (vE q λx v H2 s hr=>RV.of (hr.rep R.new))⟩
def RVs(C:LC)(B:Bs)(S:Cb)(P:Cm)(H:Hp):List Bool->List PV->List V->Prop
 |[],xs,vs=>xs=[]/\vs=[]
 |w::ws,xs,vs=>∃x v xr vr,xs=x::xr/\vs=v::vr/\RV C B S P w H x v/\RVs C B S P H ws xr vr
def a8(C:LC)(B:Bs)(H:Hp)(R:Hp->List PV->List V->Prop)(Q:List V->Hp->Prop):Out (List PV)->Prop
 |.ok r=>∀v H2,zl H H2->R H2 r v->Q v H2
 |.exc c fs=>XPo C B c fs
 |.wall=>False
def LA(C:LC)(S:Cb)(ws:Cj)(ta:TA)(m:MA):Prop:=∀B P H σ ρ,Rel C.W B S P H σ ρ->∀Q,a8 C B H (λH2=>RVs C B S P H2 ws) Q (m ρ)->ta σ H Q
def AM(X:Cx)(C:LC)(S:Cb)(ws:Cj)(es:Ci)(m:MA):Prop:=X.K=C.W.K->∃ta,PA X es ta/\LA C S ws ta m
def zC:MA:=λ_=>.ok []
def ze(m:ME)(ms:MA):MA:=λρ=>(m ρ).bind λx=>(ms ρ).bind λxs=>.ok (x::xs)
def a9{α:Type}{f:PV->Out α}{T:Hp->Out α->Prop}(hT:∀H H2 o,zl H H2->T H o->T H2 o)(hx:∀c fs,T H (.exc c fs)->XPo C B c fs)(hw:T H .wall->False)
  (h:T H (o.bind f)) (k:∀r v H2,zl H H2->R H2 r v->T H2 (f r)->Q' v H2):zE C B H R Q' o:=by
 cases o with
 |ok r=>exact λv H2 s hr=>k r v H2 s hr (hT _ _ _ s h)
 |exc c fs=>exact hx _ _ h
 |wall=>exact hw h
def XF(s:zl H H2)(h:a8 C B H R Q o):a8 C B H2 R Q o:=by
 cases o with
 |ok x=>exact λv H3 s3 hx=>h v H3 (s.trans s3) hx
 |exc c fs=>exact h
 |wall=>exact h
def kQ(h:zE C B H R Q (o.bind f))(k:∀r v H2,zl H H2->R' H2 r v->zE C B H2 R Q (f r)->Q' v H2):a8 C B H R' Q' o:=by
 cases o with
 |ok r=>exact λv H2 s hr=>k r v H2 s hr (YZ (o:=f r) h s)
 |exc c fs=>exact h
 |wall=>exact h
section
variable {X:Cx}{C:LC}{S:Cb}{e a b:Co}{es:Ci}{w w1 w2:Bool}{ws:Cj}{m m1 m2:ME}{ms:MA}{t1 t2:MT}{pos:Pos}
def zf:AM X C S [] [] zC:=λ_=>⟨_,KA,λB P H σ ρ R Q q=>q [] H (zl.refl _) ⟨rfl,rfl⟩⟩
def za(h:EM X C S w e m)(hr:AM X C S ws es ms)(hs:starEach (e::es) X.env=(false,eval e X.env)::starEach es X.env:=by rfl):AM X C S (w::ws) (e::es) (ze m ms):=λhK=>by
 obtain⟨te,a1,a2⟩:=h hK;obtain⟨ta,b1,b2⟩:=hr hK;refine⟨_,ZH a1 b1 hs,λB P H σ ρ R Q q=>a2 B P H σ ρ R _ (a9 (T:=λH o=>a8 C B H (λH2=>RVs C B S P H2 (w::ws)) Q o) (λ_ _ _ s h=>XF s h) (λ_ _ h=>h) (λh=>h) q λx v H1 s1 r1 q1=>?_)⟩;refine b2 B P H1 σ ρ (R.keep s1) _ ?_;revert q1;cases ms ρ with
 |ok xs=>exact λq1 vs H2 s2 r2=>q1 (v::vs) H2 s2 ⟨x,v,xs,vs,rfl,rfl,r1.same s2,r2⟩
 |exc c fs=>exact id
 |wall=>exact id
def RVs.xo{B:Bs}{P:Cm}{H:Hp}:∀{ws:Cj}{xs:Cy}{vs:Ck},RVs C B S P H ws xs vs->ws.all (!·)=true->zy C.W (Mof B S P) H xs vs
 |[],_,_,⟨e1,e2⟩,_=>by subst e1;subst e2;rfl
 |w::ws,_,_,⟨x,v,xr,vr,e1,e2,h1,h2⟩,hw=>by subst e1;subst e2;simp only[List.all_cons,Bool.and_eq_true,Bool.not_eq_true']at hw;rw[hw.1]at h1;exact⟨v,vr,rfl,h1.rep,RVs.xo h2 hw.2⟩
def XG(ms:MA):ME:=λρ=>(ms ρ).bind λxs=>if xs.length<=sizeLine then .ok (.l xs)else .wall
def lJ(ms:MA):ME:=λρ=>(ms ρ).bind λxs=>if xs.length<=sizeLine then .ok (.t xs)else .wall
def Z6(h:AM X C S ws es ms)(hw:ws.all (!·)=true:=by rfl):FM X C S (.List es pos) (XG ms):=λhK=>by
 obtain⟨ta,a1,a2⟩:=h hK;refine⟨_,rS a1,λB P H σ ρ R Q q=>a2 B P H σ ρ R _ (kQ q λxs vs H1 s1 r1 q1=>?_)⟩;have rs:=r1.xo hw;split at q1
 .rename_i hl;exact⟨by rw[rs.len];exact hl,λp hp=>q1 _ _ (zl.upd hp) ⟨p,rfl,zl.none s1 hp,vs,zb,(rs.sub λa m n=>⟨m,λz=>n (z▸hp)⟩).same (zl.upd hp)⟩⟩
 .exact q1.elim
def UK{x1}(h:AM X C S ws es ms)(hw:ws.all (!·)=true:=by rfl):EM X C S false (.Tuple es x1 pos) (lJ ms):=λhK=>by
 obtain⟨ta,a1,a2⟩:=h hK;refine⟨_,rR a1,λB P H σ ρ R Q q=>a2 B P H σ ρ R _ (kQ q λxs vs H1 s1 r1 q1=>?_)⟩;have rs:=r1.xo hw;split at q1
 .rename_i hl;exact⟨by rw[rs.len];exact hl,λp hp=>q1 _ _ (zl.upd hp) (RV.of (nF hp rs))⟩
 .exact q1.elim
def fW(t u:MT):MT:=λρ=>(t ρ).bind λc=>if c=true then u ρ else .ok false
def mOr(t u:MT):MT:=λρ=>(t ρ).bind λc=>if c=true then .ok true else u ρ
def XH(t:MT):MT:=λρ=>(t ρ).bind λc=>.ok (!c)
def Y0(m1 m2:ME):ME:=λρ=>(m1 ρ).bind λx=>(asB x).bind λc=>if c=true then m2 ρ else .ok (.b false)
def TWM.tm(h:TWM X C S e t1):TM X C S e t1:=λhK=>let⟨tt,a1,a2⟩:=h hK;⟨tt,a1.pt,a2⟩
def cH(h:TM X C S a t1):TWM X C S (.BoolOp .And [a] pos) t1:=λhK=>let⟨tt,a1,a2⟩:=h hK;⟨tt,pw_and1 a1,a2⟩
def UL(h:TM X C S a t1):TWM X C S (.BoolOp .Or [a] pos) t1:=λhK=>let⟨tt,a1,a2⟩:=h hK;⟨tt,pw_or1 a1,a2⟩
variable {rest:Ci}
def lK(h:TM X C S a t1)(h2:TWM X C S (.BoolOp .And (b::rest) pos) t2):TWM X C S (.BoolOp .And (a::b::rest) pos) (fW t1 t2):=λhK=>by
 obtain⟨tt,a1,a2⟩:=h hK;obtain⟨tu,b1,b2⟩:=h2 hK;refine⟨_,pw_and a1 b1,λB P H σ ρ R Q q=>a2 B P H σ ρ R _ (ZI q λc H1 s1 q1=>?_)⟩;cases c with
 |true=>exact nu (b2 B P H1 σ ρ (R.keep s1) _ q1)
 |false=>exact nq (q1 H1 (zl.refl _))
def a_(h:TM X C S a t1)(h2:TWM X C S (.BoolOp .Or (b::rest) pos) t2):TWM X C S (.BoolOp .Or (a::b::rest) pos) (mOr t1 t2):=λhK=>by
 obtain⟨tt,a1,a2⟩:=h hK;obtain⟨tu,b1,b2⟩:=h2 hK;refine⟨_,pw_or a1 b1,λB P H σ ρ R Q q=>a2 B P H σ ρ R _ (ZI q λc H1 s1 q1=>?_)⟩;cases c with
 |true=>exact nu (q1 H1 (zl.refl _))
 |false=>exact nq (b2 B P H1 σ ρ (R.keep s1) _ q1)
def Jt(h:TM X C S a t1):TM X C S (.UnaryOp .Not a pos) (XH t1):=λhK=>by obtain⟨tt,a1,a2⟩:=h hK;exact⟨_,rC a1,λB P H σ ρ R Q q=>a2 B P H σ ρ R _ (ZI q λc H1 s1 q1=>q1 H1 (zl.refl _))⟩
def Z7(h:EM X C S w e m)(he:∀whole,isTrue e X.env whole=(do let v<-whole;standAt e.pos;holding [v] (truthy v)):=by intro _;rfl):TM X C S e (yP m):=λhK=>by obtain⟨te,a1,a2⟩:=h hK;exact⟨_,i7 a1 he,XE a2⟩
def lL{op}(h:EM X C S w a m):EM X C S w (.BoolOp op [a] pos) m:=λhK=>let⟨tt,a1,a2⟩:=h hK;⟨tt,rD a1,a2⟩
def cI(h:EM X C S w1 a m1)(h2:EM X C S false (.BoolOp .And (b::rest) pos) m2):EM X C S false (.BoolOp .And (a::b::rest) pos) (Y0 m1 m2):=λhK=>by
 obtain⟨tt,a1,a2⟩:=h hK;obtain⟨tu,b1,b2⟩:=h2 hK;refine⟨_,rE a1 b1,λB P H σ ρ R Q q=>a2 B P H σ ρ R _ (yx q λx v H1 s1 r1 q1=>?_)⟩;cases x with
 |b c=>
  refine⟨c,(show v=.bl c from r1),?_⟩;cases c with
  |true=>exact nu (b2 B P H1 σ ρ (R.keep s1) _ q1)
  |false=>exact nq (q1 _ H1 (zl.refl _) (RV.of rfl))
 |_=>exact q1.elim
end
def zq{κ α:Type}[DecidableEq κ](kvs:List (κ×α))(k:κ):Option α:=(kvs.find? λkv=>decide (kv.1=k)).map (·.2)
def yE.get{W:RC}{M:Cd}{H:Hp}:∀{kvs:Cu}{es:Cf}{k:CT}{x:PV},yE W M H kvs es->zq kvs k=some x->∃v,KC es k=some v/\Rep W M H x v
 |[],_,_,_,_,e=>by cases e
 |kx::r,_,k,x,h,e=>by
  obtain⟨v,q,rfl,h1,h2⟩:=h;unfold zq at e;unfold KC;rw[a0m]at e ⊢;by_cases c:kx.1=k
  .simp only[c,decide_true]at e ⊢;cases e;exact⟨v,rfl,h1⟩
  .simp only[c,decide_false]at e ⊢;exact yE.get h2 e
def yE.sV{W:RC}{M:Cd}{H:Hp}:∀{kvs:Cu}{es:Cf}{k:CT},yE W M H kvs es->zq kvs k=none->KC es k=none
 |[],_,_,h,_=>by cases(show _=_ from h);rfl
 |kx::r,_,k,h,e=>by
  obtain⟨v,q,rfl,h1,h2⟩:=h;unfold zq at e;unfold KC;rw[a0m]at e ⊢;by_cases c:kx.1=k
  .simp only[c,decide_true]at e;cases e
  .simp only[c,decide_false]at e ⊢;exact yE.sV h2 e
def yE.BQ(h:yE W M H kvs es):(KC es k).isSome=(zq kvs k).isSome:=by
 cases e:zq kvs k with
 |none=>rw[h.sV e];rfl
 |some x=>obtain⟨v,q,_⟩:=h.get e;rw[q];rfl
def pk:PV->Option Key
 |.i n=>some (.inl n)
 |.s x=>some (.inr x)
 |_=>none
def ba(h:zT W N M H x v)(e:pk x=some k):v=kV k:=by
 cases x with
 |i n=>cases e;exact h
 |s n=>cases e;exact h
 |_=>cases e
def Bf:R2:=λx y H Q=>∃a v,x=.ref a/\bI H a y (some v)/\Q v H
def nG(hu:X.A.units+1<cLine):IxR X Bf:=by
 intro value slice pins s σ H x y v u Q I rx ry h hs;obtain⟨a,w',rfl,g,q⟩:=h;cases rx;have hT:=Xw I g;unfold subscriptTail;refine f8 ?_;rw[getitemInPython_of_ne hT.not_modules];refine f8 (a0K hT PySem.F.slot_dict_getitem.lookup ?_);have fin:wpAny (Du X) X.A (subscripted slice false (.ref a) u) (λr s₃=>wpAny (Du X) X.A (letTemporaryGo value (.ref a) r >>= λ_=>pure r) (EP X pins σ Q) X.xe s₃) X.xe s:=by rw[hs];exact wpAny_operating (L4 (b9 hu I g ry λw' s3 I3 rw'=>⟨_,H,I3,rw',q⟩) (λr s₃ h₃=>f8 (wpAny_letTemporaryGo (B8 h₃))) λ_ _ x=>x)
 first
  |exact B8 (f8 fin)
  |exact f8 (B8 (f8 fin))
  |exact f8 fin
def BR(K:CO):R2:=λx y H Q=>rIx K x y H Q\/Bf x y H Q
def vp{α:Type}:Option α->Out α
 |some a=>.ok a
 |none=>.wall
def pIx:PV->PV->Out PV
 |.l xs,.i k=>vp (atI xs k)
 |.t xs,.i k=>vp (atI xs k)
 |.sc ns,.i k=>vp ((atI ns k).map PV.i)
 |.s z,.i k=>if z.length<=sizeLine then vp ((atI z.cps.toList k).map λc=>.s ⟨#[c]⟩)else .wall
 |.d kvs,y=>vp ((pk y).bind λk=>zq kvs k)
 |_,_=>.wall
def qc(h:zE C B H R Q (vp o)):∃x,o=some x/\∀v H2,zl H H2->R H2 x v->Q v H2:=by
 cases o with
 |none=>exact h.elim
 |some x=>exact⟨x,rfl,h⟩
def Ac:Lf2 W (BR W.K) pIx:=λM C B H x y v u Q n hx hy q=>by
 unfold pIx at q;split at q
 .obtain⟨x,e,q⟩:=qc q;obtain⟨p,vs,rfl,_,hl,r⟩:=hx;obtain⟨v,hv,rv⟩:=r.at e;exact .inl (.inl ⟨p,vs,_,v,rfl,hy,SqL.of hl,hv,q v H (zl.refl _) rv⟩)
 .obtain⟨x,e,q⟩:=qc q;obtain⟨p,vs,rfl,hl,r⟩:=hx;obtain⟨v,hv,rv⟩:=r.at e;exact .inl (.inr (.inl ⟨p,vs,_,v,rfl,hy,hl,hv,q v H (zl.refl _) rv⟩))
 .obtain⟨x,e,q⟩:=qc q;obtain⟨p,rfl,hl⟩:=hx;obtain⟨z,hz,rfl⟩:=v4.mp e;refine .inl (.inl ⟨p,_,_,.int z,rfl,hy,hl.sq,?_,q _ H (zl.refl _) rfl⟩);unfold atI at hz ⊢;rw[u8];cases c:ixN _ _ with
  |none=>rw[c]at hz;cases hz
  |some j=>rw[c,Option.bind_some]at hz;show(List.map V.int _)[j]?=_;rw[D5,hz];rfl
 .split at q
  .rename_i hl;obtain⟨x,e,q⟩:=qc q;obtain⟨z,hz,rfl⟩:=v4.mp e;exact .inl (.inr (.inr ⟨_,_,z,hx,hy,hl,hz,q _ H (zl.refl _) rfl⟩))
  .exact q.elim
 .obtain⟨x,e,q⟩:=qc q;obtain⟨p,es,rfl,_,hl,r⟩:=hx;obtain⟨k,hk,e⟩:=E6.mp e;obtain⟨v,hv,rv⟩:=r.get e;exact .inr ⟨p,v,rfl,by rw[ba hy hk,<- hv];exact bI.rk hl,q v H (zl.refl _) rv⟩
 .exact q.elim
def Ad(hu:X.A.units+1<cLine)(h1:EM X C S w1 a m1)(h2:EM X C S w2 b m2)(hs:Xt b:=by intro _ _;rfl):EM X C S false (.Subscript a b pos) (mOp pIx m1 m2):=λhK=>by obtain⟨ta,a1,a2⟩:=h1 hK;obtain⟨tb,b1,b2⟩:=h2 hK;exact⟨_,xS (rZ.or (nG hu)) a1 b1 hs,gF (by rw[hK];exact Ac) a2 b2⟩
def toV:PV->Option V
 |.i a=>some (.int a)
 |.s a=>some (.str a)
 |.b a=>some (.bl a)
 |.n=>some .non
 |_=>none
def Ju(h:zT W N M H x v)(e:toV x=some u):v=u/\QT u=true:=by cases x<;>first|(cases e;exact⟨h,rfl⟩)|cases e
def lM:Option Bool->Option Bool->Option Bool
 |some a,some b=>some (a&&b)
 |_,_=>none
def Xg(f:Dc):List PV->List PV->Option Bool
 |[],[]=>some true
 |x::xs,y::ys=>lM (f x y) (Xg f xs ys)
 |_,_=>some false
def bb(f:Dc)(b:Cu):List (Key×PV)->Option Bool
 |[]=>some true
 |kx::r=>match zq b kx.1 with
  |none=>some false
  |some y=>lM (f kx.2 y) (bb f b r)
def sW(x y:PV):Option Bool:=match toV x,toV y with|some a,some b=>some (eqV a b)|_,_=>none
def Z3:Nat->PV->PV->Option Bool
 |n+1,.l xs,.l ys=>Xg (Z3 n) xs ys
 |n+1,.t xs,.t ys=>Xg (Z3 n) xs ys
 |_,x,y=>sW x y
def xp(n:Nat):PV->PV->Option Bool
 |.d a,.d b=>if a.length=b.length then bb (Z3 n) b a else some false
 |x,y=>Z3 n x y
def kB(h:lM a b=some c):∃p q,a=some p/\b=some q/\c=(p&&q):=by cases a<;>cases b<;>first|(cases h;done)|(cases h;exact⟨_,_,rfl,rfl,rfl⟩)
def Vb{f:Dc}:∀{xs ys:Cy}{b:Bool},Xg f xs ys=some b->xs.length≠ys.length->b=false
 |[],[],_,_,h=>absurd rfl h
 |[],_::_,_,h,_=>by cases h;rfl
 |_::_,[],_,h,_=>by cases h;rfl
 |x::xs,y::ys,b,h,n=>by obtain⟨p,q,_,h2,rfl⟩:=kB h;rw[Vb h2 (λz=>n (by rw[B0,B0,z])),a0T]
def Vc{f:Dc}:∀{xs ys:Cy}{b:Bool},Xg f xs ys=some b->∃e:Nat->Bool,(∀j x y,xs[j]?=some x->ys[j]?=some y->f x y=some (e j))/\b=((List.range (min xs.length ys.length)).all e&&xs.length==ys.length)
 |[],[],b,h=>⟨λ_=>true,(λj x y h=>by simp at h),by cases h;rfl⟩
 |[],_::_,b,h=>⟨λ_=>true,(λj x y h=>by simp at h),by cases h;simp⟩
 |_::_,[],b,h=>⟨λ_=>true,(λj x y _ h=>by simp at h),by cases h;simp⟩
 |x::xs,y::ys,b,h=>by
  obtain⟨p,q,h1,h2,rfl⟩:=kB h;obtain⟨e,he,rfl⟩:=Vc h2;refine⟨λj=>match j with|0=>p|j+1=>e j,λj a c ha hc=>?_,?_⟩
  .cases j with
   |zero=>simp only[List.getElem?_cons_zero,Option.some.injEq]at ha hc;subst ha;subst hc;exact h1
   |succ j=>simp only[List.getElem?_cons_succ]at ha hc;exact he j a c ha hc
  .simp only[List.length_cons,Nat.add_min_add_right,List.range_succ_eq_map,List.all_cons,List.all_map,Bool.and_assoc];congr 1;simp[Function.comp_def]
section
variable {X:Cx}{pins:Ca}{σ:St}{H:Hp}{s:Ce}{W:RC}
def gG(I:Inv X pins σ H s)(h:Rd H p (.dK es)):(es.map (·.1)).Nodup:=by
 obtain⟨_,_,vs,rel,dd⟩:=vD I.hok h;obtain⟨_,_,_,_,_,_,_,hp,hn⟩:=dd;have e:∀{es:Cf}{vs:Dd},KV es vs->es.map (·.1)=vs.map (·.1):=by
  intro es vs r
  induction r with
  |nil=>rfl
  |cons h _ ih=>rw[C8,C8,h.1,ih]
 rw[e rel];exact hn
def cJ{α:Type}:∀{b:List (Key×α)},(b.map (·.1)).Nodup->∀{j:Nat}{k:CT}{x:α},b[j]?=some (k,x)->zq b k=some x
 |[],_,j,k,x,e=>by simp at e
 |kx::r,nd,0,k,x,e=>by simp only[List.getElem?_cons_zero,Option.some.injEq]at e;subst e;unfold zq;rw[a0m];simp
 |kx::r,nd,j+1,k,x,e=>by simp only[List.getElem?_cons_succ]at e;rw[C8,G6]at nd;have:kx.1≠k:=λz=>nd.1 (z▸E1.mpr ⟨_,O8 e,rfl⟩);have ih:=cJ nd.2 e;unfold zq at ih ⊢;rw[a0m];simp only[this,decide_false];exact ih
def Y1(I:Inv X pins σ H s)(hK:W.K=X.K):∀{n:Nat}{x y:PV}{b:Bool}{v:V}{N M N' M':Cd},Z3 n x y=some b->zT W N M H x v->zT W N' M' H y v->b=true:=by
 have fl:∀{x y:PV}{b:Bool}{v:V}{N M N' M':Cd},sW x y=some b->zT W N M H x v->zT W N' M' H y v->b=true:=by
  intro x y b v N M N' M' h h1 h2;unfold sW at h;cases ex:toV x with
  |none=>rw[ex]at h;cases h
  |some a=>
   cases ey:toV y with
   |none=>rw[ex,ey]at h;cases h
   |some c=>rw[ex,ey]at h;obtain⟨e1,f1⟩:=Ju h1 ex;obtain⟨e2,_⟩:=Ju h2 ey;cases h;rw[<- e1]at f1 ⊢;rw[<- e2];cases v<;>first|rfl|(cases f1;done)|(simp[eqV];done)
 intro n
 induction n with
 |zero=>intro x y b v N M N' M' h;exact fl (by cases x<;>cases y<;>exact h)
 |succ n ih=>
  have its:∀{xs ys:Cy}{vs:Ck}{b:Bool}{M M':Cd},Xg (Z3 n) xs ys=some b->zy W M H xs vs->zy W M' H ys vs->b=true:=by
   intro xs
   induction xs with
   |nil=>intro ys vs b M M' h h1 h2;cases(show _=_ from h1);cases ys with
    |nil=>cases h;rfl
    |cons y ys=>obtain⟨_,_,e,_⟩:=h2;cases e
   |cons x xs ihx=>
    intro ys vs b M M' h h1 h2;obtain⟨v,r,rfl,hx,hr⟩:=h1;cases ys with
    |nil=>cases(show _=_ from h2)
    |cons y ys=>obtain⟨v',r',e,hy,hr'⟩:=h2;cases e;obtain⟨p,q,hp,hq,rfl⟩:=kB h;rw[ih hp (zT.iff.mpr hx) (zT.iff.mpr hy),ihx hq hr hr'];rfl
  intro x y b v N M N' M' h h1 h2;cases x with
  |l xs=>
   cases y with
   |l ys=>obtain⟨p,vs,rfl,_,e,r⟩:=h1;obtain⟨p',vs',e2,_,e',r'⟩:=h2;cases e2;rw[e]at e';cases e';exact its h r r'
   |_=>exact fl h h1 h2
  |t xs=>
   cases y with
   |t ys=>obtain⟨p,vs,rfl,e,r⟩:=h1;obtain⟨p',vs',e2,e',r'⟩:=h2;cases e2;rw[hK]at e e';cases I.V6 e e';exact its h r r'
   |_=>exact fl h h1 h2
  |_=>exact fl (by cases y<;>exact h) h1 h2
def lN(ry:RelV y u)(rx:RelV x v)(fy:QT y=true)(fx:QT x=true):SeqAt.RcAt A s u v (eqV y x)/\SeqAt.RcNeAt A s u v (!eqV y x):=by
 cases y with
 |non=>
  cases ry;cases x with
  |non=>cases rx;exact⟨SeqAt.RcAt.none_none,SeqAt.RcNeAt.none_none⟩
  |bl b=>cases rx;exact⟨SeqAt.RcAt.none_bool b,SeqAt.RcNeAt.none_bool b⟩
  |int b=>obtain⟨t,rfl⟩:=rx;exact⟨SeqAt.RcAt.none_int b t,SeqAt.RcNeAt.none_int b t⟩
  |str b=>obtain⟨t,rfl⟩:=rx;exact⟨SeqAt.RcAt.none_str b t,SeqAt.RcNeAt.none_str b t⟩
  |_=>exact absurd (show false=true from fx) C9
 |bl a=>
  cases ry;cases x with
  |non=>cases rx;exact⟨SeqAt.RcAt.bool_none a,SeqAt.RcNeAt.bool_none a⟩
  |bl b=>cases rx;exact⟨SeqAt.RcAt.bool_bool a b,SeqAt.RcNeAt.bool_bool a b⟩
  |int b=>obtain⟨t,rfl⟩:=rx;exact⟨SeqAt.RcAt.bool_int a b t,SeqAt.RcNeAt.bool_int a b t⟩
  |str b=>obtain⟨t,rfl⟩:=rx;exact⟨SeqAt.RcAt.bool_str a b t,SeqAt.RcNeAt.bool_str a b t⟩
  |_=>exact absurd (show false=true from fx) C9
 |int a=>
  obtain⟨t',rfl⟩:=ry;cases x with
  |non=>cases rx;exact⟨SeqAt.RcAt.int_none a t',SeqAt.RcNeAt.int_none a t'⟩
  |bl b=>cases rx;exact⟨SeqAt.RcAt.int_bool a t' b,SeqAt.RcNeAt.int_bool a t' b⟩
  |int b=>obtain⟨t,rfl⟩:=rx;exact⟨SeqAt.RcAt.int_int a t' b t,SeqAt.RcNeAt.int_int a t' b t⟩
  |str b=>obtain⟨t,rfl⟩:=rx;exact⟨SeqAt.RcAt.int_str a t' b t,SeqAt.RcNeAt.int_str a t' b t⟩
  |_=>exact absurd (show false=true from fx) C9
 |str a=>
  obtain⟨t',rfl⟩:=ry;cases x with
  |non=>cases rx;exact⟨SeqAt.RcAt.str_none a t',SeqAt.RcNeAt.str_none a t'⟩
  |bl b=>cases rx;exact⟨SeqAt.RcAt.str_bool a t' b,SeqAt.RcNeAt.str_bool a t' b⟩
  |int b=>obtain⟨t,rfl⟩:=rx;exact⟨SeqAt.RcAt.str_int a t' b t,SeqAt.RcNeAt.str_int a t' b t⟩
  |str b=>obtain⟨t,rfl⟩:=rx;exact⟨SeqAt.RcAt.str_str a t' b t,SeqAt.RcNeAt.str_str a t' b t⟩
  |_=>exact absurd (show false=true from fx) C9
 |_=>exact absurd (show false=true from fy) C9
def Vd(h:sW x y=some b)(h1:zT W N M H x xv)(h2:zT W N' M' H y yv)(ru:RelV xv u)(rv:RelV yv v):
  SeqAt.EqAt A s u v b/\SeqAt.RcAt A s u v b/\SeqAt.RcNeAt A s u v (!b):=by
 unfold sW at h;cases ex:toV x with
 |none=>rw[ex]at h;cases h
 |some a=>
  cases ey:toV y with
  |none=>rw[ex,ey]at h;cases h
  |some c=>rw[ex,ey]at h;cases h;obtain⟨rfl,f1⟩:=Ju h1 ex;obtain⟨rfl,f2⟩:=Ju h2 ey;exact⟨lj ru rv f1 f2,(lN ru rv f1 f2).1,(lN ru rv f1 f2).2⟩
def nH(I:Inv X pins σ H s)(hK:W.K=X.K):∀(n:Nat){A:Cz}{x y:PV}{b:Bool}{xv yv:V}{u v:Value}{N M N' M':Cd},Z3 n x y=some b->zT W N M H x xv->zT W N' M' H y yv->RelV xv u->RelV yv v->A.units+n<cLine->
  SeqAt.EqAt A s u v b/\SeqAt.RcAt A s u v b/\SeqAt.RcNeAt A s u v (!b):=by
 intro n
 induction n with
 |zero=>intro A x y b xv yv u v N M N' M' h h1 h2 ru rv _;exact Vd (by cases x<;>cases y<;>exact h) h1 h2 ru rv
 |succ n ih=>
  intro A x y b xv yv u v N M N' M' h h1 h2 ru rv hu;have top:∀{p q:Addr},u=.ref p->v=.ref q->xv=.ref p->yv=.ref q->SeqAt.RcAt A s u v b/\SeqAt.RcNeAt A s u v (!b)->SeqAt.EqAt A s u v b/\SeqAt.RcAt A s u v b/\SeqAt.RcNeAt A s u v (!b):=λ{p q} e1 e2 e3 e4 hr=>by
   refine⟨?_,hr⟩;by_cases c:p=q
   .subst c;rw[e1,e2];rw[Y1 I hK h (e3▸h1) (e4▸h2)];exact a1B _
   .rw[e1,e2]at hr ⊢;exact SeqAt.EqAt.of_refs c hr.1
  cases x with
  |l xs=>
   cases y with
   |l ys=>
    obtain⟨p,vs,rfl,_,e,r⟩:=h1;obtain⟨p',vs',rfl,_,e',r'⟩:=h2;cases ru;cases rv;refine top rfl rfl rfl rfl ?_;obtain⟨us,r1,p1,_⟩:=I.list (SqL.of e);obtain⟨ws,r2,p2,_⟩:=I.list (SqL.of e');have l1:us.toArray.size=xs.length:=by rw[D9,<- r1.length,r.len]
    have l2:ws.toArray.size=ys.length:=by rw[D9,<- r2.length,r'.len]
    by_cases hl:xs.length=ys.length
    .obtain⟨f,hf,rfl⟩:=Vc h;rw[hl,P7,Bool.and_true,Nat.min_self,<- hl,<- l1];have it:=UI (A:=A.in1) (e:=f) (s:=s) r1 r2 λj x y u v hx hy ru rv=>by obtain⟨x',hx',rx'⟩:=r.lH hx;obtain⟨y',hy',ry'⟩:=r'.lH hy;exact(ih (A:=A.in1) (hf j x' y' hx' hy') (zT.iff.mpr rx') (zT.iff.mpr ry') ru rv (by show A.units+1+n<cLine;omega)).1
     exact⟨SeqAt.RcAt.lists p1.isList p2.isList (by rw[l1,l2,hl]) (by omega) it,SeqAt.RcNeAt.lists p1.isList p2.isList (by rw[l1,l2,hl]) (by omega) it⟩
    .rw[Vb h hl];exact⟨a1m p1.isList p2.isList (by rw[l1,l2];simpa using hl) (by omega),SeqAt.RcNeAt.lists_lengths p1.isList p2.isList (by rw[l1,l2];simpa using hl) (by omega)⟩
   |_=>exact Vd h h1 h2 ru rv
  |t xs=>
   cases y with
   |t ys=>
    obtain⟨p,vs,rfl,e,r⟩:=h1;obtain⟨p',vs',rfl,e',r'⟩:=h2;cases ru;cases rv;refine top rfl rfl rfl rfl ?_;rw[hK]at e e';obtain⟨us,r1,p1,_⟩:=I.tuple e;obtain⟨ws,r2,p2,_⟩:=I.tuple e';have l1:us.toArray.size=xs.length:=by rw[D9,<- r1.length,r.len]
    have l2:ws.toArray.size=ys.length:=by rw[D9,<- r2.length,r'.len]
    obtain⟨f,hf,rfl⟩:=Vc h;have it:=UI (A:=A.in1) (e:=f) (s:=s) r1 r2 λj x y u v hx hy ru rv=>by obtain⟨x',hx',rx'⟩:=r.lH hx;obtain⟨y',hy',ry'⟩:=r'.lH hy;exact(ih (A:=A.in1) (hf j x' y' hx' hy') (zT.iff.mpr rx') (zT.iff.mpr ry') ru rv (by show A.units+1+n<cLine;omega)).1
    rw[<- l1,<- l2];exact⟨SeqAt.RcAt.tuples p1 p2 (by omega) it,SeqAt.RcNeAt.tuples p1 p2 (by omega) it⟩
   |_=>exact Vd h h1 h2 ru rv
  |_=>exact Vd (by cases y<;>exact h) h1 h2 ru rv
def sX{es:Cf}{vs:Dd}(r:KV es vs){k:CT}{v:V}(h:KC es k=some v):∃u,valueAt vs k=some u/\RelV v u:=K4.some_of (v:=v) (o:=valueAt vs k) (by rw[<- h];exact KV.val r k)
def nI{es:Cf}{vs:Dd}(r:KV es vs){k:CT}(h:KC es k=none):valueAt vs k=none:=by
 have:=KV.val r k;rw[h]at this;cases e:valueAt vs k with
 |none=>rfl
 |some u=>rw[e]at this;exact this.elim
def XI(I:Inv X pins σ H s)(hK:W.K=X.K){n:Nat}{A:Cz}(hu:A.units+n<cLine){b:Cu}{eb:Cf}{vb:Dd}{M M':Cd}(rb:yE W M' H b eb)(kb:KV eb vb):
  ∀{a:Cu}{ea:Cf}{va:Dd}{r:Bool},yE W M H a ea->KV ea va->bb (Z3 n) b a=some r->KeqHits A s vb va r
 |[],_,_,_,h,k,e=>by cases(show _=_ from h);cases k;cases e;exact .nil
 |kx::a,_,_,r,h,k,e=>by
  obtain⟨v,q,rfl,h1,h2⟩:=h;cases k with
  |@cons _ u _ us rr kk=>
   obtain⟨k',u⟩:=u;obtain⟨e1,ru⟩:=rr;cases e1;unfold bb at e;cases hy:zq b kx.1 with
   |none=>rw[hy]at e;cases e;exact .miss (nI kb (rb.sV hy))
   |some y=>rw[hy]at e;obtain⟨p,q,hp,hq,rfl⟩:=kB e;obtain⟨yv,hyv,ry⟩:=rb.get hy;obtain⟨yu,hyu,ryu⟩:=sX kb hyv;exact .hit hyu (nH I hK n hp (zT.iff.mpr h1) (zT.iff.mpr ry) ru ryu hu).1 (XI I hK hu rb kb h2 kk hq)
end
def Bg(W:RC)(neg:Bool):R2:=λxv yv H Q=>∃M x y b,zT W (λ_=>True) M H x xv/\zT W (λ_=>True) M H y yv/\xp 8 x y=some b/\Q (.bl (xor neg b)) H
def nJ:(∃a b,x=.d a/\y=.d b)\/xp n x y=Z3 n x y:=by
 cases x with
 |d a=>cases y with
  |d b=>exact .inl ⟨a,b,rfl,rfl⟩
  |_=>exact .inr rfl
 |_=>exact .inr rfl
def lO(hK:W.K=X.K)(hu:X.A.units+64<cLine):OpR X (compareOp .Eq) (Bg W false):=by
 intro pins s σ H xv yv u v Q I ru rv h;obtain⟨M,x,y,b,h1,h2,e,q⟩:=h;rw[a0t]at q;rcases nJ (n:=8) (x:=x) (y:=y)with⟨a,c,rfl,rfl⟩|z
 .obtain⟨p,es,rfl,_,ha,ra⟩:=h1;obtain⟨p',es',rfl,_,hb,rb⟩:=h2;cases ru;cases rv;obtain⟨_,na,va,ka,da⟩:=vD I.hok ha;obtain⟨_,nb,vb,kb,db⟩:=vD I.hok hb;have l1:va.length=a.length:=by rw[<- N9 ka];have:=M5 List.length (yE.iff.mp ra).1;simpa using this
  have l2:vb.length=c.length:=by rw[<- N9 kb];have:=M5 List.length (yE.iff.mp rb).1;simpa using this
  have e:(if a.length=c.length then bb (Z3 8) c a else some false)=some b:=e;by_cases hl:a.length=c.length
  .rw[if_pos hl]at e;refine keq_eq na nb da db (by omega) (λ_=>XI I hK (A:=X.A.in1) (by show X.A.units+1+8<cLine;omega) rb kb ra ka e) ?_;rw[l1,l2,hl,P7,a03];exact⟨.bl b,H,I,rfl,q⟩
  .rw[if_neg hl]at e;cases e;refine keq_eq (r:=false) na nb da db (by omega) (λz=>absurd (by rw[<- l1,<- l2,z]) hl) ?_;rw[a0T];exact⟨.bl false,H,I,rfl,q⟩
 .rw[z]at e;exact(nH I hK 8 e h1 h2 ru rv (by omega)).2.1 _ _ _ _ ⟨.bl b,H,I,rfl,q⟩
def Xh(neg:Bool)(x y:PV):Out PV:=match xp 8 x y with|some b=>.ok (.b (xor neg b))|none=>.wall
def lQ:Lf2 W (Bg W neg) (Xh neg):=λM C B H x y v u Q n hx hy q=>by
 unfold Xh at q;cases e:xp 8 x y with
 |none=>rw[e]at q;exact q.elim
 |some b=>rw[e]at q;exact⟨M,x,y,b,hx,hy,e,q _ H (zl.refl _) rfl⟩
def Ae(hu:X.A.units+64<cLine)(h1:EM X C S w1 a m1)(h2:EM X C S w2 b m2):EM X C S false (.Compare a [.Eq] [b] pos) (mOp (Xh false) m1 m2):=λhK=>UJ (lO hK.symm hu) lQ h1 h2 (Q1 _ (by decide) (by decide)) hK
def gH(hu:X.A.units+64<cLine)(h1:EM X C S w1 a m1)(h2:EM X C S w2 b m2):TM X C S (.Compare a [.Eq] [b] pos) (yP (mOp (Xh false) m1 m2)):=λhK=>Qu (lO hK.symm hu) lQ h1 h2 (Q1 _ (by decide) (by decide)) hK
def inP(v:V):List PV->Option Bool
 |[]=>some false
 |y::r=>match toV y,inP v r with
  |some u,some b=>some (eqV u v||b)
  |_,_=>none
def cK{W:RC}{M:Cd}{H:Hp}{v:V}:∀{ys:Cy}{vs:Ck}{b:Bool},zy W M H ys vs->inP v ys=some b->vs.all QT=true/\inV v vs=b
 |[],_,_,h,e=>by cases(show _=_ from h);cases e;exact⟨rfl,rfl⟩
 |y::ys,_,b,h,e=>by
  obtain⟨u,r,rfl,h1,h2⟩:=h;unfold inP at e;cases hy:toV y with
  |none=>rw[hy]at e;cases e
  |some u'=>
   cases hr:inP v ys with
   |none=>rw[hy,hr]at e;cases e
   |some b'=>rw[hy,hr]at e;cases e;obtain⟨rfl,f⟩:=Ju (zT.iff.mpr h1) hy;obtain⟨f2,e2⟩:=cK h2 hr;exact⟨by rw[a0y,f,f2];rfl,by unfold inV at e2 ⊢;rw[O0,e2]⟩
def Af(K:CO)(neg:Bool):R2:=λx y H Q=>(rIn K neg x y H Q\/∃i j,x=.str i/\y=.str j/\Q (.bl (xor neg (!(Builtin.Str.occurrences j i 0 j.length 1).isEmpty))) H)\/∃a o,y=.ref a/\bI H a x o/\Q (.bl (xor neg o.isSome)) H
def sY(hu:X.A.units+1<cLine):OpR X (compareOp .In) (Af X.K false):=by
 intro pins s σ H x y v u Q I rx ry h;rcases h with(h|⟨i,j,e1,e2,q⟩)|⟨a,o,rfl,g,q⟩
 .exact b8 pins s σ H x y v u Q I rx ry h
 .exact bW pins s σ H x y v u Q I rx ry ⟨i,j,e1,e2,by rw[a0t]at q;exact q⟩
 .obtain rfl:u=Value.ref a:=ry;exact BK hu I g rx λs3 I3=>⟨.bl o.isSome,H,I3,rfl,by rw[a0t]at q;exact q⟩
def cL(hu:X.A.units+1<cLine):OpR X (compareOp .NotIn) (Af X.K true):=by
 intro pins s σ H x y v u Q I rx ry h;rcases h with(h|⟨i,j,e1,e2,q⟩)|⟨a,o,rfl,g,q⟩
 .exact We pins s σ H x y v u Q I rx ry h
 .exact Wf pins s σ H x y v u Q I rx ry ⟨i,j,e1,e2,by rw[a04]at q;exact q⟩
 .obtain rfl:u=Value.ref a:=ry;exact nk hu I g rx λs3 I3=>⟨.bl (!o.isSome),H,I3,rfl,by rw[a04]at q;exact q⟩
def pIn(neg:Bool):PV->PV->Out PV
 |x,.l ys=>vp (((toV x).bind λv=>inP v ys).map λb=>.b (xor neg b))
 |x,.t ys=>vp (((toV x).bind λv=>inP v ys).map λb=>.b (xor neg b))
 |.s i,.s j=>.ok (.b (xor neg (!(Builtin.Str.occurrences j i 0 j.length 1).isEmpty)))
 |x,.d kvs=>vp ((pk x).map λk=>.b (xor neg (zq kvs k).isSome))
 |_,_=>.wall
def cM:(if neg=true then !b else b)=xor neg b:=by cases neg<;>simp
def sZ:Lf2 W (Af W.K neg) (pIn neg):=λM C B H x y v u Q n hx hy q=>by
 unfold pIn at q;split at q
 .obtain⟨z,e,q⟩:=qc q;obtain⟨b,hb,rfl⟩:=v4.mp e;obtain⟨xv,hxv,hb⟩:=E6.mp hb;obtain⟨p,vs,rfl,_,hl,r⟩:=hy;obtain⟨rfl,f⟩:=Ju hx hxv;obtain⟨f2,e2⟩:=cK r hb;exact .inl (.inl ⟨p,vs,rfl,.inl (SqL.of hl),f,f2,by rw[e2,cM];exact q _ H (zl.refl _) rfl⟩)
 .obtain⟨z,e,q⟩:=qc q;obtain⟨b,hb,rfl⟩:=v4.mp e;obtain⟨xv,hxv,hb⟩:=E6.mp hb;obtain⟨p,vs,rfl,hl,r⟩:=hy;obtain⟨rfl,f⟩:=Ju hx hxv;obtain⟨f2,e2⟩:=cK r hb;exact .inl (.inl ⟨p,vs,rfl,.inr hl,f,f2,by rw[e2,cM];exact q _ H (zl.refl _) rfl⟩)
 .exact .inl (.inr ⟨_,_,hx,hy,q _ H (zl.refl _) rfl⟩)
 .obtain⟨z,e,q⟩:=qc q;obtain⟨k,hk,rfl⟩:=v4.mp e;obtain⟨p,es,rfl,_,hl,r⟩:=hy;exact .inr ⟨p,_,rfl,by rw[ba hx hk];exact bI.rk hl,by rw[r.BQ];exact q _ H (zl.refl _) rfl⟩
 .exact q.elim
section
variable {X:Cx}{C:LC}{S:Cb}{e a b:Co}{es:Ci}{w w1 w2:Bool}{ws:Cj}{m m1 m2:ME}{ms:MA}{pos p:Pos}{x:Str}
def cN(hu:X.A.units+1<cLine)(h1:EM X C S w1 a m1)(h2:EM X C S w2 b m2)(hm:behindInMarks .In b=false:=by with_unfolding_all rfl):TM X C S (.Compare a [.In] [b] pos) (yP (mOp (pIn false) m1 m2)):=λhK=>Qu (sY hu) (by rw[hK];exact sZ) h1 h2 hm hK
def kR(hu:X.A.units+1<cLine)(h1:EM X C S w1 a m1)(h2:EM X C S w2 b m2)(hm:behindInMarks .NotIn b=false:=by with_unfolding_all rfl):TM X C S (.Compare a [.NotIn] [b] pos) (yP (mOp (pIn true) m1 m2)):=λhK=>Qu (cL hu) (by rw[hK];exact sZ) h1 h2 hm hK
def gI(W:RC)(M:Cd)(H:Hp):List PV->List V->Prop
 |[],vs=>vs=[]
 |x::xs,vs=>∃v r,vs=v::r/\zT W (λ_=>True) M H x v/\gI W M H xs r
def RVs.weak{B:Bs}{P:Cm}{H:Hp}:∀{ws:Cj}{xs:Cy}{vs:Ck},RVs C B S P H ws xs vs->gI C.W (Mof B S P) H xs vs
 |[],_,_,⟨e1,e2⟩=>by subst e1;subst e2;rfl
 |w::ws,_,_,⟨x,v,xr,vr,e1,e2,h1,h2⟩=>by subst e1;subst e2;exact⟨v,vr,rfl,h1.weak,RVs.weak h2⟩
def LfC(W:RC)(r:List V->Hp->VK->Prop)(p:Cw):Prop:=∀(M:Cd)(C:LC)(B:Bs) H xs vs Q,New M H->gI W M H xs vs->zE C B H (Rep W M) Q (p xs)->r vs H Q
def LfF(W:RC)(r:List V->Hp->VK->Prop)(p:Cw):Prop:=∀(M:Cd)(C:LC)(B:Bs) H xs vs Q,New M H->gI W M H xs vs->zE C B H (RFr W M H) Q (p xs)->r vs H Q
def zh(g:Cw)(ms:MA):ME:=λρ=>(ms ρ).bind g
def s_(L:LfC C.W r g)(h:LA C S ws ta ms):LE C S false (tCB r ta) (zh g ms):=λB P H σ ρ R Q q=>
 h B P H σ ρ R _ (kQ q λxs vs H1 s1 r1 q1=>L _ C B H1 xs vs Q (R.keep s1).new r1.weak (RV.eq▸q1))
def XJ(h:zE C B H (RFr W M H) Q o)(s:zl H H2):zE C B H2 (RFr W M H2) Q o:=by
 cases o with
 |ok x=>exact λv H3 s3 hx=>h v H3 (s.trans s3) (let⟨p,e,hp,hr⟩:=hx;⟨p,e,zl.none s hp,hr⟩)
 |exc c fs=>exact h
 |wall=>exact h
def Jv(h:zE C B H (RFr W M H) Q (o.bind f))(k:∀r v H2,zl H H2->R' H2 r v->zE C B H2 (RFr W M H2) Q (f r)->Q' v H2):a8 C B H R' Q' o:=by
 cases o with
 |ok r=>exact λv H2 s hr=>k r v H2 s hr (XJ (o:=f r) h s)
 |exc c fs=>exact h
 |wall=>exact h
def tw(L:LfF C.W r g)(h:LA C S ws ta ms):LFr C S (tCB r ta) (zh g ms):=λB P H σ ρ R Q q=>
 h B P H σ ρ R _ (Jv q λxs vs H1 s1 r1 q1=>L _ C B H1 xs vs Q (R.keep s1).new r1.weak q1)
def gJ{id:String}{r:List V->Hp->VK->Prop}{g:Cw}(hc:X.K=C.W.K->ZG X (.builtin id) r)(L:LfC C.W r g)(hg:Gl X x)(hm:X.mg x=none)(hv:bootBuiltins x=some (.builtin id))(ha:AM X C S ws (e::es) ms)(hn:x≠"__name__":=by decide)(hdb:(x==("__debug__":Str))=false:=by decide)
  (he:starEach (e::es) X.env=(false,eval e X.env)::starEach es X.env:=by rfl) (hpl:(backTo pos (starEach es X.env)).any (·.1)=false:=by rfl):EM X C S false (.Call (.Name x p) (e::es) [] pos) (zh g ms):=λhK=>by
 obtain⟨ta,a1,a2⟩:=ha hK;exact⟨_,Uz (hc hK) hg hm hv a1 hn hdb he hpl,s_ L a2⟩
def UM{id:String}{r:List V->Hp->VK->Prop}{g:Cw}(hc:X.K=C.W.K->ZG X (.type id) r)(L:LfF C.W r g)(hg:Gl X x)(hm:X.mg x=none)(hv:bootBuiltins x=some (.type id))(ha:AM X C S ws (e::es) ms)(hn:x≠"__name__":=by decide)(hdb:(x==("__debug__":Str))=false:=by decide)
  (he:starEach (e::es) X.env=(false,eval e X.env)::starEach es X.env:=by rfl) (hpl:(backTo pos (starEach es X.env)).any (·.1)=false:=by rfl):FM X C S (.Call (.Name x p) (e::es) [] pos) (zh g ms):=λhK=>by
 obtain⟨ta,a1,a2⟩:=ha hK;exact⟨_,bZ (hc hK) hg hm hv a1 hn hdb he hpl,tw L a2⟩
end
def vy:List PV->Out PV
 |[.l xs]=>.ok (.i xs.length)
 |[.t xs]=>.ok (.i xs.length)
 |[.sc xs]=>.ok (.i xs.length)
 |[.d xs]=>.ok (.i xs.length)
 |[.s z]=>if z.length<=sizeLine then .ok (.i z.length)else .wall
 |_=>.wall
def yE.len(h:yE W M H a es):es.length=a.length:=by have:=M5 List.length (yE.iff.mp h).1;simpa using this
def tD(K:CO):List V->Hp->VK->Prop:=λxs H Q=>(∃x n,xs=[x]/\A7 K x H n/\Q (.int n) H)\/∃a kvs,xs=[V.ref a]/\Rd H a (.dK kvs)/\Q (.int kvs.length) H
def cO:ZG X (.builtin "len") (λxs H Q=>∃a kvs,xs=[V.ref a]/\Rd H a (.dK kvs)/\Q (.int kvs.length) H):=by intro pins s σ H xs us Q I r h;obtain⟨a,kvs,rfl,e,q⟩:=h;obtain⟨u,rfl,ru⟩:=vals1 r;cases ru;exact xY I e λt s' I'=>⟨.int _,H,I',⟨t,rfl⟩,q⟩
def tE:LfC W (tD W.K) vy:=λM C B H xs vs Q n h q=>by
 unfold vy at q;split at q
 .obtain⟨v,r,rfl,⟨p,vs,rfl,_,hl,rr⟩,hr⟩:=h;cases(show _=_ from hr);exact .inl ⟨_,vs.length,rfl,.inl ⟨vs,SqL.of hl,rfl⟩,q _ H (zl.refl _) (by rw[rr.len];rfl)⟩
 .obtain⟨v,r,rfl,⟨p,vs,rfl,hl,rr⟩,hr⟩:=h;cases(show _=_ from hr);exact .inl ⟨_,vs.length,rfl,.inr ⟨vs,hl,rfl⟩,q _ H (zl.refl _) (by rw[rr.len];rfl)⟩
 .obtain⟨v,r,rfl,⟨p,rfl,hl⟩,hr⟩:=h;cases(show _=_ from hr);exact .inl ⟨_,_,rfl,.inl ⟨_,hl.sq,rfl⟩,q _ H (zl.refl _) (by rw[u8];rfl)⟩
 .obtain⟨v,r,rfl,⟨p,es,rfl,_,hl,rr⟩,hr⟩:=h;cases(show _=_ from hr);exact .inr ⟨_,es,rfl,hl,q _ H (zl.refl _) (by rw[rr.len];rfl)⟩
 .split at q
  .rename_i hz;obtain⟨v,r,rfl,hx,hr⟩:=h;cases(show _=_ from hr);cases(show _=_ from hx);exact .inl ⟨_,_,rfl,⟨hz,rfl⟩,q _ H (zl.refl _) rfl⟩
  .exact q.elim
 .exact q.elim
def qR(hg:Gl X "len")(hm:X.mg "len"=none)(ha:AM X C S ws [e] ms)(he:starEach [e] X.env=[(false,eval e X.env)]:=by rfl):EM X C S false (.Call (.Name "len" p) [e] [] pos) (zh vy ms):=
 gJ (r:=tD C.W.K) (λhK=>hK▸gh.or cO) tE hg hm PySem.boot_len ha (he:=he)
def gK:List PV->Out PV
 |[.l xs]=>.ok (.l xs)
 |[.t xs]=>.ok (.l xs)
 |[.sc xs]=>.ok (.l (xs.map PV.i))
 |_=>.wall
def Jw(r:zy W M H xs vs)(hl:H l=none):RFr W M H (upd H l (.lst vs)) (.l xs) (.ref l):=
 ⟨l,rfl,hl,vs,zb,(r.sub λa m n=>⟨m,λz=>n (z▸hl)⟩).same (zl.upd hl)⟩
def nK(r:yE W M H xs vs)(hl:H l=none):RFr W M H (upd H l (.dK vs)) (.d xs) (.ref l):=
 ⟨l,rfl,hl,vs,zb,(r.sub λa m n=>⟨m,λz=>n (z▸hl)⟩).same (zl.upd hl)⟩
def nM:LfF W (λxs H Q=>∃p ys,xs=[.ref p]/\(SqL W.K H p ys\/SqT W.K H p ys)/\∀l,H l=none->Q (.ref l) (upd H l (.lst ys))) gK:=λM C B H xs vs Q n h q=>by
 unfold gK at q;split at q
 .obtain⟨v,r,rfl,⟨p,vs,rfl,_,hl,rr⟩,hr⟩:=h;cases(show _=_ from hr);exact⟨p,vs,rfl,.inl (SqL.of hl),λl hl=>q _ _ (zl.upd hl) (Jw rr hl)⟩
 .obtain⟨v,r,rfl,⟨p,vs,rfl,hl,rr⟩,hr⟩:=h;cases(show _=_ from hr);exact⟨p,vs,rfl,.inr hl,λl hl=>q _ _ (zl.upd hl) (Jw rr hl)⟩
 .obtain⟨v,r,rfl,⟨p,rfl,hl⟩,hr⟩:=h;cases(show _=_ from hr);exact⟨p,_,rfl,.inl hl.sq,λl hl=>q _ _ (zl.upd hl) (Jw zy.ints hl)⟩
 .exact q.elim
def toI:PV->Option Int
 |.i a=>some a
 |_=>none
def lR:List PV->Option (List Int)
 |[]=>some []
 |x::r=>match toI x,lR r with|some a,some b=>some (a::b)|_,_=>none
def cP{W:RC}{M:Cd}{H:Hp}:∀{xs:Cy}{vs:Ck}{ns:CC},zy W M H xs vs->lR xs=some ns->vs=ns.map V.int
 |[],_,_,h,e=>by cases(show _=_ from h);cases e;rfl
 |x::xs,_,ns,h,e=>by
  obtain⟨v,r,rfl,h1,h2⟩:=h;unfold lR at e;cases x with
  |i a=>
   cases hr:lR xs with
   |none=>rw[hr]at e;cases e
   |some b=>rw[hr]at e;cases e;rw[C8,<- cP h2 hr,(show v=_ from h1)]
  |_=>cases e
section
variable {X:Cx}{C:LC}{S:Cb}{e a b:Co}{es:Ci}{w w1 w2:Bool}{ws:Cj}{m m1 m2:ME}{ms:MA}{pos p:Pos}
end
def vF(W:RC)(M:Cd)(H:Hp):List Bool->List PV->List V->Prop
 |[],xs,vs=>xs=[]/\vs=[]
 |w::ws,xs,vs=>∃x v xr vr,xs=x::xr/\vs=v::vr/\zT W (if w=true then λ_=>True else M) M H x v/\vF W M H ws xr vr
def RVs.args{C:LC}{B:Bs}{S:Cb}{P:Cm}{H:Hp}:∀{ws:Cj}{xs:Cy}{vs:Ck},RVs C B S P H ws xs vs->vF C.W (Mof B S P) H ws xs vs
 |[],_,_,h=>h
 |w::ws,_,_,⟨x,v,xr,vr,e1,e2,h1,h2⟩=>⟨x,v,xr,vr,e1,e2,h1,RVs.args h2⟩
def vF.len{W:RC}{M:Cd}{H:Hp}:∀{ws:Cj}{xs:Cy}{vs:Ck},vF W M H ws xs vs->vs.length=ws.length/\xs.length=ws.length
 |[],_,_,⟨e1,e2⟩=>by subst e1;subst e2;exact⟨rfl,rfl⟩
 |w::ws,_,_,⟨x,v,xr,vr,e1,e2,h1,h2⟩=>by subst e1;subst e2;exact⟨by rw[B0,B0,(vF.len h2).1],by rw[B0,B0,(vF.len h2).2]⟩
def RtV(W:RC)(fr:Bool)(M:Cd)(H H2:Hp)(r:PV)(v:V):Prop:=if fr=true then RFr W (λa=>M a\/H a=none) H H2 r v else Rep W (λa=>M a\/H a=none) H2 r v
def Ag(W:RC)(fr:Bool)(M:Cd)(H:Hp)(Q:VK)(E:XK):Out PV->Prop
 |.ok r=>∀v H2,zl H H2->RtV W fr M H H2 r v->Q v H2
 |.exc c fs=>∀e dx es H2,zl H H2->H2 e=some (XC e (W.cls c) dx)->H2 dx=some (XD dx es)->vo W (λa=>M a\/H a=none) H2 fs es->E (.ref e) (some dx) H2
 |.wall=>False
def lsp(W:RC)(fr:Bool)(ws:Cj)(g:Cw):Sp:=λvs H Q E=>∃M xs,vF W M H ws xs vs/\Ag W fr M H Q E (g xs)
def nN{W:RC}{fr:Bool}{ws:Cj}{g:Cw}{n:Nat}(h:ws.length=n):∀vs H Q E,lsp W fr ws g vs H Q E->vs.length=n:=λvs H Q E ⟨M,xs,a,_⟩=>a.len.1.trans h
def RFr.sub(h:RFr W M H H2 x v)(s:∀a,M a->M' a):RFr W M' H H2 x v:=by obtain⟨p,e,hp,h⟩:=h;exact⟨p,e,hp,h.gen rfl Fr.refl λa m _=>⟨s a m.1,m.2⟩⟩
section
variable {X:Cx}{C:LC}{S:Cb}{e a b o:Co}{es:Ci}{w w1 w2 fr:Bool}{ws:Cj}{m m1 m2:ME}{ms:MA}{pos p ky:Pos}{x mn:Str}{k:Nat}{f:Addr}{fd:CA}{ps:Cn}{g:Cw}
def cQ(R:Rel C.W B S P H σ ρ)(q:XPo C B c fs):∀e dx es H2,zl H H2->H2 e=some (XC e (C.W.cls c) dx)->H2 dx=some (XD dx es)->vo C.W (λa=>Mof B S P a\/H a=none) H2 fs es->C.E (.ref e) (some dx) H2:=
 λe dx es H2 s h1 h2 h3=>q e dx es H2 (R.same.trans s) h1 h2 (h3.sub λa m _=>m.elim (λm=>m.1.1) λn=>.inr (zl.none R.same n))
def tF{B:Bs}{P:Cm}{H:Hp}{σ:St}{ρ:Sto}{Q:VK}{o:Out PV}(R:Rel C.W B S P H σ ρ)(q:zE C B H (RV C B S P false) Q o):Ag C.W fr (Mof B S P) H Q C.E o:=by
 have sM:∀a,(Mof B S P a\/H a=none)->Mof B S P a:=λa m=>m.elim id λn=>R.new a n;cases o with
 |ok r=>
  intro v H2 s hr;refine q v H2 s (RV.of ?_);unfold RtV at hr;cases fr with
  |true=>rw[if_pos rfl]at hr;exact(hr.sub sM).rep R.new
  |false=>rw[if_neg C9]at hr;exact hr.sub λa m _=>sM a m
 |exc c fs=>exact cQ R q
 |wall=>exact q
def nO{B:Bs}{P:Cm}{H:Hp}{σ:St}{ρ:Sto}{Q:VK}{o:Out PV}(R:Rel C.W B S P H σ ρ)(q:zE C B H (RFr C.W (Mof B S P) H) Q o):Ag C.W true (Mof B S P) H Q C.E o:=by
 have sM:∀a,(Mof B S P a\/H a=none)->Mof B S P a:=λa m=>m.elim id λn=>R.new a n;cases o with
 |ok r=>intro v H2 s hr;unfold RtV at hr;rw[if_pos rfl]at hr;exact q v H2 s (hr.sub sM)
 |exc c fs=>exact cQ R q
 |wall=>exact q
def nP(F:qQ X.prog X.w X.K X.mg X.base (CXe X.prog X.w) k f fd ps (lsp C.W fr ws g))(hr:jd k X.A)(hg:Gl X x)(hm:X.mg x=some (.ref f))(hk:keepIn X.K (.ref f)=true)(hb:Binds X.K fd ps [])(hx:Passes (CXe X.prog X.w) X C.E)(ha:AM X C S ws (e::es) ms)
  (hdb:(x==("__debug__":Str))=false:=by decide) (he:starEach (e::es) X.env=(false,eval e X.env)::starEach es X.env:=by rfl) (hpl:(backTo pos (starEach es X.env)).any (·.1)=false:=by rfl):EM X C S false (.Call (.Name x p) (e::es) [] pos) (zh g ms):=λhK=>by
 obtain⟨ta,a1,a2⟩:=ha hK;refine⟨_,K6 F hr hg hm hk hb .nil hx a1 hdb he hpl,λB P H σ ρ R Q q=>a2 B P H σ ρ R _ (kQ q λxs vs H1 s1 r1 q1=>?_)⟩;rw[F0];exact⟨_,xs,r1.args,tF (R.keep s1) q1⟩
def Jx(F:qQ X.prog X.w X.K X.mg X.base (CXe X.prog X.w) k f fd ps (lsp C.W true ws g))(hr:jd k X.A)(hg:Gl X x)(hm:X.mg x=some (.ref f))(hk:keepIn X.K (.ref f)=true)(hb:Binds X.K fd ps [])(hx:Passes (CXe X.prog X.w) X C.E)(ha:AM X C S ws (e::es) ms)
  (hdb:(x==("__debug__":Str))=false:=by decide) (he:starEach (e::es) X.env=(false,eval e X.env)::starEach es X.env:=by rfl) (hpl:(backTo pos (starEach es X.env)).any (·.1)=false:=by rfl):FM X C S (.Call (.Name x p) (e::es) [] pos) (zh g ms):=λhK=>by
 obtain⟨ta,a1,a2⟩:=ha hK;refine⟨_,K6 F hr hg hm hk hb .nil hx a1 hdb he hpl,λB P H σ ρ R Q q=>a2 B P H σ ρ R _ (Jv q λxs vs H1 s1 r1 q1=>?_)⟩;rw[F0];exact⟨_,xs,r1.args,nO (R.keep s1) q1⟩
inductive Kd where
 |int|str|bool|none|list|tuple|dict|obj (c:Nat)|exc (c:Nat)
 deriving DecidableEq
def kd:PV->Option Kd
 |.i _=>some .int | .s _=>some .str | .b _=>some .bool | .n=>some .none | .l _=>some .list | .t _=>some .tuple | .d _=>some .dict | .o c _=>some (.obj c) | .x c _=>some (.exc c)
 |.sc _=>Option.none
 |.dt _=>Option.none
def tyK(W:RC):Kd->Value
 |.int=>.type "int" | .str=>.type "str" | .bool=>.type "bool" | .none=>.type "NoneType" | .list=>.type "list" | .tuple=>.type "tuple" | .dict=>.type "dict" | .obj c=>.ref (W.cls c) | .exc c=>.ref (W.cls c)
def xq(W:RC):Kd->Prop
 |.obj c=>Cls W.K (W.cls c)/\findIn W.K (.ref (W.cls c)) "__class__"=some (some (.builtin "object.__class__"))/\specialIn W.K (.builtin "object.__class__") "__get__"=some (some (.builtin "getset_descriptor.__get__"))/\takesIn W.K (.builtin "object.__class__")=some true/\mroIn W.K (W.cls c) (.type "object")=some true
 |.exc c=>Ki W.K (W.cls c)/\XIs W.K (W.cls c)
 |_=>True
def cR(W:RC)(f:Dk):List (Kd×Bool)->Prop
 |[]=>True
 |q::r=>(xq W q.1/\f (tyK W q.1)=some q.2)/\cR W f r
def cR.get{W:RC}{f:Dk}:∀{tab:List (Kd×Bool)}{k:Kd}{b:Bool},cR W f tab->tab.lookup k=some b->xq W k/\f (tyK W k)=some b
 |[],_,_,_,h=>by cases h
 |q::r,k,b,t,h=>by
  rw[G8]at h;by_cases e:(k==q.1)=true
  .simp only[e]at h;cases h;rw[F9.mp e];exact t.1
  .simp only[e]at h;exact cR.get t.2 h
def p0(tab:List (Kd×Bool))(x:PV):Out PV:=vp (((kd x).bind λk=>tab.lookup k).map PV.b)
def BS(W:RC)(f:Dk)(cv:V):List V->Hp->VK->Prop:=λvs H Q=>∃(M:Cd)(x:PV)(v:V)(k:Kd)(b:Bool),vs=[v,cv]/\zT W (λ_=>True) M H x v/\kd x=some k/\xq W k/\f (tyK W k)=some b/\Q (.bl b) H
def tG{pins:Ca}{σ:St}{H:Hp}{s:Ce}{W:RC}{N M:Cd}{x:PV}{v:V}{u:Value}{k:Kd}(hK:X.K=W.K)(I:Inv X pins σ H s)(h:zT W N M H x v)(ru:RelV v u)(hk:kd x=some k)(ok:xq W k):∃P,KitX X.K u (tyK W k) P/\P s.heap/\u≠.builtin "__main__.__loader__#opaque":=by
 cases x with
 |i a=>cases hk;exact Xy I ru (.inl (by rw[(show v=_ from h)];exact .int a))
 |s a=>cases hk;exact Xy I ru (.inl (by rw[(show v=_ from h)];exact .str a))
 |b a=>cases hk;exact Xy I ru (.inl (by rw[(show v=_ from h)];exact .bl a))
 |n=>cases hk;exact Xy I ru (.inl (by rw[(show v=_ from h)];exact .non))
 |l a=>cases hk;obtain⟨p,vs,rfl,_,hl,_⟩:=h;exact Xy I ru (.inl (.lst hl))
 |t a=>cases hk;obtain⟨p,vs,rfl,hl,_⟩:=h;cases(show u=Value.ref p from ru);rw[<- hK]at hl;obtain⟨its,_,⟨o,h1,h2,_⟩,_⟩:=I.tuple hl;exact⟨_,kitx_tuple,⟨o,h1,h2⟩,λz=>nomatch z⟩
 |d a=>cases hk;obtain⟨p,vs,rfl,_,hl,_⟩:=h;cases(show u=Value.ref p from ru);obtain⟨_,_,ws,_,dd⟩:=vD I.hok hl;obtain⟨o,es,ep,h1,h2,_⟩:=dd;exact⟨_,kitx_dict,⟨o,h1,h2.1⟩,λz=>nomatch z⟩
 |o c a=>cases hk;obtain⟨p,dx,es,rfl,_,hl,_⟩:=h;obtain⟨o1,o2,o3,o4,o5⟩:=ok;rw[<- hK]at o1 o2 o3 o4 o5;exact Xy I ru (.inl (.ins hl o1 o2 o3 o4 o5))
 |x c a=>cases hk;obtain⟨p,dx,es,rfl,hl,hd,_⟩:=h;obtain⟨o1,o2⟩:=ok;rw[<- hK]at o1 o2;exact Xy I ru (.inr ⟨p,_,dx,es,rfl,rfl,o1,o2,.inl hl,hd⟩)
 |sc a=>cases hk
 |dt a=>cases hk
def gL(hK:X.K=W.K)(hc:x9 cv=some cl):ZG X (.builtin "isinstance") (BS W (λt=>kitOne W.K t cl) cv):=by intro pins s σ H xs us Q I r h;obtain⟨M,x,v,k,b,rfl,hx,hk,ok,hb,q⟩:=h;obtain⟨u,c,rfl,rx,rc⟩:=vals2 r;obtain⟨P,kx,hP,hne⟩:=tG hK I hx rx hk ok;rw[gC rc hc];rw[<- hK]at hb;exact kia_one kx I.kIn hP hb hne λtk=>⟨.bl b,H,I.tok _,rfl,q⟩
def cS(hg:Gl X "isinstance")(hm:X.mg "isinstance"=none)(h:EM X C S w e m)(hc:PE X ce (tC cv))(hcl:x9 cv=some cl)(tb:cR C.W (λt=>kitOne C.W.K t cl) tab)
  (he:starEach [e,ce] X.env=[(false,eval e X.env),(false,eval ce X.env)]:=by rfl) (he2:starEach [ce] X.env=[(false,eval ce X.env)]:=by rfl):EM X C S false (.Call (.Name "isinstance" p) [e,ce] [] pos) (mUn (p0 tab) m):=λhK=>by
 obtain⟨te,a1,a2⟩:=h hK;refine⟨_,Uz (gL hK hcl) hg hm PyProof.Rows.boot_isinstance (ZH a1 (ZH hc KA he2) (by rw[he,he2])) (by decide) (by decide) (by rw[he,he2]) (by rw[he2];rfl),λB P H σ ρ R Q q=>a2 B P H σ ρ R _ (yx q λx v H1 s1 r1 q1=>?_)⟩;obtain⟨z,ez,q1⟩:=qc q1;obtain⟨b,hb,rfl⟩:=v4.mp ez;obtain⟨k,hk,hb⟩:=E6.mp hb;obtain⟨ok,hv⟩:=tb.get hb;exact⟨_,x,v,k,b,rfl,r1.weak,hk,ok,hv,q1 _ H1 (zl.refl _) (RV.of rfl)⟩
abbrev MO:=Sto->Out (Option Int)
def LO(C:LC)(S:Cb)(to:TO)(m:MO):Prop:=∀B P H σ ρ,Rel C.W B S P H σ ρ->∀Q:Option Int->Hp->Prop,(match m ρ with | .ok r=>∀H2,zl H H2->Q r H2 | .exc c fs=>XPo C B c fs | .wall=>False)->to σ H Q
def OM(X:Cx)(C:LC)(S:Cb)(e:Dj)(m:MO):Prop:=X.K=C.W.K->∃to,PO X e to/\LO C S to m
def p4:MO:=λ_=>.ok none
def asI:PV->Out (Option Int)
 |.i a=>.ok (some a)
 |_=>.wall
def Jy(m:ME):MO:=λρ=>(m ρ).bind asI
def XM:OM X C S none p4:=λ_=>⟨_,m8,λB P H σ ρ R Q q=>q H (zl.refl _)⟩
def ZJ(h:EM X C S w e m):OM X C S (some e) (Jy m):=λhK=>by
 obtain⟨te,a1,a2⟩:=h hK;refine⟨_,m9 a1,λB P H σ ρ R Q q=>a2 B P H σ ρ R _ ?_⟩;unfold Jy at q;revert q;cases m ρ with
 |ok x=>
  intro q v H2 s r;cases x with
  |i a=>exact⟨a,r,q H2 s⟩
  |_=>exact q.elim
 |exc c fs=>exact id
 |wall=>exact id
def XN{α:Type}(xs:List α)(lo hi:CU):List α:=(xs.drop (HT.sIx xs.length 0 lo)).take (HT.sIx xs.length xs.length hi-HT.sIx xs.length 0 lo)
def pSl:PV->Option Int->Option Int->Out PV
 |.l xs,lo,hi=>.ok (.l (XN xs lo hi))
 |.sc ns,lo,hi=>.ok (.l ((XN ns lo hi).map PV.i))
 |.s z,lo,hi=>if z.length<=sizeLine then .ok (.s (Txt.slice z lo hi))else .wall
 |_,_,_=>.wall
def mSl(pp:PV->Option Int->Option Int->Out PV)(m:ME)(lo hi:MO):ME:=λρ=>(m ρ).bind λx=>(lo ρ).bind λl=>(hi ρ).bind λh=>pp x l h
def gM{ns:CC}{lo hi:CU}:lh (ns.map V.int) lo hi=(XN ns lo hi).map V.int:=by unfold lh XN;rw[u8,List.map_take,List.map_drop]
variable {lo hi:Dj}{ml mh:MO}{p2:Pos}
def Z8(h:EM X C S w e m)(hl:OM X C S lo ml)(hh:OM X C S hi mh):EM X C S false (.Subscript e (.Slice lo hi none p2) pos) (mSl pSl m ml mh):=λhK=>by
 obtain⟨te,a1,a2⟩:=h hK;obtain⟨tl,b1,b2⟩:=hl hK;obtain⟨th,c1,c2⟩:=hh hK;refine⟨_,gi (ng.or sH) a1 b1 c1,λB P H σ ρ R Q q=>a2 B P H σ ρ R _ (yx q λx v H1 s1 r1 q1=>b2 B P H1 σ ρ (R.keep s1) _ ?_)⟩;revert q1;cases ml ρ with
 |exc c fs=>exact id
 |wall=>exact id
 |ok l=>
  intro q1 H2 s2;refine c2 B P H2 σ ρ ((R.keep s1).keep s2) _ ?_;have q1:zE C B H1 (RV C B S P false) Q ((mh ρ).bind λh=>pSl x l h):=q1;have q1:=YZ q1 s2;revert q1;cases mh ρ with
  |exc c fs=>exact id
  |wall=>exact id
  |ok h=>
   intro q1 H3 s3;have q1:=YZ (o:=pSl x l h) q1 s3;have r3:=(r1.same s2).same s3;have N3:=(((R.keep s1).keep s2).keep s3).new;cases x with
   |l xs=>obtain⟨p,vs,rfl,_,hp,rr⟩:=r3;exact .inl ⟨p,vs,rfl,SqL.of hp,λz hz=>q1 _ _ (zl.upd hz) (RV.of ((Jw rr.cut hz).rep N3))⟩
   |sc ns=>obtain⟨p,rfl,hp⟩:=r3;exact .inl ⟨p,_,rfl,hK▸hp.sq,λz hz=>q1 _ _ (zl.upd hz) (by rw[gM];exact RV.of ((Jw zy.ints hz).rep N3))⟩
   |s z=>
    unfold pSl at q1;by_cases hz:z.length<=sizeLine
    .simp only[hz,if_true]at q1;exact .inr ⟨z,r3,hz,q1 _ H3 (zl.refl _) (RV.of rfl)⟩
    .simp only[hz,if_false]at q1;exact q1.elim
   |_=>exact q1.elim
end
def nQ(C:LC)(B:Bs)(H:Hp)(x:PV)(v:V):Prop:=if C.fr=true then RFr C.W B.Mt B.H0 H x v else Rep C.W B.Mt H x v
def w8(C:LC)(B:Bs)(S' Sb Sc:Cb)(D:Ends):Out Fw->Prop
 |.ok (.nx ρ')=>∀P' H' σ',Rel C.W B S' P' H' σ' ρ'->D.nx σ' H'
 |.ok (.rt x)=>∀v H',zl B.H0 H'->nQ C B H' x v->D.rt v H'
 |.ok (.bk ρ')=>∀P' H' σ',Rel C.W B Sb P' H' σ' ρ'->D.bk σ' H'
 |.ok (.ct ρ')=>∀P' H' σ',Rel C.W B Sc P' H' σ' ρ'->D.ct σ' H'
 |.exc c fs=>XPo C B c fs
 |.wall=>False
def LS(C:LC)(S S' Sb Sc:Cb)(ts:TS)(m:MS):Prop:=∀B P H σ ρ,Rel C.W B S P H σ ρ->∀D,w8 C B S' Sb Sc D (m ρ)->ts D σ H
def SM(X:Cx)(C:LC)(S S' Sb Sc:Cb)(st:CV)(m:MS):Prop:=X.K=C.W.K->∃ts,PS X st ts/\LS C S S' Sb Sc ts m
def SsM(X:Cx)(C:LC)(S S' Sb Sc:Cb)(st:CQ)(m:MS):Prop:=X.K=C.W.K->∃ts,PSs X st ts/\LS C S S' Sb Sc ts m
def vz:MS:=λρ=>.ok (.nx ρ)
def y9(a b:MS):MS:=λρ=>(a ρ).bind λf=>match f with
 |.nx ρ'=>b ρ'
 |.rt x=>.ok (.rt x)
 |.bk ρ'=>.ok (.bk ρ')
 |.ct ρ'=>.ok (.ct ρ')
def qS(i:Nat)(m:ME):MS:=λρ=>(m ρ).bind λx=>.ok (.nx (ρ.set i (some x)))
def QU(m:ME):MS:=λρ=>(m ρ).bind λ_=>.ok (.nx ρ)
def Jz(m:ME):MS:=λρ=>(m ρ).bind λx=>.ok (.rt x)
def sIf(t:MT)(a b:MS):MS:=λρ=>(t ρ).bind λc=>if c=true then a ρ else b ρ
section
variable {X:Cx}{C:LC}{S S' S1 Sb Sc:Cb}{e a b o:Co}{es:Ci}{w w1 w2:Bool}{ws:Cj}{m m1 m2:ME}{ms:MA}{t1:MT}{s1 s2:MS}{pos p pos':Pos}{x:Str}{st:CV}{sts stt:CQ}{i:Nat}
def kC:SsM X C S S Sb Sc [] vz:=λ_=>⟨_,bQ,λB P H σ ρ R D q=>q P H σ R⟩
def tH(h1:LS C S S1 Sb Sc t s1)(h2:LS C S1 S' Sb Sc u s2):LS C S S' Sb Sc (xG t u) (y9 s1 s2):=λB P H σ ρ R D q=>by
 refine h1 B P H σ ρ R _ ?_;unfold y9 at q;revert q;cases s1 ρ with
 |ok f=>
  cases f with
  |nx ρ'=>exact λq P' H' σ' R'=>h2 B P' H' σ' ρ' R' D q
  |rt x=>exact id
  |bk ρ'=>exact id
  |ct ρ'=>exact id
 |exc c fs=>exact id
 |wall=>exact id
def zi(h1:SM X C S S1 Sb Sc st s1)(h2:SsM X C S1 S' Sb Sc sts s2):SsM X C S S' Sb Sc (st::sts) (y9 s1 s2):=λhK=>by obtain⟨t,a1,a2⟩:=h1 hK;obtain⟨u,b1,b2⟩:=h2 hK;exact⟨_,Q2 a1 b1,tH a2 b2⟩
def zo(h1:SM X C S S' Sb Sc st s1):SsM X C S S' Sb Sc [st] s1:=λhK=>by obtain⟨t,a1,a2⟩:=h1 hK;exact⟨_,YX a1,a2⟩
def tI(i:Nat)(h:SsM X C (S.set i 0) S' Sb Sc sts s1)(hi:S[i]?=some 2:=by rfl):SsM X C S S' Sb Sc sts s1:=λhK=>by obtain⟨t,a1,a2⟩:=h hK;exact⟨t,a1,λB P H σ ρ R D q=>a2 B P H σ ρ (R.freeze hi) D q⟩
def lS(h:LE C S false te m):LS C S (S.set i 0) Sb Sc (pW te (Xp i)) (qS i m):=λB P H σ ρ R D q=>by
 refine h B P H σ ρ R _ ?_;unfold qS at q;revert q;cases m ρ with
 |ok x=>exact λq v H2 s r=>q P H2 _ ((R.keep s).set r.rep)
 |exc c fs=>exact id
 |wall=>exact id
def cU(hN:X.N.Nodup)(hi:X.N[i]?=some x)(hx:Loc X.env.scope x)(h:EM X C S false e m)(hs:swapsWith e (some (.Name x pos')) pos.line X.env=pure false:=by rfl)(hf:X.fn x=true\/X.env.scope.names.lookup x=some .local:=by first|exact .inl rfl|exact .inr rfl|assumption):
  SM X C S (S.set i 0) Sb Sc (.Assign [.Name x pos'] e pos) (qS i m):=λhK=>by
 obtain⟨te,a1,a2⟩:=h hK;exact⟨_,bT hN hi hx a1 hs hf,lS a2⟩
def nR(h:LFr C S te m)(hl:i<S.length)(h0:i≠0):LS C S (S.set i 2) Sb Sc (pW te (Xp i)) (qS i m):=λB P H σ ρ R D q=>by
 refine h B P H σ ρ R _ ?_;unfold qS at q;revert q;cases m ρ with
 |ok x=>exact λq v H2 s ⟨p,e,hp,r⟩=>by subst e;exact q _ H2 _ (R.BO s hp hl h0 r)
 |exc c fs=>exact id
 |wall=>exact id
def ZK(hN:X.N.Nodup)(hi:X.N[i]?=some x)(hx:Loc X.env.scope x)(h:FM X C S e m)(hl:i<S.length:=by decide)(h0:i≠0:=by decide)(hs:swapsWith e (some (.Name x pos')) pos.line X.env=pure false:=by rfl)(hf:X.fn x=true\/X.env.scope.names.lookup x=some .local:=by first|exact .inl rfl|exact .inr rfl|assumption):
  SM X C S (S.set i 2) Sb Sc (.Assign [.Name x pos'] e pos) (qS i m):=λhK=>by
 obtain⟨te,a1,a2⟩:=h hK;exact⟨_,bT hN hi hx a1 hs hf,nR a2 hl h0⟩
def Y3(h:EM X C S w e m)(hs:swapsWith e none pos.line X.env=pure false:=by rfl):SM X C S S Sb Sc (.Expr e pos) (QU m):=λhK=>by
 obtain⟨te,a1,a2⟩:=h hK;refine⟨_,Jg a1 hs,λB P H σ ρ R D q=>a2 B P H σ ρ R _ ?_⟩;unfold QU at q;revert q;cases m ρ with
 |ok x=>exact λq v H2 s r=>q P H2 σ (R.keep s)
 |exc c fs=>exact id
 |wall=>exact id
def vG(h:EM X C S false e m)(hf:C.fr=false:=by rfl):SM X C S S' Sb Sc (.Return (some e) pos) (Jz m):=λhK=>by
 obtain⟨te,a1,a2⟩:=h hK;refine⟨_,bR a1,λB P H σ ρ R D q=>a2 B P H σ ρ R _ ?_⟩;unfold Jz at q;revert q;cases m ρ with
 |ok x=>exact λq v H2 s r=>q v H2 (R.same.trans s) (by unfold nQ;rw[hf,if_neg C9];exact r.rep.sub λa m _=>m.1.1)
 |exc c fs=>exact id
 |wall=>exact id
def JA(h:PE X e (V2 i))(hi:S[i]?=some 2:=by rfl)(hf:C.fr=true:=by rfl):SM X C S S' Sb Sc (.Return (some e) pos) (Jz (zd i)):=λhK=>by
 refine⟨_,bR h,λB P H σ ρ R D q=>?_⟩;unfold Jz zd at q;cases hρ:ρ[i]? with
 |none=>rw[hρ]at q;exact q.elim
 |some o=>
  cases o with
  |none=>rw[hρ]at q;exact q.elim
  |some y=>rw[hρ]at q;obtain⟨v,hv,h2,_,_⟩:=R.var i y hρ;obtain⟨rfl,ra⟩:=h2 hi;refine⟨_,hv,q _ H R.same ?_⟩;unfold nQ;rw[if_pos hf];exact⟨P i,rfl,(R.act i hi).1,ra.gen rfl Fr.refl λa m _=>⟨m.1.1,λz=>m.2 i hi z.symm⟩⟩
def Y4(h:TM X C S c t1)(h1:SsM X C S S' Sb Sc sts s1)(h2:SsM X C S S' Sb Sc stt s2):SM X C S S' Sb Sc (.If c sts stt pos) (sIf t1 s1 s2):=λhK=>by
 obtain⟨tt,a1,a2⟩:=h hK;obtain⟨t,b1,b2⟩:=h1 hK;obtain⟨u,c1,c2⟩:=h2 hK;refine⟨_,rF a1 b1 c1,λB P H σ ρ R D q=>a2 B P H σ ρ R _ ?_⟩;unfold sIf at q;revert q;cases t1 ρ with
 |ok k=>
  intro q H2 s;cases k with
  |true=>exact nu (b2 B P H2 σ ρ (R.keep s) D q)
  |false=>exact nq (c2 B P H2 σ ρ (R.keep s) D q)
 |exc c fs=>exact id
 |wall=>exact id
def Rel.at2(R:Rel W B S P H σ ρ)(hi:S[i]?=some 2)(e:ρ[i]?=some (some y)):σ[i]?=some (some (.ref (P i)))/\Kj W (Mof B S P) H (P i) y/\i<ρ.length:=by obtain⟨v,hv,h2,_,_⟩:=R.var i y e;obtain⟨rfl,ra⟩:=h2 hi;exact⟨hv,ra,(C4.mp e).1⟩
def Mof.wr{W:RC}{B:Bs}{P:Cm}{H:Hp}{σ:St}{ρ:Sto}{o:HO}(R:Rel W B S P H σ ρ)(hi:S[i]?=some 2):Fr (Mof B S P) H (upd H (P i) o):=λa q e m=>by
 obtain⟨_,o0,e0,n0⟩:=R.act i hi;have:a≠P i:=λz=>by
  rcases m with m|m
  .exact m.2 i hi z.symm
  .rw[z,e0]at e;cases e;exact n0 m
 rw[zc this];exact e
def tJ(i:Nat)(m:ME):MS:=λρ=>match ρ[i]? with
 |some (some (.l xs))=>(m ρ).bind λy=>if xs.length<sizeLine then .ok (.nx (ρ.set i (some (.l (xs++[y])))))else .wall
 |_=>.wall
def Wq(ho:PE X o (V2 i))(h:EM X C S false e m)(hi:S[i]?=some 2:=by rfl)(V1:attributeBase o "append" X.env (eval o X.env)=eval o X.env:=by rfl)
  (xl:((backTo p (starEach [e] X.env)).all (λx=>!x.1)&&(backToKw p (keywordEach [] X.env)).all (λx=>x.1.isSome)&&decide ([e].length+([]:List Keyword).length+(if([]:List Keyword).isEmpty then 0 else 1)<30))=true:=by rfl)
  (V0:(ky.endLine==p.line)=true:=by rfl) (hs:starEach [e] X.env=[(false,eval e X.env)]:=by rfl) (hsw:swapsWith (.Call (.Attribute o "append" ky) [e] [] p) none pos.line X.env=pure false:=by rfl):
  SM X C S S Sb Sc (.Expr (.Call (.Attribute o "append" ky) [e] [] p) pos) (tJ i m):=λhK=>by
 obtain⟨te,a1,a2⟩:=h hK;refine⟨_,Jg (r_ a0u a1n a1o Jm ho (ZH a1 KA hs) V1 xl V0 hs rfl) hsw,λB P H σ ρ R D q=>?_⟩;unfold tJ at q;split at q
 .rename_i xs hx;obtain⟨hσ,⟨vs,hp,rr⟩,hl⟩:=R.at2 hi hx;refine⟨_,hσ,.inl ⟨rfl,_,SqL.of hp⟩,a2 B P H σ ρ R _ ?_⟩;revert q;cases m ρ with
  |ok y=>
   intro q v H2 s r;have q:w8 C B S Sb Sc D (if xs.length<sizeLine then .ok (.nx (ρ.set i (some (.l (xs++[y])))))else .wall):=q;split at q
   .rename_i hz;have R2:=R.keep s;refine⟨_,vs,v,rfl,rfl,s _ _ hp,by rw[rr.len];exact hz,q P _ σ (R2.wr hi hl hσ (by exact id) ?_)⟩;have f:=Mof.wr (o:=.lst (vs++[v])) R2 hi;exact⟨_,zb,((rr.same s).append (.cons r.rep .nil)).gen f λ_ m _=>m⟩
   .exact q.elim
  |exc c fs=>exact id
  |wall=>exact id
 .exact q.elim
def dput{κ α:Type}[DecidableEq κ](kvs:List (κ×α))(k:κ)(v:α):List (κ×α):=
 if kvs.any (λkv=>decide (kv.1=k))=true then kvs.map (λkv=>if kv.1=k then(kv.1,v)else kv)else kvs++[(k,v)]
end
def yE.put(h:yE W M H a es)(hx:Rep W M H x v):yE W M H (dput a k x) (putK es k v):=by
 have key:∀{a:Cu}{es:Cf},yE W M H a es->a.any (λkv=>decide (kv.1=k))=es.any (λkv=>decide (kv.1=k))/\yE W M H (a.map λkv=>if kv.1=k then(kv.1,x)else kv) (es.map λkv=>if kv.1=k then(kv.1,v)else kv)/\yE W M H (a++[(k,x)]) (es++[(k,v)]):=by
  intro a
  induction a with
  |nil=>intro es h;cases(show _=_ from h);exact⟨rfl,rfl,v,[],rfl,hx,rfl⟩
  |cons kx a ih=>
   intro es h;obtain⟨u,q,rfl,h1,h2⟩:=h;obtain⟨i1,i2,i3⟩:=ih h2;refine⟨by rw[O0,O0,i1],?_,⟨u,_,rfl,h1,i3⟩⟩;rw[C8,C8];by_cases e:kx.1=k
   .rw[if_pos e,if_pos e];exact⟨v,_,rfl,hx,i2⟩
   .rw[if_neg e,if_neg e];exact⟨u,_,rfl,h1,i2⟩
 obtain⟨i1,i2,i3⟩:=key h;unfold dput putK;rw[i1];split
 .exact i2
 .exact i3
section
variable {X:Cx}{C:LC}{S S' S1 Sb Sc:Cb}{e a b o:Co}{es:Ci}{w w1 w2:Bool}{ws:Cj}{m m1 m2:ME}{ms:MA}{t1:MT}{s1 s2:MS}{pos p pos':Pos}{x:Str}{st:CV}{sts stt:CQ}{i:Nat}
def cV(i:Nat)(mk mv:ME):MS:=λρ=>(mv ρ).bind λv=>match ρ[i]? with
 |some (some (.d kvs))=>(mk ρ).bind λy=>match pk y with
  |some k=>if kvs.length<sizeLine then .ok (.nx (ρ.set i (some (.d (dput kvs k v)))))else .wall
  |none=>.wall
 |_=>.wall
def KH(hu:X.A.units+1<cLine)(ho:PE X o (V2 i))(hk:EM X C S w a m1)(hv:EM X C S false e m2)(hi:S[i]?=some 2:=by rfl)(hs:swapsWith e (some (.Subscript o a pos')) pos.line X.env=pure false:=by rfl):
  SM X C S S Sb Sc (.Assign [.Subscript o a pos'] e pos) (cV i m1 m2):=λhK=>by
 obtain⟨ta,a1,a2⟩:=hk hK;obtain⟨tv,b1,b2⟩:=hv hK;refine⟨_,cj hu ho a1 b1 hs,λB P H σ ρ R D q=>b2 B P H σ ρ R _ ?_⟩;unfold cV at q;revert q;cases m2 ρ with
 |ok y=>
  intro q v H1 sm1 rv;have R1:=R.keep sm1;have q:w8 C B S Sb Sc D (match ρ[i]? with
   |some (some (.d kvs))=>(m1 ρ).bind λz=>match pk z with
    |some k=>if kvs.length<sizeLine then .ok (.nx (ρ.set i (some (.d (dput kvs k y)))))else .wall
    |none=>.wall
   |_=>.wall):=q
  split at q
  .rename_i kvs hx;obtain⟨hσ,⟨es,hp,rr⟩,hl⟩:=R1.at2 hi hx;refine⟨_,hσ,a2 B P H1 σ ρ R1 _ ?_⟩;revert q;cases m1 ρ with
   |ok z=>
    intro q u H2 sm2 ru;have R2:=R1.keep sm2;have q:w8 C B S Sb Sc D (match pk z with
     |some k=>if kvs.length<sizeLine then .ok (.nx (ρ.set i (some (.d (dput kvs k y)))))else .wall
     |none=>.wall):=q
    split at q
    .rename_i k hk;split at q
     .rename_i hz;have hp2:=sm2 _ _ hp;refine⟨_,_,rfl,by rw[ba ru.weak hk];exact pZ.k hp2 (by rw[yE.len rr];exact hz),q P _ σ (R2.wr hi hl hσ (by exact id) ?_)⟩;have f:=Mof.wr (o:=.dK (putK es k v)) R2 hi;exact⟨_,zb,((rr.same sm2).put (rv.rep.same sm2)).gen f λ_ m _=>m⟩
     .exact q.elim
    .exact q.elim
   |exc c fs=>exact id
   |wall=>exact id
  .exact q.elim
 |exc c fs=>exact id
 |wall=>exact id
end
section
variable {X:Cx}{C:LC}{S S' S1 Sb Sc:Cb}{e a b o:Co}{es:Ci}{w w1 w2:Bool}{ws:Cj}{m m1 m2:ME}{ms:MA}{t1:MT}{s1 s2:MS}{pos p pos':Pos}{x:Str}{st:CV}{sts stt:CQ}{i:Nat}
abbrev MG:=PV->Sto->Option Sto
def LG(C:LC)(S S':Cb)(g:TG)(mg:MG):Prop:=∀B P H σ ρ x v,Rel C.W B S P H σ ρ->Rep C.W (Mof B S P) H x v->∀Q:St->Hp->Prop,(∃ρ',mg x ρ=some ρ'/\∀σ',Rel C.W B S' P H σ' ρ'->Q σ' H)->g v σ H Q
def GM(X:Cx)(C:LC)(S S':Cb)(tg:Co)(mg:MG):Prop:=X.K=C.W.K->∃g,PG X tg g/\LG C S S' g mg
def gNm(i:Nat):MG:=λx ρ=>some (ρ.set i (some x))
def qN(hN:X.N.Nodup)(hi:X.N[i]?=some x)(hx:Loc X.env.scope x)(hf:X.fn x=true\/X.env.scope.names.lookup x=some .local:=by first|exact .inl rfl|exact .inr rfl|assumption):GM X C S (S.set i 0) (.Name x pos) (gNm i):=
 λ_=>⟨_,bS hN hi hx hf,λB P H σ ρ x v R r Q ⟨ρ',e,k⟩=>by cases e;exact k _ (R.set r)⟩
def NA(B:Bs)(S:Cb)(P:Cm):Addr->Prop:=λa=>¬B.xc a/\∀i,S[i]?=some 2->P i≠a
def p5(W:RC)(M N:Cd)(H2:Hp)(J:It)(xs:Cy):Prop:=∀H',Fr N H2 H'->
 (∀i x,xs[i]?=some x->J.go i H'/\∀v H'',J.yld i H' v H''->zl H' H''/\∀M':Addr->Prop,(∀a,M a->H2 a≠none->M' a)->Rep W M' H'' x v)/\J.stop xs.length H'
abbrev MI:=Sto->Out (List PV)
def NAc(c:Bool)(B:Bs)(S:Cb)(P:Cm):Addr->Prop:=if c=true then λ_=>True else NA B S P
def cW(C:LC)(B:Bs)(S:Cb)(P:Cm)(c:Bool)(H:Hp)(R:It->Hp->Prop):Out (List PV)->Prop
 |.ok xs=>∀J H2,zl H H2->p5 C.W (Mof B S P) (NAc c B S P) H2 J xs->R J H2
 |.exc c fs=>XPo C B c fs
 |.wall=>False
def LI(C:LC)(S:Cb)(c:Bool)(wi:TI)(mi:MI):Prop:=∀B P H σ ρ,Rel C.W B S P H σ ρ->∀R:It->Hp->Prop,cW C B S P c H R (mi ρ)->wi σ H R
def IM(X:Cx)(C:LC)(S:Cb)(c:Bool)(tg yM:Co)(mi:MI):Prop:=X.K=C.W.K->∃wi,PI X tg yM wi/\LI C S c wi mi
def ZL(g:MG)(b:MS):List PV->Sto->Out Fw
 |[],ρ=>.ok (.nx ρ)
 |x::xs,ρ=>(vp (g x ρ)).bind λρ1=>(b ρ1).bind λf=>match f with
  |.nx ρ2=>ZL g b xs ρ2
  |.ct ρ2=>ZL g b xs ρ2
  |.bk ρ2=>.ok (.nx ρ2)
  |.rt v=>.ok (.rt v)
def kN(mi:MI)(g:MG)(b:MS):MS:=λρ=>(mi ρ).bind λxs=>ZL g b xs ρ
end
open Classical in
def Bs.loop(B:Bs)(S:Cb)(P:Cm)(H:Hp)(hz:∀a,B.N0 a->(¬((∃i,S[i]?=some 2/\P i=a)\/B.xc a))/\H a≠none):Bs where
 H0:=λa=>if(∃i,S[i]?=some 2/\P i=a)\/B.xc a then none else H a
 M0:=B.Mt
 N0:=B.N0
 nz:=λa h=>by rw[if_neg (hz a h).1];exact(hz a h).2
 pin:=B.pin
 xc:=B.xc
section
variable {W:RC}{B:Bs}{S S':Cb}{P P':Cm}{H H':Hp}{σ σ':St}{ρ ρ':Sto}
def Rel.hz(R:Rel W B S P H σ ρ):∀a,B.N0 a->(¬((∃i,S[i]?=some 2/\P i=a)\/B.xc a))/\H a≠none:=λa h=>by
 have h0:=B.nz a h;refine⟨λz=>z.elim (λ⟨i,hi,e⟩=>h0 (e▸(R.act i hi).1)) (λz=>h0 (R.exc a z).choose_spec.2.2),λz=>?_⟩;cases q:B.H0 a with
 |none=>exact h0 q
 |some o=>rw[R.same a o q]at z;cases z
def Z9(R:Rel W B S P H σ ρ)(h:(B.loop S P H R.hz).H0 a=none):B.H0 a=none:=by
 cases q:B.H0 a with
 |none=>rfl
 |some o=>have n:¬((∃i,S[i]?=some 2/\P i=a)\/B.xc a):=λz=>z.elim (λ⟨i,hi,e⟩=>by rw[<- e,(R.act i hi).1]at q;cases q) (λz=>by rw[(R.exc a z).choose_spec.2.2]at q;cases q);unfold Bs.loop at h;dsimp only at h;rw[if_neg n,R.same a o q]at h;cases h
def Z_(R:Rel W B S P H σ ρ):zl B.H0 (B.loop S P H R.hz).H0:=λa o h=>by have n:¬((∃i,S[i]?=some 2/\P i=a)\/B.xc a):=λz=>z.elim (λ⟨i,hi,e⟩=>by rw[<- e,(R.act i hi).1]at h;cases h) (λz=>by rw[(R.exc a z).choose_spec.2.2]at h;cases h);unfold Bs.loop;dsimp only;rw[if_neg n];exact R.same a o h
def JB(R:Rel W B S P H σ ρ)(h:(B.loop S P H R.hz).Mt a):B.Mt a:=h.elim id λz=>.inr (Z9 R z)
def Rel.loop(R:Rel W B S P H σ ρ):Rel W (B.loop S P H R.hz) S P H σ ρ:=by
 have sM:∀a,Mof B S P a->H a≠none->Mof (B.loop S P H R.hz) S P a:=λa m _=>⟨⟨.inl m.1.1,m.1.2⟩,m.2⟩;refine⟨λa o h=>?_,R.len,λi x e=>?_,λi hi=>⟨?_,(R.act i hi).2⟩,R.inj,R.pin,λa h=>?_,R.axc⟩
 .unfold Bs.loop at h;dsimp only at h;split at h
  .cases h
  .exact h
 .obtain⟨v,h1,h2,h3,h4⟩:=R.var i x e;exact⟨v,h1,λz=>⟨(h2 z).1,(h2 z).2.gen rfl Fr.refl sM⟩,λz=>(h3 z).sub (λ_ m _=>m) sM,λz z'=>(h4 z z').sub sM⟩
 .unfold Bs.loop;dsimp only;rw[if_pos (.inl ⟨i,hi,rfl⟩)]
 .obtain⟨o,e,n,_⟩:=R.exc a h;exact⟨o,e,n,by unfold Bs.loop;dsimp only;rw[if_pos (.inr h)]⟩
def Rel.Wr(R:Rel W B S P H σ ρ)(R':Rel W (B.loop S P H R.hz) S' P' H' σ' ρ'):Rel W B S' P' H' σ' ρ':=by have sM:∀a,Mof (B.loop S P H R.hz) S' P' a->H' a≠none->Mof B S' P' a:=λa m _=>⟨⟨JB R m.1.1,m.1.2⟩,m.2⟩;refine⟨(Z_ R).trans R'.same,R'.len,λi x e=>?_,λi hi=>⟨Z9 R (R'.act i hi).1,(R'.act i hi).2⟩,R'.inj,R'.pin,λa h=>let⟨o,e,n⟩:=R'.exc a h;⟨o,e,n.1,Z9 R n.2⟩,R'.axc⟩;obtain⟨v,h1,h2,h3,h4⟩:=R'.var i x e;exact⟨v,h1,λz=>⟨(h2 z).1,(h2 z).2.gen rfl Fr.refl sM⟩,λz=>(h3 z).sub (λ_ m _=>m) sM,λz z'=>(h4 z z').sub sM⟩
def nS(R:Rel W B S P H σ ρ)(s:zl (B.loop S P H R.hz).H0 H'):Fr (NA B S P) H H':=λa o h m=>by
 have n:¬((∃i,S[i]?=some 2/\P i=a)\/B.xc a):=λz=>by
  rcases z with⟨i,hi,e⟩|z
  .rcases m with m|m
   .exact m.2 i hi e
   .obtain⟨_,o0,e0,n0⟩:=R.act i hi;rw[e,h]at e0;cases e0;exact n0 m
  .rcases m with m|m
   .exact m.1 z
   .obtain⟨o0,e0,n0,_⟩:=R.exc a z;rw[h]at e0;cases e0;exact n0 m
 refine s a o ?_;unfold Bs.loop;dsimp only;rw[if_neg n];exact h
def UN(hW:C.W=W)(R:Rel W B S P H σ ρ)(q:XPo C B c fs):XPo C (B.loop S P H R.hz) c fs:=λe dx es H2 s h1 h2 h3=>q e dx es H2 ((Z_ R).trans s) h1 h2 (h3.sub λa m _=>JB R m)
def cX(hW:C.W=W)(R:Rel W B S P H σ ρ)(h:nQ C (B.loop S P H R.hz) H' x v):nQ C B H' x v:=by
 unfold nQ at h ⊢;by_cases f:C.fr=true
 .rw[if_pos f]at h ⊢;obtain⟨p,e,hp,r⟩:=h;exact⟨p,e,Z9 R hp,r.gen rfl Fr.refl λa m _=>⟨JB R m.1,m.2⟩⟩
 .rw[if_neg f]at h ⊢;exact h.sub λa m _=>JB R m
end
section
variable {X:Cx}{C:LC}{S S' S1 Sb Sc:Cb}{pos:Pos}
def Ve(hi:∀R:It->Hp->Prop,cW C B S P false H R (mi ρ)->wi σ H R)(hg:LG C S S1 g mg)(hb:LS C S1 S S S tb mb)(R:Rel C.W B S P H σ ρ)(D:Ends)(q:w8 C B S Sb Sc D (kN mi mg mb ρ)):pX wi g tb D σ H:=by
 refine hi _ ?_;unfold kN at q;revert q;cases mi ρ with
 |exc c fs=>exact id
 |wall=>exact id
 |ok xs=>
  intro q J H2 s2 io;have R2:=R.keep s2;have q:w8 C B S Sb Sc D (ZL mg mb xs ρ):=q;refine⟨λi n σ' H'=>n=xs.length-i/\i<=xs.length/\∃ρ' P',Rel C.W (B.loop S P H2 R2.hz) S P' H' σ' ρ'/\w8 C B S Sb Sc D (ZL mg mb (xs.drop i) ρ'),⟨_,rfl,F7 _,ρ,P,R2.loop,q⟩,?_⟩
  rintro i n σ' H' ⟨rfl,hle,ρ',P',R',q'⟩
  have io':=io H' (nS R2 R'.same);by_cases hlt:i<xs.length
  .have hx:xs[i]?=some xs[i]:=B9 hlt;obtain⟨go,yl⟩:=io'.1 i _ hx;refine .inr ⟨go,λσ2 H2'=>i+1<=xs.length/\∃ρ' P',Rel C.W (B.loop S P H2 R2.hz) S P' H2' σ2 ρ'/\w8 C B S Sb Sc D (ZL mg mb (xs.drop (i+1)) ρ'),λσ2 H2' h=>⟨xs.length-(i+1),by omega,rfl,h.1,h.2⟩,λv H'' hy=>?_⟩;obtain⟨sy,ry⟩:=yl v H'' hy;have Ry:=R'.keep sy;have rx:=ry (Mof (B.loop S P H2 R2.hz) S P') λa m hn=>⟨⟨.inl m.1.1,m.1.2⟩,λj hj e=>by
    have z:=(R'.act j hj).1;rw[e]at z;unfold Bs.loop at z;dsimp only at z;rw[if_neg (λz=>z.elim (λ⟨k,hk,ek⟩=>m.2 k hk ek) m.1.2)]at z;exact hn z⟩
   rw[O7 hlt]at q';have q':w8 C B S Sb Sc D ((vp (mg xs[i] ρ')).bind λρ1=>(mb ρ1).bind λf=>match f with
    |.nx ρ2=>ZL mg mb (xs.drop (i+1)) ρ2
    |.ct ρ2=>ZL mg mb (xs.drop (i+1)) ρ2
    |.bk ρ2=>.ok (.nx ρ2)
    |.rt v=>.ok (.rt v)):=q'
   cases hgx:mg xs[i] ρ' with
   |none=>rw[hgx]at q';exact q'.elim
   |some ρ1=>
    rw[hgx]at q';refine hg _ P' H'' σ' ρ' _ v Ry rx _ ⟨ρ1,hgx,λσ1 R1=>hb _ P' H'' σ1 ρ1 R1 _ ?_⟩;have q':w8 C B S Sb Sc D ((mb ρ1).bind λf=>match f with
     |.nx ρ2=>ZL mg mb (xs.drop (i+1)) ρ2
     |.ct ρ2=>ZL mg mb (xs.drop (i+1)) ρ2
     |.bk ρ2=>.ok (.nx ρ2)
     |.rt v=>.ok (.rt v)):=q'
    revert q';cases mb ρ1 with
    |exc c fs=>exact λq'=>UN rfl R2 q'
    |wall=>exact id
    |ok f=>
     cases f with
     |nx ρ2=>exact λq' P3 H3 σ3 R3=>⟨hlt,ρ2,P3,R3,q'⟩
     |ct ρ2=>exact λq' P3 H3 σ3 R3=>⟨hlt,ρ2,P3,R3,q'⟩
     |bk ρ2=>exact λq' P3 H3 σ3 R3=>q' P3 H3 σ3 (R2.Wr R3)
     |rt x=>exact λq' v H3 s3 h3=>q' v H3 ((Z_ R2).trans s3) (cX rfl R2 h3)
  .have e:i=xs.length:=by omega
   subst e;rw[a0A]at q';exact .inl ⟨io'.2,q' P' H' σ' (R2.Wr R')⟩
def tK(hi:LI C S false wi mi)(hg:LG C S S1 g mg)(hb:LS C S1 S S S tb mb):LS C S S Sb Sc (pX wi g tb) (kN mi mg mb):=λB P H σ ρ R D q=>Ve (hi B P H σ ρ R) hg hb R D q
def Ya(hp:PassesOwn (Du X) X.A X.env X.xe)(hc:X.calm=true)(hi:IM X C S false tg yM mi)(hg:GM X C S S1 tg mg)(hb:SsM X C S1 S S S body mb)(hs:∀x,foldedSetIterable yM X.env x=pure x:=by intro _;rfl):
  SM X C S S Sb Sc (.For tg yM body [] pos) (kN mi mg mb):=λhK=>by
 obtain⟨wi,a1,a2⟩:=hi hK;obtain⟨g,b1,b2⟩:=hg hK;obtain⟨tb,c1,c2⟩:=hb hK;exact⟨_,Kz hp hc a1 b1 c1 hs,tK a2 b2 c2⟩
def yn(c:MT)(b:MS):Nat->Sto->Out Fw
 |0,_=>.wall
 |n+1,ρ=>(c ρ).bind λt=>if t=true then(b ρ).bind λf=>match f with
   |.nx ρ2=>yn c b n ρ2
   |.ct ρ2=>yn c b n ρ2
   |.bk ρ2=>.ok (.nx ρ2)
   |.rt v=>.ok (.rt v)
  else .ok (.nx ρ)
open Classical in
def JC(c:MT)(b:MS):MS:=λρ=>if h:∃n,yn c b n ρ≠.wall then yn c b (choose h) ρ else .wall
def gN(hc:LT C S tc c)(hb:LS C S S S S tb b):LS C S S Sb Sc (i8 tc tb) (JC c b):=λB P H σ ρ R D q=>by
 unfold JC at q;split at q
 .rename_i h;generalize Classical.choose h=n0 at q;refine⟨λn σ' H'=>∃ρ' P',Rel C.W B S P' H' σ' ρ'/\w8 C B S Sb Sc D (yn c b n ρ'),⟨n0,ρ,P,R,q⟩,?_⟩
  rintro n σ' H' ⟨ρ',P',R',q'⟩
  cases n with
  |zero=>exact q'.elim
  |succ n=>
   refine hc B P' H' σ' ρ' R' _ ?_;unfold yn at q';revert q';cases c ρ' with
   |exc c fs=>exact id
   |wall=>exact id
   |ok k=>
    intro q' H1 s1;cases k with
    |false=>exact nq (q' P' H1 σ' (R'.keep s1))
    |true=>
     refine nu ⟨λσ2 H2=>∃ρ' P',Rel C.W B S P' H2 σ2 ρ'/\w8 C B S Sb Sc D (yn c b n ρ'),λσ2 H2 h=>⟨n,P6 n,h⟩,hb B P' H1 σ' ρ' (R'.keep s1) _ ?_⟩;have q':w8 C B S Sb Sc D ((b ρ').bind λf=>match f with
      |.nx ρ2=>yn c b n ρ2
      |.ct ρ2=>yn c b n ρ2
      |.bk ρ2=>.ok (.nx ρ2)
      |.rt v=>.ok (.rt v)):=q'
     revert q';cases b ρ' with
     |exc c fs=>exact id
     |wall=>exact id
     |ok f=>
      cases f with
      |nx ρ2=>exact λq' P3 H3 σ3 R3=>⟨ρ2,P3,R3,q'⟩
      |ct ρ2=>exact λq' P3 H3 σ3 R3=>⟨ρ2,P3,R3,q'⟩
      |bk ρ2=>exact λq'=>q'
      |rt x=>exact λq'=>q'
 .exact q.elim
def UO(hp:PassesOwn (Du X) X.A X.env X.xe)(hc:TM X C S c mc)(hb:SsM X C S S S S body mb):SM X C S S Sb Sc (.While c body [] pos) (JC mc mb):=λhK=>by obtain⟨tc,a1,a2⟩:=hc hK;obtain⟨tb,c1,c2⟩:=hb hK;exact⟨_,gc hp a1 c1,gN a2 c2⟩
end
def LEn(C:LC)(S:Cb)(te:TE)(m:ME):Prop:=∀B P H σ ρ,Rel C.W B S P H σ ρ->∀Q,zE C B H (λH2=>zT C.W (NA B S P) (Mof B S P) H2) Q (m ρ)->te σ H Q
def EN(X:Cx)(C:LC)(S:Cb)(e:Co)(m:ME):Prop:=X.K=C.W.K->∃te,PE X e te/\LEn C S te m
section
variable {X:Cx}{C:LC}{S S' S1 Sb Sc:Cb}{e a b o yM tg:Co}{es:Ci}{w w1 w2:Bool}{ws:Cj}{m m1 m2:ME}{ms:MA}{t1:MT}{s1 s2:MS}{pos p pos':Pos}{x:Str}{st:CV}{sts stt:CQ}{i:Nat}
def Mof.na{B:Bs}{P:Cm}{a:Addr}(m:Mof B S P a):NA B S P a:=⟨m.1.2,m.2⟩
def EM.en(h:EM X C S false e m):EN X C S e m:=λhK=>by obtain⟨te,a1,a2⟩:=h hK;exact⟨te,a1,λB P H σ ρ R Q q=>a2 B P H σ ρ R Q (vE q λx v H2 s hr=>zT.sub hr (λa m _=>Mof.na m) λ_ m _=>m)⟩
def lT(h:PE X e (V2 i))(hS:S[i]?=some 1:=by rfl):EN X C S e (zd i):=λ_=>⟨_,h,λB P H σ ρ R Q q=>lv R q λx v hv e=>by
 obtain⟨v',hv',_,h3,_⟩:=R.var i x e;rw[hv]at hv';cases hv';refine zT.sub (h3 hS) (λa n _=>?_) λ_ m _=>m;have h0:=B.nz a n;exact⟨λz=>h0 (R.exc a z).choose_spec.2.2,λj hj e=>h0 (e▸(R.act j hj).1)⟩⟩
def Bh(K:CO)(tl:TE):TI:=λσ H R=>tl σ H λx H1=>(∃a,x=.ref a/\(∃xs,SqL K H1 a xs)/\R (Itl K a) H1)\/∃a,x=.ref a/\(∃xs,SqT K H1 a xs)/\R (Itt K a) H1
def cY(hl:PE X l tl):PI X tg l (Bh X.K tl):=by
 intro pins s σ H R I h;refine thn (hl pins s σ H _ I h) λv s1 ⟨x,H1,I1,r1,q1⟩=>?_;rcases q1 with⟨a,e,⟨xs,hq⟩,q⟩|⟨a,e,⟨xs,hq⟩,q⟩
 .subst e;cases r1;obtain⟨its,rv,p,hz⟩:=I1.list hq;refine wpAny_pyIter_list p.isList ?_;refine⟨s1.heap.objs.size,[s1.heap.objs.size],_,_,H1,rfl,I1.kept (t':=s1.toks) λb o e=>B6 _ e,bU a _,⟨_,E2 _ rfl,rfl,rfl⟩,λb hb=>?_,q⟩;have e:b=s1.heap.objs.size:=by simpa using hb
  subst e;exact I1.rJ (B7 _) (I1.hok.fresh (B7 _))
 .subst e;cases r1;obtain⟨its,rv,p,hz⟩:=I1.tuple hq;refine wpAny_pyIter_tuple (show s1.heap.IsTuple a its.toArray from p) ?_;refine⟨s1.heap.objs.size,[s1.heap.objs.size],_,_,H1,rfl,I1.kept (t':=s1.toks) λb o e=>B6 _ e,aM a _,⟨_,E2 _ rfl,rfl,rfl⟩,λb hb=>?_,q⟩;have e:b=s1.heap.objs.size:=by simpa using hb
  subst e;exact I1.rJ (B7 _) (I1.hok.fresh (B7 _))
def cZ{W:RC}{K:CO}{M N:Cd}{H2:Hp}{a:Addr}{xs:Cy}{vs:Ck}(hMN:∀a,M a->N a)(h:∀H',Fr N H2 H'->SqL K H' a vs)(r:zy W M H2 xs vs):p5 W M N H2 (Itl K a) xs:=λH' f=>by refine⟨λi x hx=>?_,vs,h H' f,by rw[r.len];exact B7 _⟩;obtain⟨v,hv,rv⟩:=r.get hx;refine⟨⟨vs,v,h H' f,hv⟩,λv' H'' hy=>?_⟩;obtain⟨rfl,y⟩:=hy;have:=y vs (h _ f);rw[hv]at this;cases this;exact⟨zl.refl _,λM' sM=>Rep.gen (λa o h m=>f a o h (m.imp (hMN a) id)) (λa m n=>sM a m n) rv⟩
def tL{W:RC}{K:CO}{M N:Cd}{H2:Hp}{a:Addr}{xs:Cy}{vs:Ck}(hMN:∀a,M a->N a)(h:∀H',Fr N H2 H'->SqT K H' a vs)(r:zy W M H2 xs vs):p5 W M N H2 (Itt K a) xs:=λH' f=>by refine⟨λi x hx=>?_,vs,h H' f,by rw[r.len];exact B7 _⟩;obtain⟨v,hv,rv⟩:=r.get hx;refine⟨⟨vs,v,h H' f,hv⟩,λv' H'' hy=>?_⟩;obtain⟨rfl,y⟩:=hy;have:=y vs (h _ f);rw[hv]at this;cases this;exact⟨zl.refl _,λM' sM=>Rep.gen (λa o h m=>f a o h (m.imp (hMN a) id)) (λa m n=>sM a m n) rv⟩
def items:PV->Out (List PV)
 |.l xs=>.ok xs
 |.t xs=>.ok xs
 |.sc ns=>.ok (ns.map PV.i)
 |_=>.wall
def yy(m:ME):MI:=λρ=>(m ρ).bind items
variable {cc:Bool}
def Mof.nac{B:Bs}{P:Cm}{a:Addr}(m:Mof B S P a):NAc cc B S P a:=by
 unfold NAc;cases cc with
 |true=>rw[if_pos rfl];trivial
 |false=>rw[if_neg C9];exact Mof.na m
def c5(hK:X.K=C.W.K)(a2:∀B P H σ ρ,Rel C.W B S P H σ ρ->∀Q,zE C B H (λH2=>zT C.W (NAc cc B S P) (Mof B S P) H2) Q (m ρ)->te σ H Q):LI C S cc (Bh X.K te) (yy m):=λB P H σ ρ R Q q=>by
 refine a2 B P H σ ρ R _ ?_;unfold yy at q;revert q;cases m ρ with
 |exc c fs=>exact id
 |wall=>exact id
 |ok y=>
  intro q v H2 s r;cases y with
  |l xs=>obtain⟨p,vs,rfl,n,hp,rr⟩:=r;exact .inl ⟨p,rfl,⟨vs,SqL.of hp⟩,q _ H2 s (cZ (λa m=>Mof.nac m) (λH' f=>SqL.of (f _ _ hp (.inl n))) rr)⟩
  |t xs=>obtain⟨p,vs,rfl,hp,rr⟩:=r;rw[<- hK]at hp;exact .inr ⟨p,rfl,⟨vs,hp⟩,q _ H2 s (tL (λa m=>Mof.nac m) (λH' f=>f.sqT hp) rr)⟩
  |sc ns=>obtain⟨p,rfl,hp⟩:=r;rw[<- hK]at hp;exact .inl ⟨p,rfl,⟨_,hp.sq⟩,q _ H2 s (cZ (vs:=ns.map V.int) (λa m=>Mof.nac m) (λH' f=>(hp.frame f).sq) zy.ints)⟩
  |_=>exact q.elim
def JD(h:EN X C S e m):IM X C S false tg e (yy m):=λhK=>by obtain⟨te,a1,a2⟩:=h hK;exact⟨_,cY a1,c5 hK a2⟩
def c6(h:EM X C S w e m):IM X C S true tg e (yy m):=λhK=>by obtain⟨te,a1,a2⟩:=h hK;exact⟨_,cY a1,c5 hK λB P H σ ρ R Q q=>a2 B P H σ ρ R Q (vE q λx v H2 s r=>r.weak)⟩
def Q3(lo:Int)(n:Nat):List PV:=(List.range n).map λk=>.i (lo+(k:Nat))
def nT{lo:Int}{n i:Nat}{x:PV}(h:(Q3 lo n)[i]?=some x):i<n/\x=.i (lo+i):=by unfold Q3 at h;rw[D5]at h;obtain⟨k,hk,rfl⟩:=v4.mp h;rw[C4]at hk;obtain⟨h1,h2⟩:=hk;rw[D6]at h1;rw[O6]at h2;subst h2;exact⟨h1,rfl⟩
def nU{lo:Int}{n:Nat}:(Q3 lo n).length=n:=by unfold Q3;rw[u8,D6]
def lU{W:RC}{M N:Cd}{H2:Hp}{lo:Int}{n:Nat}:p5 W M N H2 (Itr lo n) (Q3 lo n):=λH' f=>by refine⟨λi x hx=>?_,by rw[nU];exact B7 _⟩;obtain⟨hi,rfl⟩:=nT hx;refine⟨hi,λv H'' hy=>?_⟩;obtain⟨rfl,rfl⟩:=hy;exact⟨zl.refl _,λ_ _=>rfl⟩
def Kp:List PV->Out (List PV)
 |[.i n]=>if -(2 ^ 62)<=n/\n<2 ^ 62 then .ok (Q3 0 n.toNat)else .wall
 |_=>.wall
def Yb(ms:MA):MI:=λρ=>(ms ρ).bind Kp
def Y5(hg:Gl X "range")(hm:X.mg "range"=none)(ha:AM X C S ws [a] ms)(hs:starEach [a] X.env=[(false,eval a X.env)]:=by rfl):IM X C S cc tg (.Call (.Name "range" p) [a] [] pos) (Yb ms):=λhK=>by
 obtain⟨ta,a1,a2⟩:=ha hK;refine⟨_,V7 hg hm a1 hs,λB P H σ ρ R Q q=>a2 B P H σ ρ R _ ?_⟩;unfold Yb at q;revert q;cases ms ρ with
 |exc c fs=>exact id
 |wall=>exact id
 |ok xs=>
  intro q vs H2 s r;have r:=r.weak;have q:cW C B S P cc H Q (Kp xs):=q;unfold Kp at q;split at q
  .split at q
   .rename_i hn;obtain⟨v,r',rfl,hx,hr⟩:=r;cases(show _=_ from hr);cases(show _=_ from hx);exact⟨_,rfl,hn.1,hn.2,q _ H2 s lU⟩
   .exact q.elim
  .exact q.elim
end
def noX{α:Type}:Out α->Out α
 |.exc _ _=>.wall
 |o=>o
def lcP(g:MG)(c:MT)(e:ME):List PV->Sto->List PV->Out PV
 |[],_,acc=>.ok (.l acc)
 |x::xs,ρ,acc=>(vp (g x ρ)).bind λρ1=>(noX (c ρ1)).bind λt=>if t=true then(noX (e ρ1)).bind λy=>if acc.length<sizeLine then lcP g c e xs ρ1 (acc++[y])else .wall else lcP g c e xs ρ1 acc
def w_(ρ:Sto)(fr:Ct):Sto:=fr.map λo=>match o with|none=>none|some j=>(ρ[j]?).join
def mLC(mi:MI)(fr:Ct)(g:MG)(c:MT)(e:ME):ME:=λρ=>(mi ρ).bind λxs=>lcP g c e xs (w_ ρ fr) []
def Ws:MT:=λ_=>.ok true
def inS(S:Cb)(fr:Ct):List Nat:=fr.map λo=>match o with|none=>0|some j=>if S[j]?=some 2\/S[j]?=some 1 then 1 else 0
def lcB(B:Bs)(S:Cb)(P:Cm)(H:Hp)(acc:Addr):Bs:=⟨H,Mof B S P,λa=>H a≠none,λ_ h=>h,none,λa=>a=acc⟩
def XQ{S:Cb}{fr:Ct}{k c:Nat}(h:(inS S fr)[k]?=some c):c≠2:=by
 unfold inS at h;rw[D5]at h;obtain⟨o,ho,e⟩:=v4.mp h;intro z;rw[z]at e;cases o with
 |none=>cases e
 |some j=>dsimp only at e;split at e<;>cases e
section
variable {X:Cx}{C:LC}{S S' S1 Sb Sc:Cb}{e a b o yM tg elt:Co}{es ifs:Ci}{w w1 w2:Bool}{ws:Cj}{m m1 m2 me:ME}{ms:MA}{t1 mc:MT}{mg:MG}{mi:MI}{s1 s2:MS}{pos p pos':Pos}{x:Str}{st:CV}{sts stt:CQ}{i:Nat}{scope:Scope}
def Rel.comp{W:RC}{B:Bs}{P:Cm}{H H':Hp}{σ:St}{ρ:Sto}{acc:Addr}{fr:Ct}{ys:Ck}(R:Rel W B S P H σ ρ)(ha:H acc=none)(s:zl H H')(hy:H' acc=some (.lst ys)):Rel W (lcB B S P H acc) (inS S fr) (λ_=>0) H' (fV σ fr) (w_ ρ fr):=by
 have n2:∀{k:Nat},(inS S fr)[k]?=some 2->False:=λ{k} h=>XQ h rfl;have sM:∀a,Mof B S P a->H a≠none->Mof (lcB B S P H acc) (inS S fr) (λ_=>0) a:=λa m n=>⟨⟨.inl m,λz=>n ((show a=acc from z)▸ha)⟩,λi hi=>(n2 hi).elim⟩;refine⟨s,by unfold fV w_;rw[u8,u8],λk x e=>?_,λi hi=>(n2 hi).elim,λi j hi=>(n2 hi).elim,λhi=>(n2 hi).elim,λa h=>?_,λi hi=>(n2 hi).elim⟩
 .unfold w_ at e;rw[D5]at e;obtain⟨o,ho,e⟩:=v4.mp e;cases o with
  |none=>cases e
  |some j=>
   have e:(ρ[j]?).join=some x:=e;have hj:ρ[j]?=some (some x):=by
    cases q:ρ[j]? with
    |none=>rw[q]at e;cases e
    |some z=>rw[q]at e;cases z with
     |none=>cases e
     |some z=>cases e;rfl
   obtain⟨v,hv,h2,h3,h4⟩:=R.var j x hj;have hS:(inS S fr)[k]?=some (if S[j]?=some 2\/S[j]?=some 1 then 1 else 0):=by unfold inS;rw[D5,ho];rfl
   refine⟨v,by unfold fV;rw[D5,ho];show some ((σ[j]?).join)=_;rw[hv];rfl,λz=>(n2 z).elim,λz=>?_,λz z'=>?_⟩
   .rw[hS]at z;by_cases c2:S[j]?=some 2
    .obtain⟨rfl,ra⟩:=h2 c2;obtain⟨_,o,eo,_⟩:=R.act j c2;exact((ra.xm (N:=λa=>H a≠none) (by rw[eo];intro z;cases z)).sub (λ_ m _=>m) sM).same s
    .by_cases c1:S[j]?=some 1
     .exact((h3 c1).sub (λa n q=>(R.hz a n).2) sM).same s
     .rw[if_neg (by rintro(q|q);exact c2 q;exact c1 q)]at z;cases z
   .rw[hS]at z';by_cases c:S[j]?=some 2\/S[j]?=some 1
    .rw[if_pos c]at z';exact absurd rfl z'
    .exact((h4 (λq=>c (.inl q)) (λq=>c (.inr q))).sub sM).same s
 .cases(show a=acc from h);exact⟨_,hy,id,ha⟩
def TsM(X:Cx)(C:LC)(S:Cb)(ifs:Ci)(m:MT):Prop:=X.K=C.W.K->∃tt,PTs X ifs tt/\LT C S tt m
def JE:TsM X C S [] Ws:=λ_=>⟨_,nC,λB P H σ ρ R Q q=>q H (zl.refl _)⟩
def c7(h:TM X C S c t1):TsM X C S [c] t1:=λhK=>let⟨tt,a1,a2⟩:=h hK;⟨tt,nD a1,a2⟩
def XR{ι:Type}{Y:ι->Cx}(h:∀z,EM (Y z) C S w e m)(hK:∀z,(Y z).K=C.W.K):∃te,(∀z,PE (Y z) e te)/\LE C S w te m:=
 ⟨λσ H Q=>∀z,(Classical.choose (h z (hK z))) σ H Q,λz pins s σ H Q I q=>(L9 (h z (hK z))).1 pins s σ H Q I (q z),λB P H σ ρ R Q q z=>(L9 (h z (hK z))).2 B P H σ ρ R Q q⟩
def JF{ι:Type}{Y:ι->Cx}(h:∀z,TsM (Y z) C S ifs mc)(hK:∀z,(Y z).K=C.W.K):∃te,(∀z,PTs (Y z) ifs te)/\LT C S te mc:=
 ⟨λσ H Q=>∀z,(Classical.choose (h z (hK z))) σ H Q,λz pins s σ H Q I q=>(L9 (h z (hK z))).1 pins s σ H Q I (q z),λB P H σ ρ R Q q z=>(L9 (h z (hK z))).2 B P H σ ρ R Q q⟩
def JG{ι:Type}{Y:ι->Cx}(h:∀z,GM (Y z) C S S1 tg mg)(hK:∀z,(Y z).K=C.W.K):∃g,(∀z,PG (Y z) tg g)/\LG C S S1 g mg:=
 ⟨λv σ H Q=>∀z,(Classical.choose (h z (hK z))) v σ H Q,λz pins s σ H v u Q I r q=>(L9 (h z (hK z))).1 pins s σ H v u Q I r (q z),λB P H σ ρ x v R r Q q z=>(L9 (h z (hK z))).2 B P H σ ρ x v R r Q q⟩
def XS{wi:TI}{g:TG}{tc:TT}{te:TE}{fr:Ct}{Si:Cb}{W:RC}{B:Bs}{P:Cm}{H:Hp}{σ:St}{ρ:Sto}(hi:∀R:It->Hp->Prop,cW C B S P true H R (mi ρ)->wi σ H R)(hW:W=C.W)(hS:Si=inS S fr)(hg:LG ⟨W,E0,false⟩ Si Si g mg)(ht:LT ⟨W,E0,false⟩ Si tc mc)(he:LE ⟨W,E0,false⟩ Si false te me)(R:Rel C.W B S P H σ ρ)(Q:VK)(q:zE C B H (RFr C.W (Mof B S P) H) Q (mLC mi fr mg mc me ρ)):tLC wi g tc te fr σ H Q:=by
 subst hW hS;refine hi _ ?_;unfold mLC at q;revert q;cases mi ρ with
 |exc c fs=>exact id
 |wall=>exact id
 |ok xs=>
  intro q J H1 s1 io acc ha;have R1:=R.keep s1;have q:zE C B H (RFr C.W (Mof B S P) H) Q (lcP mg mc me xs (w_ ρ fr) []):=q;have sM:∀a,Mof (lcB B S P H1 acc) (inS S fr) (λ_=>0) a->Mof B S P a/\a≠acc:=λa m=>⟨m.1.1.elim id λn=>R1.new a n,m.1.2⟩;refine⟨λi n σ' H'=>n=xs.length-i/\i<=xs.length/\∃ρ' ys vs,Rel C.W (lcB B S P H1 acc) (inS S fr) (λ_=>0) H' σ' ρ'/\H' acc=some (.lst vs)/\zy C.W (Mof (lcB B S P H1 acc) (inS S fr) (λ_=>0)) H' ys vs/\zE C B H (RFr C.W (Mof B S P) H) Q (lcP mg mc me (xs.drop i) ρ' ys),
   ⟨_,rfl,F7 _,w_ ρ fr,[],[],R1.comp ha (zl.upd ha) zb,zb,rfl,q⟩,?_⟩
  rintro i n σ' H' ⟨rfl,hle,ρ',ys,vs,R',hacc,rys,q'⟩
  have io':=io H' (zl.fr R'.same);by_cases hlt:i<xs.length
  .have hx:xs[i]?=some xs[i]:=B9 hlt;obtain⟨go,yl⟩:=io'.1 i _ hx;refine .inr ⟨go,λσ2 H2'=>i+1<=xs.length/\∃ρ' ys vs,Rel C.W (lcB B S P H1 acc) (inS S fr) (λ_=>0) H2' σ2 ρ'/\H2' acc=some (.lst vs)/\zy C.W (Mof (lcB B S P H1 acc) (inS S fr) (λ_=>0)) H2' ys vs/\zE C B H (RFr C.W (Mof B S P) H) Q (lcP mg mc me (xs.drop (i+1)) ρ' ys),λσ2 H2' h=>⟨xs.length-(i+1),by omega,rfl,h.1,h.2⟩,λv H'' hy=>?_⟩;obtain⟨sy,ry⟩:=yl v H'' hy;have Ry:=R'.keep sy;have rx:=ry (Mof (lcB B S P H1 acc) (inS S fr) (λ_=>0)) λa m hn=>⟨⟨.inl m,λz=>hn ((show a=acc from z)▸ha)⟩,λj hj=>(XQ hj rfl).elim⟩;rw[O7 hlt]at q';unfold lcP at q';cases hgx:mg xs[i] ρ' with
   |none=>rw[hgx]at q';exact q'.elim
   |some ρ1=>
    rw[hgx]at q';refine hg _ _ H'' σ' ρ' _ v Ry rx _ ⟨ρ1,hgx,λσ1 R1'=>ht _ _ H'' σ1 ρ1 R1' _ ?_⟩;have q':zE C B H (RFr C.W (Mof B S P) H) Q ((noX (mc ρ1)).bind λt=>if t=true then(noX (me ρ1)).bind λy=>if ys.length<sizeLine then lcP mg mc me (xs.drop (i+1)) ρ1 (ys++[y])else .wall else lcP mg mc me (xs.drop (i+1)) ρ1 ys):=q';revert q';cases mc ρ1 with
    |exc c fs=>exact λq'=>q'.elim
    |wall=>exact id
    |ok t=>
     intro q' H5 s5;have R5:=R1'.keep s5;have hacc5:=s5 _ _ (sy _ _ hacc);have rys5:=(rys.same sy).same s5;cases t with
     |false=>exact nq ⟨hlt,ρ1,ys,vs,R5,hacc5,rys5,q'⟩
     |true=>
      refine nu (he _ _ H5 σ1 ρ1 R5 _ ?_);have q':zE C B H (RFr C.W (Mof B S P) H) Q ((noX (me ρ1)).bind λy=>if ys.length<sizeLine then lcP mg mc me (xs.drop (i+1)) ρ1 (ys++[y])else .wall):=q';revert q';cases me ρ1 with
      |exc c fs=>exact λq'=>q'.elim
      |wall=>exact id
      |ok y=>
       intro q' v6 H6 s6 r6;have q':zE C B H (RFr C.W (Mof B S P) H) Q (if ys.length<sizeLine then lcP mg mc me (xs.drop (i+1)) ρ1 (ys++[y])else .wall):=q';split at q'
       .rename_i hz;have R6:=R5.keep s6;have fr6:Fr (Mof (lcB B S P H1 acc) (inS S fr) (λ_=>0)) H6 (upd H6 acc (.lst (vs++[v6]))):=λa o h m=>by
         have:a≠acc:=λz=>by
          rcases m with m|m
          .exact m.1.2 z
          .rw[z,s6 _ _ hacc5]at h;cases h;exact m
         rw[zc this];exact h
        exact⟨vs,s6 _ _ hacc5,by rw[rys5.len];exact hz,hlt,ρ1,ys++[y],vs++[v6],R6.wrx (show(lcB B S P H1 acc).xc acc from rfl) (by exact id),zb,((rys5.same s6).append (.cons r6.rep .nil)).gen fr6 λ_ m _=>m,q'⟩
       .exact q'.elim
  .have e:i=xs.length:=by omega
   subst e;rw[a0A]at q';exact .inl ⟨io'.2,q' _ H' (s1.trans R'.same) ⟨acc,rfl,zl.none s1 ha,vs,hacc,rys.sub λa m _=>sM a m⟩⟩
def tM{wi:TI}{g:TG}{tc:TT}{te:TE}{fr:Ct}{Si:Cb}{W:RC}(hi:LI C S true wi mi)(hW:W=C.W)(hS:Si=inS S fr)(hg:LG ⟨W,E0,false⟩ Si Si g mg)(ht:LT ⟨W,E0,false⟩ Si tc mc)(he:LE ⟨W,E0,false⟩ Si false te me):LFr C S (tLC wi g tc te fr) (mLC mi fr mg mc me):=λB P H σ ρ R Q q=>XS (hi B P H σ ρ R) hW hS hg ht he R Q q
abbrev CI:=List Addr×List (Addr×Obj)×Shared×Hp×Addr
abbrev cxI(X:Cx)(scope:Scope)(N:Cn)(z:CI):Cx:=yL X scope N z.1 z.2.1 z.2.2.1 z.2.2.2.1 z.2.2.2.2
def tN(N:Cn)(fr:Ct)(Si:Cb)(hc:X.calm=true)(hok:bJ X scope N fr=true)(hi:IM X C S true tg yM mi)(hg:∀z:CI,GM (cxI X scope N z) ⟨C.W,E0,false⟩ Si Si tg mg)(ht:∀z:CI,TsM (cxI X scope N z) ⟨C.W,E0,false⟩ Si ifs mc)(he:∀z:CI,EM (cxI X scope N z) ⟨C.W,E0,false⟩ Si false elt me)(hS:Si=inS S fr:=by rfl)
  (hs:∀x,foldedSetIterable yM X.env x=pure x:=by intro _;rfl):FM X C S (.ListComp elt [⟨tg,yM,ifs,0⟩] scope pos) (mLC mi fr mg mc me):=λhK=>by
 obtain⟨wi,a1,a2⟩:=hi hK;obtain⟨g,b1,b2⟩:=JG hg λ_=>hK;obtain⟨tc,c1,c2⟩:=JF ht λ_=>hK;obtain⟨te,d1,d2⟩:=XR he λ_=>hK;exact⟨_,nE N fr hc hok a1 (λfp pn s H L=>b1 ⟨fp,pn,s,H,L⟩) (λfp pn s H L=>c1 ⟨fp,pn,s,H,L⟩) (λfp pn s H L=>d1 ⟨fp,pn,s,H,L⟩) hs,tM a2 rfl hS b2 c2 d2⟩
variable {y:Str}{bL py:Pos}
def tO(N:Cn)(fr:Ct)(Si:Cb)(hN:X.N.Nodup)(hy:X.N[i]?=some y)(hl:X.env.scope.names.lookup y=some .local)(hc:X.calm=true)(hok:bJ X scope N fr=true)(hi:IM X C S true tg yM mi)(hg:∀z:CI,GM (cxI X scope N z) ⟨C.W,E0,false⟩ Si Si tg mg)(ht:∀z:CI,TsM (cxI X scope N z) ⟨C.W,E0,false⟩ Si ifs mc)(he:∀z:CI,EM (cxI X scope N z) ⟨C.W,E0,false⟩ Si false elt me)(hS:Si=inS S fr:=by rfl)
  (hsw:swapsWith (.ListComp elt [⟨tg,yM,ifs,0⟩] scope pos) (some (.Name y py)) bL.line X.env=pure true:=by rfl) (hs:∀x,foldedSetIterable yM X.env x=pure x:=by intro _;rfl):SM X C S (S.set i 0) Sb Sc (.Assign [.Name y py] (.ListComp elt [⟨tg,yM,ifs,0⟩] scope pos) bL) (qS i (mLC mi fr mg mc me)):=λhK=>by
 obtain⟨wi,a1,a2⟩:=hi hK;obtain⟨g,b1,b2⟩:=JG hg λ_=>hK;obtain⟨tc,c1,c2⟩:=JF ht λ_=>hK;obtain⟨te,d1,d2⟩:=XR he λ_=>hK;refine⟨_,sG N fr hN hy hl hc hok a1 (λfp pn s H L=>b1 ⟨fp,pn,s,H,L⟩) (λfp pn s H L=>c1 ⟨fp,pn,s,H,L⟩) (λfp pn s H L=>d1 ⟨fp,pn,s,H,L⟩) hsw hs,lS λB P H σ ρ R Q q=>tM a2 rfl hS b2 c2 d2 B P H σ ρ R Q (vE q λx v H2 s hr=>RV.of (hr.rep R.new))⟩
end
def Kk(fr:Bool)(n:Nat)(ms:MS)(xs:Cy):Out PV:=match ms (xs.map some++List.replicate (n-xs.length) none)with
 |.ok (.nx _)=>if fr=true then .wall else .ok .n
 |.ok (.rt x)=>.ok x
 |.ok (.bk _)=>.wall
 |.ok (.ct _)=>.wall
 |.exc c fs=>.exc c fs
 |.wall=>.wall
def Vf(ws:Cj)(n:Nat):List Nat:=ws.map (λw=>if w=true then 1 else 0)++List.replicate (n-ws.length) 0
def c8{ws:Cj}{n k:Nat}:(Vf ws n)[k]?≠some 2:=by
 unfold Vf;rw[a0L];split
 .rw[D5];intro h;obtain⟨w,_,e⟩:=v4.mp h;split at e<;>cases e
 .rw[T6];intro h;split at h<;>cases h
def vF.get{W:RC}{M:Cd}{H:Hp}:∀{ws:Cj}{xs:Cy}{vs:Ck}{k:Nat}{x:PV},vF W M H ws xs vs->xs[k]?=some x->∃v w,vs[k]?=some v/\ws[k]?=some w/\zT W (if w=true then λ_=>True else M) M H x v
 |[],_,_,_,_,⟨e1,e2⟩,h=>by subst e1;simp at h
 |w::ws,_,_,0,x,⟨y,v,xr,vr,e1,e2,h1,h2⟩,h=>by subst e1;subst e2;simp at h;subst h;exact⟨v,w,rfl,rfl,h1⟩
 |w::ws,_,_,k+1,x,⟨y,v,xr,vr,e1,e2,h1,h2⟩,h=>by subst e1;subst e2;simp only[List.getElem?_cons_succ]at h ⊢;exact vF.get h2 h
def c9{xs:Cy}{n k:Nat}{x:PV}(h:(xs.map some++List.replicate (n-xs.length) none)[k]?=some (some x)):xs[k]?=some x:=by
 rw[a0L]at h;split at h
 .rw[D5]at h;obtain⟨y,hy,e⟩:=v4.mp h;cases e;exact hy
 .rw[T6]at h;split at h<;>cases h
def c_(H:Hp)(M:Cd):Bs:=⟨H,M,λa=>H a≠none,λ_ h=>h,none,λ_=>False⟩
def Wt(h:vF W M H ws xs vs)(hn:ws.length<=N.length):Rel W (c_ H M) (Vf ws N.length) (λ_=>0) H (start N vs) (xs.map some++List.replicate (N.length-xs.length) none):=by
 have n2:∀{k:Nat},(Vf ws N.length)[k]?=some 2->False:=λ{k} h=>c8 h;have sM:∀a,M a->H a≠none->Mof (c_ H M) (Vf ws N.length) (λ_=>0) a:=λa m _=>⟨⟨.inl m,id⟩,λi hi=>(n2 hi).elim⟩;obtain⟨l1,l2⟩:=h.len;refine⟨zl.refl _,?_,λk x e=>?_,λi hi=>(n2 hi).elim,λi j hi=>(n2 hi).elim,λhi=>(n2 hi).elim,λa h=>h.elim,λi hi=>(n2 hi).elim⟩
 .unfold start;rw[B5,B5,u8,u8,R8,R8,l1,l2]
 .obtain⟨v,w,hv,hw,r⟩:=h.get (c9 e);have hk:k<vs.length:=(C4.mp hv).1;have hS:(Vf ws N.length)[k]?=some (if w=true then 1 else 0):=by unfold Vf;rw[F2 (by rw[u8,<- l1];exact hk),D5,hw];rfl
  refine⟨v,?_,λz=>(n2 z).elim,λz=>?_,λ_ z=>?_⟩
  .unfold L2.start;rw[F2 (by rw[u8];exact hk),D5,hv];rfl
  .rw[hS]at z;refine zT.sub r (λa _ n=>n) sM
  .rw[hS]at z;cases w with
   |true=>exact absurd rfl z
   |false=>exact(zT.iff.mp r).sub sM
section
variable {P:Cq}{w:Cv}{K:CO}{mg:Cc}{base:Heap}
def zX{x qual:Str}{st:CV}{f:Addr}{fd:CA}{N ps:Cn}{k n:Nat}{W:RC}{fr:Bool}{ws:Cj}{ms:MS}{S' Sb Sc:Cb}(F:Fun K x qual st f fd)(S:zr N ps (zg st))(hW:K=W.K)(hl:ws.length=ps.length)(hN:N.length=n)(hn:ws.length<=n)
  (h:∀(cdv:Value)(A:Cz)(outer:List Env)(s:Ce)(H:Hp)(E:XK),jd k (A.deeper (envOfC qual (zg st) s.heap.objs.size f cdv))->SsM (thr (aT (CXe P w) P w K mg base N qual (zg st) f cdv A outer s H E) E) ⟨W,E,fr⟩ (Vf ws n) S' Sb Sc (kO st) ms):
  qQ P w K mg base (CXe P w) (k+1) f fd ps (lsp W fr ws (Kk fr n ms)):=by
 subst hN;refine F.okX S (nN hl) λcdv A outer s H vs Q E hr ⟨M,xs,ha,q⟩=>?_;obtain⟨ts,t1,t2⟩:=h cdv A outer s H E hr hW;refine⟨ts,t1,t2 (c_ H M) _ H _ _ (Wt ha hn) _ ?_⟩;unfold Kk at q;revert q;cases ms (xs.map some++List.replicate (N.length-xs.length) none)with
 |exc c fs=>exact λq e dx es H2 s h1 h2 h3=>q e dx es H2 s h1 h2 h3
 |wall=>exact id
 |ok fl=>
  cases fl with
  |nx ρ'=>
   intro q P' H' σ' R';cases fr with
   |true=>exact q.elim
   |false=>exact q .non H' R'.same rfl
  |rt y=>exact λq v H' s r=>q v H' s r
  |bk ρ'=>exact λq=>q.elim
  |ct ρ'=>exact λq=>q.elim
end
def tP(C:Addr)(fs:Cn):Sp:=λvs H Q _=>∃e us,vs=.ref e::us/\us.length=fs.length/\H e=some (XO e C none .none)/\∀dx,H dx=none->Q .non (upd (upd H dx (XD dx (fs.zip us))) e (XO e C (some dx) .none))
def JH(c:Nat)(fns:Cn)(ms:MA):MS:=λρ=>(ms ρ).bind λxs=>if xs.length=fns.length/\xs.length<=1000 then .exc c (fns.zip xs)else .wall
def vo.zip{W:RC}{M:Cd}{H:Hp}:∀{fns:Cn}{xs:Cy}{vs:Ck},zy W M H xs vs->xs.length=fns.length->vo W M H (fns.zip xs) (fns.zip vs)
 |[],[],_,h,_=>by cases(show _=_ from h);rfl
 |f::fns,x::xs,_,h,e=>by obtain⟨v,r,rfl,h1,h2⟩:=h;exact⟨v,_,rfl,h1,vo.zip h2 (by simpa using e)⟩
 |[],_::_,_,_,e=>by cases e
 |_::_,[],_,_,e=>by cases e
def Q4(hh:X.calm=true)(M:XMk X.K (C.W.cls c) f)(xc:Ki X.K (C.W.cls c))(F:qQ X.prog X.w X.K X.mg X.base (CXe X.prog X.w) k f fd ps (tP (C.W.cls c) fns))(hr:jd (k+1) X.A)(hg:Gl X x)(hm:X.mg x=some (.ref (C.W.cls c)))(hb:Binds X.K fd ps [])
  (ha:AM (thr X C.E) C S ws (e::es) ms) (hw:ws.all (!·)=true:=by rfl) (hdb:(x==("__debug__":Str))=false:=by decide) (he:starEach (e::es) X.env=(false,eval e X.env)::starEach es X.env:=by rfl) (hpl:(backTo Zd (starEach es X.env)).any (·.1)=false:=by rfl):
  SM (thr X C.E) C S S' Sb Sc (.Raise (some (.Call (.Name x p) (e::es) [] Zd)) none pos) (JH c fns ms):=λhK=>by
 obtain⟨ta,a1,a2⟩:=ha hK;refine⟨_,gB hh (gA (X:=thr X C.E) M F hr hg hm hb yD a1 hdb he hpl),λB P H σ ρ R D q=>?_⟩;show ta σ H _;refine a2 B P H σ ρ R _ ?_;unfold JH at q;revert q;cases ms ρ with
 |exc c fs=>exact id
 |wall=>exact id
 |ok xs=>
  intro q vs H1 s1 r1;have rs:=r1.xo hw;have q:w8 C B S' Sb Sc D (if xs.length=fns.length/\xs.length<=1000 then .exc c (fns.zip xs)else .wall):=q;split at q
  .rename_i hz;refine⟨by rw[rs.len];exact hz.2,λy hy=>⟨y,vs,rfl,by rw[rs.len];exact hz.1,zb,λdx hdx=>⟨rfl,y,_,dx,rfl,hK▸xc,zb,?_⟩⟩⟩;have ne:dx≠y:=λz=>by rw[z,zb]at hdx;cases hdx
   rw[zc ne]at hdx;rw[YW];have sm:zl H1 (upd (upd (upd H1 y (XO y (C.W.cls c) none .none)) dx (XD dx (fns.zip vs))) y (XC y (C.W.cls c) dx)):=λb q hb=>by rw[zc (yC hb hy),zc (yC hb hdx),zc (yC hb hy)];exact hb
   exact q y dx (fns.zip vs) _ (R.same.trans (s1.trans sm)) zb (by rw[zc ne,zb]) ((vo.zip rs hz.1).gen sm.fr λa m _=>m.1.1)
  .exact q.elim
section
variable {X:Cx}{C:LC}{S:Cb}{e a b:Co}{w w1 w2:Bool}{m m1 m2:ME}{pos:Pos}
def QV:ME:=λ_=>.ok (.d [])
def vH:FM X C S (.Dict [] [] pos) QV:=λhK=>⟨_,gq,λB P H σ ρ R Q q=>λp hp=>q _ _ (zl.upd hp) (nK (xs:=[]) (vs:=[]) rfl hp)⟩
end
section
variable {α β:Type}
def yN{a:α}{f:α->Out β}:(Out.ok a).bind f=f a:=rfl
def tQ:qU (.i a) (.i b)=.ok (.i (a+b)):=rfl
def de(h1:-(2 ^ 64)<a)(h2:a<2 ^ 64):Ko (.i a) (.i b)=.ok (.i (a*b)):=by show(if i9 a b\/_ then _ else _)=_;rw[if_pos (.inl (.inl ⟨h1,h2⟩))]
def tR(h1:0<b)(h2:b<1073741824):j_ (.i a) (.i b)=.ok (.i (a / b)):=by show(if pY a b then _ else _)=_;rw[if_pos ⟨h1,h2⟩]
def df(h1:0<b):yQ (.i a) (.i b)=.ok (.i (a % b)):=by show(if 0<b then _ else _)=_;rw[if_pos h1]
def BU:pI g (.i a) (.i b)=.ok (g a b):=rfl
def BV:pU g (.i a)=.ok (g a):=rfl
def Ah:pIx (.l xs) (.i a)=vp (atI xs a):=rfl
def Ai:pIx (.t xs) (.i a)=vp (atI xs a):=rfl
def tS:pIx (.sc ns) (.i a)=vp ((atI ns a).map PV.i):=rfl
def Aj:asB (.b c)=.ok c:=rfl
def vI{a:α}:vp (some a)=.ok a:=rfl
def tT:vy [.l xs]=.ok (.i xs.length):=rfl
def tU:vy [.t xs]=.ok (.i xs.length):=rfl
def nV:vy [.sc xs]=.ok (.i xs.length):=rfl
def tV:vy [.d xs]=.ok (.i xs.length):=rfl
def Wu{xs:List α}(h:0<=k):atI xs k=xs[k.toNat]?:=by
 unfold atI ixN;rw[if_pos h];by_cases c:k<xs.length
 .rw[if_pos c];rfl
 .rw[if_neg c];symm;exact a0n.mpr (by omega)
def Wv(h:yn c b n ρ=o)(hw:o≠.wall):JC c b ρ=o:=by
 have mono:∀(n k:Nat)(ρ:Sto),yn c b n ρ≠.wall->yn c b (n+k) ρ=yn c b n ρ:=by
  intro n
  induction n with
  |zero=>intro k ρ h;exact absurd rfl h
  |succ n ih=>
   intro k ρ h;rw[show n+1+k=(n+k)+1 by omega];unfold yn at h ⊢;cases hc:c ρ with
   |exc c fs=>rfl
   |wall=>rfl
   |ok t=>
    rw[hc]at h;cases t with
    |false=>rfl
    |true=>
     simp only[yN,if_true]at h ⊢;cases hb:b ρ with
     |exc c fs=>rfl
     |wall=>rfl
     |ok f=>
      rw[hb]at h;cases f with
      |nx ρ2=>exact ih k ρ2 h
      |ct ρ2=>exact ih k ρ2 h
      |bk ρ2=>rfl
      |rt v=>rfl
 have ex:∃n,yn c b n ρ≠.wall:=⟨n,h▸hw⟩;unfold JC;rw[dif_pos ex];have hs:=L9 ex;generalize Classical.choose ex=n0 at hs;rcases Nat.le_total n n0 with g|g
 .obtain⟨k,rfl⟩:=Nat.le.dest g;rw[mono n k ρ (h▸hw)];exact h
 .obtain⟨k,rfl⟩:=Nat.le.dest g;rw[<- mono n0 k ρ hs];exact h
def Ww:ZL g b (x::xs) ρ=(vp (g x ρ)).bind λρ1=>(b ρ1).bind λf=>match f with
  |.nx ρ2=>ZL g b xs ρ2
  |.ct ρ2=>ZL g b xs ρ2
  |.bk ρ2=>.ok (.nx ρ2)
  |.rt v=>.ok (.rt v):=rfl
def JI{α:Type}[BEq α][LawfulBEq α][DecidableEq α]{a b:α}:(a==b)=decide (a=b):=by
 by_cases h:a=b
 .subst h;simp
 .simp[h]
def tW:Xh n (.i a) (.i b)=.ok (.b (xor n (decide (a=b)))):=by show Out.ok (PV.b (xor n (a==b)))=_;rw[JI]
def Ak:Xh n (.s x) (.s y)=.ok (.b (xor n (decide (x=y)))):=by show Out.ok (PV.b (xor n (x==y)))=_;rw[JI]
def Al:Xh n (.b x) (.b y)=.ok (.b (xor n (decide (x=y)))):=by show Out.ok (PV.b (xor n (x==y)))=_;rw[JI]
def dg:Z3 n (.i a) (.i b)=some (decide (a=b)):=by cases n<;>(show some (a==b)=_;rw[JI])
def tX:Z3 n (.s x) (.s y)=some (decide (x=y)):=by cases n<;>(show some (x==y)=_;rw[JI])
def kT{fr:Bool}{n:Nat}{ms:MS}{xs:Cy}{x:PV}(h:ms (xs.map some++List.replicate (n-xs.length) none)=.ok (.rt x)):Kk fr n ms xs=.ok x:=by unfold Kk;rw[h]
def nW(h:s ρ=.ok (.nx ρ')):y9 s t ρ=t ρ':=by unfold y9;rw[h];rfl
def tY{k:Str}{v:PV}{r:CD}:List.lookup k ((k,v)::r)=some v:=by simp[List.lookup]
def nX{k j:Str}{v:PV}{r:CD}(h:(k==j)=false):List.lookup k ((j,v)::r)=List.lookup k r:=by simp[List.lookup,h]
def tZ:List.lookup k ([]:List (Str×PV))=none:=rfl
def t4{α:Type}{v:α}{r:List (Nat×α)}:List.lookup k ((k,v)::r)=some v:=by simp[List.lookup]
def nY{α:Type}{v:α}{r:List (Nat×α)}(h:(k==j)=false):List.lookup k ((j,v)::r)=List.lookup k r:=by simp[List.lookup,h]
def t5{k:Kd}{v:Bool}{r:List (Kd×Bool)}:List.lookup k ((k,v)::r)=some v:=by simp[List.lookup]
def nZ{k j:Kd}{v:Bool}{r:List (Kd×Bool)}(h:(k==j)=false):List.lookup k ((j,v)::r)=List.lookup k r:=by simp[List.lookup,h]
def t6{a b:Str}(h:(a==b)=false):decide (a=b)=false:=by simpa using h
def Am(h:n<=100000):(n<=sizeLine)=True:=eq_true (E3 h (by decide))
def An(h:n<100000):(n<sizeLine)=True:=eq_true (D0 h (by decide))
end
def UP{α:Type}{a:α}:noX (.ok a)=.ok a:=rfl
def ZM{α:Type}{g:MG}{c:MT}{e:ME}(it:α->PV)(keep:α->Bool)(out:α->PV)(J:Sto->Prop):∀(xs:List α)(ρ:Sto)(acc:Cy),J ρ->(∀x∈xs,∀ρ,J ρ->∃ρ1,g (it x) ρ=some ρ1/\J ρ1/\c ρ1=.ok (keep x)/\(keep x=true->e ρ1=.ok (out x)))->acc.length+xs.length<=100000->lcP g c e (xs.map it) ρ acc=.ok (.l (acc++(xs.filter keep).map out))
 |[],ρ,acc,_,_,_=>by simp[lcP]
 |x::xs,ρ,acc,hJ,h,hl=>by
  obtain⟨ρ1,h1,h2,h3,h4⟩:=h x B3 ρ hJ;rw[B0]at hl;rw[C8];unfold lcP;rw[h1,vI,yN,h3,UP,yN];cases hk:keep x with
  |true=>rw[if_pos rfl,h4 hk,UP,yN,if_pos (D0 (show acc.length<100000 by omega) (by decide)),List.filter_cons_of_pos hk,C8];rw[ZM it keep out J xs ρ1 (acc++[out x]) h2 (λz hz=>h z (B4 _ hz)) (by rw[B5];show acc.length+1+_<=_;omega),F3];rfl
  |false=>rw[if_neg C9,List.filter_cons_of_neg (by rw[hk];exact C9)];exact ZM it keep out J xs ρ1 acc h2 (λz hz=>h z (B4 _ hz)) (by omega)
def Vg{α:Type}(it:α->PV)(out:α->PV)(J:Sto->Prop)(xs:List α)(ρ:Sto)(hJ:J ρ)(h:∀x∈xs,∀ρ,J ρ->∃ρ1,g (it x) ρ=some ρ1/\J ρ1/\e ρ1=.ok (out x))(hl:xs.length<=100000):lcP g Ws e (xs.map it) ρ []=.ok (.l (xs.map out)):=by rw[ZM (c:=Ws) it (λ_=>true) out J xs ρ [] hJ (λx hx ρ hρ=>let⟨ρ1,a,b,c⟩:=h x hx ρ hρ;⟨ρ1,a,b,rfl,λ_=>c⟩) (by simpa using hl)];rw[a1W.mpr λ_ _=>rfl];rfl
end L2
namespace L2
open PySem
def t7(o:Out Fw)(t:MS):Out Fw:=o.bind λf=>match f with
 |.nx ρ'=>t ρ'
 |.rt x=>.ok (.rt x)
 |.bk ρ'=>.ok (.bk ρ')
 |.ct ρ'=>.ok (.ct ρ')
def t8:y9 s t ρ=t7 (s ρ) t:=rfl
def n4:t7 (.ok (.nx ρ)) t=t ρ:=rfl
def n5:t7 (.ok (.rt x)) t=.ok (.rt x):=rfl
def n6:t7 (.ok (.bk ρ)) t=.ok (.bk ρ):=rfl
def n8:t7 (.ok (.ct ρ)) t=.ok (.ct ρ):=rfl
def ifO(o:Out Bool)(a b:MS)(ρ:Sto):Out Fw:=o.bind λc=>if c=true then a ρ else b ρ
def Ao:sIf c a b ρ=ifO (c ρ) a b ρ:=rfl
def Ap:ifO (.ok true) a b ρ=a ρ:=rfl
def Aq:ifO (.ok false) a b ρ=b ρ:=rfl
end L2
namespace L2
open PySem PySem.Spec PyProof.Rows PySem.W
section
variable {X:Cx}
def t9(X:Cx)(T:String)(r:List V->Hp->VK->Prop):Prop:=
 ∀(pins:Ca)(s:Ce)(σ:St)(H:Hp)(vs:Ck)(us:Cg)(Q:VK),Inv X pins σ H s->Vals vs us->r vs H Q->
  wpAny (Du X) X.A (call (.type T) us) (λv s1=>wpAny (Du X) X.A (call (.type "list") [v]) (EP X pins σ Q) X.xe s1) X.xe s
def dh(hc:t9 X T r)(hgl:Gl X "list")(hml:X.mg "list"=none)(hg:Gl X x)(hm:X.mg x=none)(hv:bootBuiltins x=some (.type T))(ha:PA X (e::es) t)
  (hn:x≠"__name__":=by decide) (hdb:(x==("__debug__":Str))=false:=by decide)
  (he:starEach (e::es) X.env=(false,eval e X.env)::starEach es X.env:=by rfl) (hpl:(backTo pos' (starEach es X.env)).any (·.1)=false:=by rfl):
  PE X (.Call (.Name "list" p) [.Call (.Name x p') (e::es) [] pos'] [] pos) (tCB r t):=by
 intro pins s σ H Q I h;refine N7 (Qr I hgl hml a1H ?_ (by decide) (by decide));refine P9 ?_ rfl rfl;show wpAny _ _ (spliced [(false,eval (.Call (.Name x p') (e::es) [] pos') X.env)]) _ _ s;refine a0q ?_;refine N7 (Qr I hg hm hv ?_ hn hdb);refine P9 (thn (ha pos' pins s σ H _ I h) λus s1 ⟨vs,H1,I1,r1,q1⟩=>thn (hc pins s1 σ H1 vs us Q I1 r1 q1) λv s2 h2=>?_) he hpl;exact a09 h2
def JJ:∀{xs:Ck}{us:Cg},xs.length=us.length->(∀(j:Nat) x u,xs[j]?=some x->us[j]?=some u->RelV x u)->Vals xs us
 |[],[],_,_=>.nil
 |x::xs,u::us,hl,h=>.cons (h 0 x u rfl rfl) (JJ (by simpa using hl) λj y v e1 e2=>h (j+1) y v (by simpa using e1) (by simpa using e2))
def UQ(I:Inv X pins σ H s)(hs:s.heap.objs.size<=l)(hk:∀b o,s.heap.get? b=some o->h'.get? b=some o)
  (hl:h'.get? l=some { cls:=.type "list",dict:=none,data:=.seq acc c,slots:=#[] }) (hz:ys.length<=sizeLine) (hy:ys.length=acc.size) (hv:∀(j:Nat) x u,ys[j]?=some x->acc[j]?=some u->RelV x u) (q:∀l,H l=none->Q (.ref l) (upd H l (.lst ys))):
  EP X pins σ Q (.ref l) { s with heap:=h',toks:=tk }:=
 ⟨.ref l,_,I.laid (t':=tk) hk hs (show yk X.prog X.w _ h' _ (.lst ys)from⟨hz,acc.toList,c,JJ (by rw[T4];exact hy) (λj x u e1 e2=>hv j x u e1 (by simpa using e2)),by rw[Array.toArray_toList];exact hl⟩),rfl,q _ (I.hok.fresh hs)⟩
end
def di:typeLookup (.type "list_reverseiterator") "__len__"=pure none:=by rw[a0o,R9];kernel_rfl
def gO:typeLookup (.type "list_reverseiterator") "__length_hint__"=pure (some (.builtin "list_reverseiterator.__length_hint__")):=by rw[a0o,R9];kernel_rfl
def n_(hT:s.TypeIs (.ref it) "list_reverseiterator")(h:Q false s):wpAny (model prog w) A (Builtin.List.listLengthHint (.ref it)) Q E s:=by
 unfold Builtin.List.listLengthHint;refine f8 (a0K hT di ?_);show wpAny _ _ (specialOf (Value.ref it) (Str.ofString "__length_hint__") >>= _) _ _ _;refine f8 (a0K hT gO ?_);generalize hid:("list_reverseiterator.__length_hint__":String)=id0
 (fail_if_success (clear hid id0));wp_delta
 rw[show splitId id0=some ("list_reverseiterator","__length_hint__")from by subst hid;decide +kernel];subst hid;refine f8 (a0f (b:=true) hT (by rw[a1K];kernel_rfl) ?_);exact B8 h
def oa{Q:B_}{it l:Addr}{items:CG}(hh:A.handled=none)(hne:l≠it)(hit:s.heap.IsRevIter it l ((items.size:Int)-1))(hli:s.heap.IsList l items)(hn:items.size<=sizeLine)
  (hQ:∀h' tk acc' c',(∀b o,b≠it->s.heap.get? b=some o->h'.get? b=some o)->h'.get? s.heap.objs.size=some { cls:=.type "list",dict:=none,data:=.seq acc' c',slots:=#[] }->ItemsOf (λi v=>items[items.size-1-i]?=some v) acc' items.size->Q (.ref s.heap.objs.size) { s with heap:=h',toks:=tk }):
  wpAny (model prog w) A (call (.type "list") [.ref it]) Q E s:=by
 have l1:it<s.heap.objs.size:=by obtain⟨o,ho,_⟩:=hit;exact C0 ho
 have l2:l<s.heap.objs.size:=by obtain⟨o,ho,_⟩:=hli;exact C0 ho
 refine a1L (Q₁:=λobj s₁=>obj=.ref s.heap.objs.size/\s₁={ s with heap:=s.heap.push { cls:=.type "list",data:=.seq #[] } }) a1X (a1x _) a1y
  (code_list_new _ ⟨rfl,rfl⟩) λobj s₁ h₁=>?_
 obtain⟨rfl,rfl⟩:=h₁;have hS:(s.heap.push { cls:=.type "list",data:=.seq #[] }).get? s.heap.objs.size=some { cls:=.type "list",data:=.seq #[] }:=E2 _ rfl;refine⟨⟨_,hS,rfl⟩,a1p _ _,?_⟩;show wpAny _ _ (do let old<-Builtin.List.listItems (.ref s.heap.objs.size);Builtin.List.listUpdate (.ref s.heap.objs.size) (λ_=>#[]);letGo old.toList.reverse;Builtin.List.listExtendWith (.ref s.heap.objs.size) (.ref it) .none) _ _ _;refine f8 ?_;unfold Builtin.List.listItems;refine f8 (a0U hS rfl (B8 ?_));show wpAny _ _ (updateSeq s.heap.objs.size (λ_=>#[]) >>= λ_=>letGo (#[]:Array Value).toList.reverse >>= λ_=>Builtin.List.listExtendWith (.ref s.heap.objs.size) (.ref it) .none) _ _ _;refine f8 (O1 hS rfl ?_);have hS₂:=G0 (Obj.mapSeq (λ_=>(#[]:Array Value))) hS rfl;refine f8 (a0j ?_);have kp:∀b o,s.heap.get? b=some o->((s.heap.push { cls:=.type "list",data:=.seq #[] }).update s.heap.objs.size (Obj.mapSeq (λ_=>(#[]:Array Value)))).get? b=some o:=λb o e=>
  (D8 _ _ (M9 (C0 e))).trans (B6 _ e)
 generalize((s.heap.push { cls:=.type "list",data:=.seq #[] }).update s.heap.objs.size (Obj.mapSeq (λ_=>(#[]:Array Value))))=h2 at hS₂ kp;have hit2:h2.IsRevIter it l ((items.size:Int)-1):=by obtain⟨o,ho,z⟩:=hit;exact⟨o,kp _ _ ho,z⟩
 have hli2:h2.IsList l items:=by obtain⟨o,ho,z⟩:=hli;exact⟨o,kp _ _ ho,z⟩
 unfold Builtin.List.listExtendWith;refine f8 (S8 (T:="list_reverseiterator") hit2.typeIs ?_);have hne1:s.heap.objs.size≠it:=M9 l1;have hne2:s.heap.objs.size≠l:=M9 l2;have h1:Builtin.List.listSameRef (.ref s.heap.objs.size) (.ref it)=false:=by simp[Builtin.List.listSameRef,hne1]
 rw[if_neg (by rw[h1];decide)];refine f8 (wpAny_pyIter_revIter hit2 ?_);refine f8 (G7 (n_ hit2.typeIs ?_));rw[if_neg (by decide)];refine B8 ⟨M3 a0p _,a0M (Walks.listRev (A:=A.in1.in1) hh it l hne items).toS hn s.heap.objs.size (by simp[hne1,hne2]) _ items.size 0 _ _ _ rfl (F7 _) (show _/\Heap.IsRevIter h2 _ _ _/\_ from⟨F7 _,by simpa using hit2,hli2⟩) hS₂ (a2l _) λs' acc' c' hm hS' hacc=>?_⟩;rw[a05 hm];refine⟨rfl,hQ s'.heap s'.toks acc' c' (λb o hb e=>hm.heap b o (λhmem=>?_) (kp b o e)) hS' hacc⟩;rcases C5.mp hmem with e'|hmem
 .exact absurd (C0 e) (by rw[e'];exact M8 _)
 .exact hb (C7.mp hmem)
section
variable {X:Cx}
def t_(K:CO)(vs:Ck)(H:Hp)(Q:VK):Prop:=∃p ys,vs=[.ref p]/\SqL K H p ys/\∀l,H l=none->Q (.ref l) (upd H l (.lst ys.reverse))
def dj(hc:X.calm=true):t9 X "reversed" (t_ X.K):=by
 intro pins s σ H vs us Q I r h;obtain⟨p,ys,rfl,hq,q⟩:=h;obtain⟨u,rfl,rx⟩:=vals1 r;cases rx;obtain⟨its,r',pl,hz⟩:=I.list hq;have hlen:=r'.length;have hlt:p<s.heap.objs.size:=by obtain⟨o,ho,_⟩:=pl.isList;exact C0 ho
 refine call_reversed_list pl.isList ?_;have pk:∀b o,s.heap.get? b=some o->(s.heap.push (revObj p ((its.toArray.size:Int)-1))).get? b=some o:=λb o e=>B6 _ e;refine oa (items:=its.toArray) (I.ok.hd hc) (D2 hlt) ⟨_,E2 _ rfl,rfl,rfl⟩ (by obtain⟨o,ho,z⟩:=pl.isList;exact⟨o,pk _ _ ho,z⟩) (by simp;omega) λh' tk acc' c' hk hl hi=>?_;refine UQ (s:=s) (tk:=tk) I ?_ (λb o e=>hk b o (D2 (C0 e)) (pk b o e)) hl ?_ ?_ ?_ q
 .simp[Heap.push]
 .rw[a1Y];exact hz
 .rw[a1Y,hi.1];simpa using hlen
 .intro k x u e1 e2;have h3:=hi.2 k u e2;have hk':k<ys.length:=by have:=(C4.mp e1).1;simpa using this
  rw[a0F hk']at e1;obtain⟨u',e3,e4⟩:=r'.get e1;have:its[ys.length-1-k]?=some u:=by simpa[hlen]using h3
  rw[this]at e3;cases e3;exact e4
end
def je:List PV->Out PV
 |[.l xs]=>.ok (.l xs.reverse)
 |_=>.wall
def zy.of_get{W:RC}{M:Cd}{H:Hp}:∀{xs:Cy}{vs:Ck},xs.length=vs.length->(∀(j:Nat) x v,xs[j]?=some x->vs[j]?=some v->Rep W M H x v)->zy W M H xs vs
 |[],[],_,_=>rfl
 |x::xs,v::vs,hl,h=>⟨v,vs,rfl,h 0 x v rfl rfl,zy.of_get (by simpa using hl) λj y u e1 e2=>h (j+1) y u (by simpa using e1) (by simpa using e2)⟩
def zy.reverse(h:zy W M H xs vs):zy W M H xs.reverse vs.reverse:=by
 have hl:=h.len;refine zy.of_get (by simp[hl]) λj x v e1 e2=>?_;have hj:j<xs.length:=by have:=(C4.mp e1).1;simpa using this
 rw[a0F hj]at e1;rw[a0F (by omega),hl]at e2;obtain⟨u,h1,h2⟩:=h.get e1;rw[h1]at e2;cases e2;exact h2
def og:LfF W (t_ W.K) je:=λM C B H xs vs Q n h q=>by
 unfold je at q;split at q
 .obtain⟨v,r,rfl,⟨p,vs,rfl,_,hl,rr⟩,hr⟩:=h;cases(show _=_ from hr);exact⟨p,vs,rfl,SqL.of hl,λl hl=>q _ _ (zl.upd hl) (Jw (zy.reverse rr) hl)⟩
 .exact q.elim
def XT(hc:X.calm=true)(hgl:Gl X "list")(hml:X.mg "list"=none)(hg:Gl X "reversed")(hm:X.mg "reversed"=none)(ha:AM X C S ws [e] ms)(he:starEach [e] X.env=[(false,eval e X.env)]:=by rfl):FM X C S (.Call (.Name "list" p) [.Call (.Name "reversed" p') [e] [] pos'] [] pos) (zh je ms):=λhK=>by obtain⟨ta,a1,a2⟩:=ha hK;exact⟨_,dh (hK▸dj hc) hgl hml hg hm PyProof.Rows.boot_reversed a1 (he:=he),tw og a2⟩
section
variable {X:Cx}{C:LC}{S S' S1 S2 Sb Sc:Cb}{e:Co}{es:Ci}{ws:Cj}{ms:MA}{pos p pos':Pos}{x y:Str}{k i j:Nat}{f:Addr}{fd:CA}{ps:Cn}{fr:Bool}{g:Cw}{m1 m2:MS}
end
section
variable {P:Cq}{w:Cv}{K:CO}{mg:Cc}{base:Heap}
end
def Inv.swap(I:Inv X pins σ H s)(ha:H a=some u)(h1:∀xs,u≠.tup xs)(h2:∀o v,X.H₀ a≠some (.frz o v))(h3:∀ps,u≠.tbl ps)(h4:∀b,u≠.own b)(new:yk X.prog X.w (upd H a u') s.heap a u'):Inv X pins σ (upd H a u') s:=by
 have ne:∀b,H b=none->b≠a:=λb n z=>by rw[z,ha]at n;cases n
 have nt:∀b xs,H b=some (.tup xs)->b≠a:=λb xs q z=>by rw[z,ha]at q;cases q;exact h1 _ rfl
 have no:∀b c,H b=some (.own c)->b≠a:=λb c q z=>by rw[z,ha]at q;cases q;exact h4 _ rfl
 have nn:∀{b},b≠a->upd H a u' b=H b:=λz=>zc z;refine⟨I.ok,I.os,I.bare,⟨I.base.keep,I.base.slot,λb o q n hx=>?_,I.base.there,λb xs q=>?_,λb o v q=>?_,λb ps q=>?_⟩,I.loc,I.cell,?_,λx c q=>?_,λp hp=>?_,λb v q=>?_,I.len⟩
 .have:=I.base.free b o q n hx;rw[nn (ne b this)];exact this
 .have:=I.base.iX b xs q;rw[nn (nt b xs this)];exact this
 .have hb:b≠a:=λz=>h2 o v (z▸q);rw[nn hb];exact I.base.fL b o v q
 .obtain⟨more,e⟩:=I.base.f9 b ps q;have hb:b≠a:=λz=>by rw[z,ha]at e;cases e;exact h3 _ rfl
  exact⟨more,by rw[nn hb];exact e⟩
 .rw[nn (ne _ I.free)];exact I.free
 .rw[nn (ne _ (I.Qq x c q))];exact I.Qq x c q
 .obtain⟨p1,p2,p3⟩:=I.pin p hp;exact⟨p1,by rw[nn (ne _ p2)];exact p2,p3⟩
 .by_cases hb:b=a
  .subst hb;rw[zb]at q;cases q;exact new
  .rw[nn hb]at q;exact(I.hok b v q).fP (λ_ _ _ r=>r) (λc r=>by rw[nn (no c b r)];exact r) λc xs r=>by rw[nn (nt c xs r)];exact r
def Inv.dk(I:Inv X pins σ H s)(ha:H a=some (.dK es)):∀o v,X.H₀ a≠some (.frz o v):=λo v q=>by have:=I.base.fL a o v q;rw[ha]at this;cases this
def Inv.Bi(I:Inv X pins σ H s)(ha:H a=some (.dK es)):∃o,Inv X pins σ (upd H a (.frz o (.dK es))) s:=by obtain⟨z,hd,vs,rel,o,ed,ep,ho,hx⟩:=(show yk X.prog X.w H s.heap a (.dK es)from I.hok a _ ha);exact⟨o,I.swap ha (λ_=>by nofun) (I.dk ha) (λ_=>by nofun) (λ_=>by nofun) ⟨ho,z,hd,vs,rel,o,ed,ep,ho,hx⟩⟩
def Inv.p6(I:Inv X pins σ H s)(ha:H a=some (.frz o (.dK es)))(hz:∀o v,X.H₀ a≠some (.frz o v)):Inv X pins σ (upd H a (.dK es)) s:=
 I.swap ha (λ_=>by nofun) hz (λ_=>by nofun) (λ_=>by nofun) (show yk X.prog X.w H s.heap a (.frz o (.dK es))from I.hok a _ ha).2
def xt(o:Obj):Nat:=match o.data with | .dict _ ep=>ep|_=>0
def Itd(a:Addr)(o:Obj)(es:Cf):It:=
 ⟨λi H=>H a=some (.frz o (.dK es))/\i<es.length,λi H x H'=>H'=H/\∃k v,es[i]?=some (k,v)/\x=kV k,λi H=>H a=some (.frz o (.dK es))/\es.length<=i⟩
def dm(h:KV es vs):∀{i:Nat}{k:CT}{v:V},es[i]?=some (k,v)->∃w,vs[i]?=some (k,w):=by
 induction h with
 |nil=>intro i k v e;simp at e
 |@cons p q _ _ hp _ ih=>
  intro i k v e;cases i with
  |zero=>simp at e;subst e;exact⟨q.2,by simp;exact Prod.ext hp.1.symm rfl⟩
  |succ i=>simp at e ⊢;exact ih e
def Wx(h:(z7 P w).is k u=true):RelV (kV k) u:=by
 rw[Kx]at h;rcases zO h with⟨i,t,rfl,rfl⟩|⟨x,t,rfl,rfl⟩
 .exact⟨t,rfl⟩
 .exact⟨t,rfl⟩
def dq(ok:HOk P w H h)(e:H a=some (.frz o (.dK es))):(a==sysModules)=false/\∃vs,KV es vs/\h.DictAt (z7 P w) a vs (xt o):=by
 obtain⟨h0,_,hd,vs,rel,o',ed,ep,h1,h2,h3,h4⟩:=(show yk P w H h a (.frz o (.dK es))from ok a _ e);rw[h0]at h1;cases h1;have:xt o=ep:=by unfold xt;rw[h3]
 exact⟨hd,vs,rel,o,ed,h0,h2,by rw[this];exact h3,h4⟩
def dr{P:Cq}{w:Cv}{K:CO}{tg:Co}(a it:Addr)(o:Obj)(es:Cf):Turn P w K tg (Itd a o es) [it] it (λi h=>h.IsKeyIter it a i es.length (xt o))where
 mem:=by simp
 obj:=λi h st b hb=>by
  have e:b=it:=by simpa using hb
  subst e;obtain⟨o,e,c,d⟩:=st;exact⟨o,e,λv z=>by rw[d]at z;cases z⟩
 keep:=λi h h' st k=>st.at λo e=>k it (by simp) o e
 item:=by intro X hP hw hK hc i pins s σ H E I hf st hg;subst hP hw hK;obtain⟨ha,hi⟩:=hg;obtain⟨hd,vs,rel,dd⟩:=dq I.hok ha;have hx:es[i]?=some es[i]:=B9 hi;obtain⟨w,hw⟩:=dm rel (k:=es[i].1) (v:=es[i].2) hx;obtain⟨f0,f1,f2,f3,f4,f5⟩:=hf it (by simp);rw[N9 rel]at st;refine wpAny_pyNext_dict_item st dd hw λkey h' hk st' sb=>?_;have I1:Inv X pins σ H { s with heap:=h' }:=I.turned (t':=s.toks) (λb o hb e=>(sb.2 b hb).trans e) f0 f1 f3 f4 f5;obtain⟨q,e,c,d⟩:=id st';refine⟨key,rfl,gf (s:={ s with heap:=h' }) e c d (by decide) ⟨_,H,I1,Wx hk,⟨rfl,_,_,hx,rfl⟩,?_,λb hb=>(hf b hb).1⟩⟩;rw[N9 rel];exact st'
 done:=by intro X hP hw hK hc i pins s σ H E I hf st hg;subst hP hw hK;obtain⟨ha,hi⟩:=hg;obtain⟨hd,vs,rel,dd⟩:=dq I.hok ha;obtain⟨f0,f1,f2,f3,f4,f5⟩:=hf it (by simp);have hl:=N9 rel;rw[hl]at st;exact wpAny_pyNext_dict_end (I.ok.hd hc) st dd (a0n.mpr (by omega)) λh' eb=>⟨rfl,I.turned (t':=s.toks) (λb o hb e=>eb b o hb e) f0 f1 f3 f4 f5⟩
 self:=λ_ _ _ _ _ st h=>wpAny_pyIter_keyiter st h
def Wy(tl:TE):TI:=λσ H R=>tl σ H λx H1=>∃a o es,x=.ref a/\H1 a=some (.frz o (.dK es))/\R (Itd a o es) H1
def Q5(hl:PE X l tl):PI X tg l (Wy tl):=by
 intro pins s σ H R I h;refine thn (hl pins s σ H _ I h) λv s1 ⟨x,H1,I1,r1,a,o,es,e,ha,q⟩=>?_;subst e;cases r1;obtain⟨hd,vs,rel,dd⟩:=dq I1.hok ha;refine a1d hd dd ?_;refine⟨s1.heap.objs.size,[s1.heap.objs.size],_,_,H1,rfl,I1.kept (t':=s1.toks) λb o e=>B6 _ e,dr a _ o es,?_,λb hb=>?_,q⟩
 .rw[N9 rel];exact⟨_,E2 _ rfl,rfl,rfl⟩
 have e:b=s1.heap.objs.size:=by simpa using hb
 subst e;exact I1.rJ (B7 _) (I1.hok.fresh (B7 _))
def lV(h:Rd H a (.dK es))(h':Rd H a (.dK es')):es'=es:=by rcases h with h|⟨o,h⟩<;>rcases h' with h'|⟨o',h'⟩<;>rw[h]at h'<;>cases h'<;>rfl
section
variable {W:RC}{M:Cd}{H H':Hp}{a:Addr}{es:Cf}
def QW(h1:Rd H a (.dK es))(h:H b=some u)(hu:∀es,u≠.dK es)(hu2:∀o es,u≠.frz o (.dK es)):b≠a:=λz=>by
 subst z;rcases h1 with z|⟨o,z⟩<;>rw[z]at h<;>cases h
 .exact hu _ rfl
 .exact hu2 _ _ rfl
def wM(h1:Rd H a (.dK es))(hne:∀b,b≠a->H' b=H b)(h:Rd H b u)(hu:∀es,u≠.dK es)(hf:∀o v,u≠.frz o v):Rd H' b u:=by
 rcases h with h|⟨o,h⟩
 .exact .inl ((hne b (QW h1 h hu λo es=>hf o _)).trans h)
 .exact .inr ⟨o,(hne b (QW h1 h (λ_=>by nofun) λo es z=>by cases z;exact hu _ rfl)).trans h⟩
mutual
def Rep.sw(h1:Rd H a (.dK es))(h2:Rd H' a (.dK es))(hne:∀b,b≠a->H' b=H b):∀{x:PV}{v:V},Rep W M H x v->Rep W M H' x v
 |.i n,v,h=>h
 |.s x,v,h=>h
 |.b c,v,h=>h
 |.n,v,h=>h
 |.l xs,v,h=>by unfold Rep at h ⊢;obtain⟨p,vs,e,m,r,q⟩:=h;exact⟨p,vs,e,m,(hne p (QW h1 r (λ_=>by nofun) λ_ _=>by nofun)).trans r,zy.sw h1 h2 hne q⟩
 |.sc ns,v,h=>by unfold Rep at h ⊢;obtain⟨p,e,r⟩:=h;exact⟨p,e,r.elim (λz=>.inl ⟨z.1,wM h1 hne z.2 (λ_=>by nofun) λ_ _=>by nofun⟩) .inr⟩
 |.dt kvs,v,h=>by unfold Rep at h ⊢;obtain⟨p,e,m,r⟩:=h;exact⟨p,e,m,wM h1 hne r (λ_=>by nofun) λ_ _=>by nofun⟩
 |.t xs,v,h=>by unfold Rep at h ⊢;obtain⟨p,vs,e,r,q⟩:=h;exact⟨p,vs,e,r.elim (λz=>.inl (wM h1 hne z (λ_=>by nofun) λ_ _=>by nofun)) .inr,zy.sw h1 h2 hne q⟩
 |.d kvs,v,h=>by
  unfold Rep at h ⊢;obtain⟨p,vs,e,m,r,q⟩:=h;refine⟨p,vs,e,m,?_,yE.sw h1 h2 hne q⟩;by_cases hp:p=a
  .subst hp;rw[lV h1 r];exact h2
  .unfold Rd;rw[hne p hp];exact r
 |.o c fs,v,h=>by unfold Rep at h ⊢;obtain⟨p,dx,vs,e,m,r,q⟩:=h;exact⟨p,dx,vs,e,m,(hne p (QW h1 r (λ_=>by nofun) λ_ _=>by nofun)).trans r,vo.sw h1 h2 hne q⟩
 |.x c fs,v,h=>by unfold Rep at h ⊢;obtain⟨p,dx,vs,e,r,r2,q⟩:=h;exact⟨p,dx,vs,e,(hne p (QW h1 r (λ_=>by nofun) λ_ _=>by nofun)).trans r,(hne dx (QW h1 r2 (λ_=>by nofun) λ_ _=>by nofun)).trans r2,vo.sw h1 h2 hne q⟩
def zy.sw(h1:Rd H a (.dK es))(h2:Rd H' a (.dK es))(hne:∀b,b≠a->H' b=H b):∀{x:Cy}{v:Ck},zy W M H x v->zy W M H' x v
 |[],v,h=>h
 |x::xs,vs,h=>by unfold zy at h ⊢;obtain⟨v,r,e,q1,q2⟩:=h;exact⟨v,r,e,Rep.sw h1 h2 hne q1,zy.sw h1 h2 hne q2⟩
def yE.sw(h1:Rd H a (.dK es))(h2:Rd H' a (.dK es))(hne:∀b,b≠a->H' b=H b):∀{x:Cu}{v:Cf},yE W M H x v->yE W M H' x v
 |[],v,h=>h
 | (k,x)::xs,vs,h=>by unfold yE at h ⊢;obtain⟨v,r,e,q1,q2⟩:=h;exact⟨v,r,e,Rep.sw h1 h2 hne q1,yE.sw h1 h2 hne q2⟩
def vo.sw(h1:Rd H a (.dK es))(h2:Rd H' a (.dK es))(hne:∀b,b≠a->H' b=H b):∀{x:CD}{v:CP},vo W M H x v->vo W M H' x v
 |[],v,h=>h
 | (k,x)::xs,vs,h=>by unfold vo at h ⊢;obtain⟨v,r,e,q1,q2⟩:=h;exact⟨v,r,e,Rep.sw h1 h2 hne q1,vo.sw h1 h2 hne q2⟩
end
def zT.sw{N:Cd}{x:PV}{v:V}(h1:Rd H a (.dK es))(h2:Rd H' a (.dK es))(hne:∀b,b≠a->H' b=H b)(h:zT W N M H x v):zT W N M H' x v:=by
 cases x with
 |l xs=>obtain⟨p,vs,e,m,r,q⟩:=h;exact⟨p,vs,e,m,(hne p (QW h1 r (λ_=>by nofun) λ_ _=>by nofun)).trans r,q.sw h1 h2 hne⟩
 |d kvs=>
  obtain⟨p,vs,e,m,r,q⟩:=h;refine⟨p,vs,e,m,?_,q.sw h1 h2 hne⟩;by_cases hp:p=a
  .subst hp;rw[lV h1 r];exact h2
  .unfold Rd;rw[hne p hp];exact r
 |sc ns=>obtain⟨p,e,r⟩:=h;exact⟨p,e,r.elim (λz=>.inl ⟨z.1,wM h1 hne z.2 (λ_=>by nofun) λ_ _=>by nofun⟩) .inr⟩
 |dt kvs=>obtain⟨p,e,m,r⟩:=h;exact⟨p,e,m,wM h1 hne r (λ_=>by nofun) λ_ _=>by nofun⟩
 |o c fs=>obtain⟨p,dx,vs,e,m,r,q⟩:=h;exact⟨p,dx,vs,e,m,(hne p (QW h1 r (λ_=>by nofun) λ_ _=>by nofun)).trans r,q.sw h1 h2 hne⟩
 |i n=>exact Rep.sw h1 h2 hne h
 |s n=>exact Rep.sw h1 h2 hne h
 |b n=>exact Rep.sw h1 h2 hne h
 |n=>exact Rep.sw h1 h2 hne h
 |t n=>exact Rep.sw h1 h2 hne h
 |x c n=>exact Rep.sw h1 h2 hne h
def Kj.sw{p:Addr}{x:PV}(hp:p≠a)(h1:Rd H a (.dK es))(h2:Rd H' a (.dK es))(hne:∀b,b≠a->H' b=H b)(h:Kj W M H p x):Kj W M H' p x:=by
 cases x with
 |l xs=>obtain⟨vs,e,q⟩:=h;exact⟨vs,(hne p hp).trans e,q.sw h1 h2 hne⟩
 |d kvs=>obtain⟨vs,e,q⟩:=h;exact⟨vs,(hne p hp).trans e,q.sw h1 h2 hne⟩
 |dt kvs=>exact(hne p hp).trans h
 |o c fs=>obtain⟨dx,vs,e,q⟩:=h;exact⟨dx,vs,(hne p hp).trans e,q.sw h1 h2 hne⟩
 |i n=>exact h.elim
 |s n=>exact h.elim
 |b n=>exact h.elim
 |n=>exact h.elim
 |t n=>exact h.elim
 |x c n=>exact h.elim
 |sc n=>exact h.elim
end
def Bs.at'(B:Bs)(a:Addr)(u:HO):Bs:=⟨upd B.H0 a u,B.M0,B.N0,λb h=>by
 by_cases e:b=a
 .rw[e,zb];exact λz=>by cases z
 .rw[zc e];exact B.nz b h,B.pin,B.xc⟩
section
variable {W:RC}{B:Bs}{S S':Cb}{P P':Cm}{H H':Hp}{σ σ':St}{ρ ρ':Sto}{a:Addr}{es:Cf}{u u':HO}
def Vh(h0:B.H0 a≠none):(B.at' a u).H0 b=none↔B.H0 b=none:=by
 show upd B.H0 a u b=none↔_;by_cases e:b=a
 .subst e;rw[zb];exact⟨λz=>(by cases z),λz=>absurd z h0⟩
 .rw[zc e]
def ua(h0:B.H0 a≠none):(B.at' a u).Mt b↔B.Mt b:=or_congr a1h (Vh h0)
def lW(h0:B.H0 a≠none):Mof (B.at' a u) S P b↔Mof B S P b:=and_congr (and_congr (ua h0) a1h) a1h
def DU(es:Cf)(u:HO):Prop:=u=.dK es\/∃o,u=.frz o (.dK es)
def DU.rd(h:DU es u)(e:H a=some u):Rd H a (.dK es):=h.elim (λz=>.inl (z▸e)) λ⟨o,z⟩=>.inr ⟨o,z▸e⟩
def Rel.sw(R:Rel W B S P H σ ρ)(h0:B.H0 a=some u)(du:DU es u)(du':DU es u'):Rel W (B.at' a u') S P (upd H a u') σ ρ:=by
 have ha:H a=some u:=R.same a u h0;have n0:B.H0 a≠none:=by rw[h0];exact λz=>by cases z
 have h1:Rd H a (.dK es):=du.rd ha;have h2:Rd (upd H a u') a (.dK es):=du'.rd zb;have hne:∀b,b≠a->upd H a u' b=H b:=λb z=>zc z;have hM:Mof B S P=Mof (B.at' a u') S P:=funext λb=>propext (lW n0).symm;have pa:∀{i},S[i]?=some 2->P i≠a:=λ{i} hi z=>n0 (z▸(R.act i hi).1);refine⟨λb o h=>?_,R.len,λi x e=>?_,λi hi=>⟨(Vh n0).mpr (R.act i hi).1,?_⟩,R.inj,R.pin,λb h=>?_,R.axc⟩
 .have h:upd B.H0 a u' b=some o:=h;by_cases e:b=a
  .subst e;rw[zb]at h ⊢;exact h
  .rw[zc e]at h ⊢;exact R.same b o h
 .obtain⟨v,q1,q2,q3,q4⟩:=R.var i x e;rw[<- hM];exact⟨v,q1,λz=>⟨(q2 z).1,(q2 z).2.sw (pa z) h1 h2 hne⟩,λz=>(q3 z).sw h1 h2 hne,λz z'=>(q4 z z').sw h1 h2 hne⟩
 .obtain⟨o,e,n⟩:=(R.act i hi).2;exact⟨o,(hne _ (pa hi)).trans e,n⟩
 .obtain⟨o,e,n,z⟩:=R.exc b h;have:b≠a:=λq=>n0 (q▸z);exact⟨o,(hne b this).trans e,n,(Vh n0).mpr z⟩
def Ar:(B.at' a u').at' a u''=B.at' a u'':=by
 unfold Bs.at';congr 1
 funext b
 show upd (upd B.H0 a u') a u'' b=upd B.H0 a u'' b;rw[YW]
def oh(h0:B.H0 a=some u):B.at' a u=B:=by
 cases B;unfold Bs.at';congr 1
 funext b
 by_cases e:b=a
 .subst e;rw[zb];exact h0.symm
 .rw[zc e]
def Rel.ws(h0:B.H0 a=some u)(du:DU es u)(du':DU es u')(R:Rel W (B.at' a u') S P H σ ρ):Rel W B S P (upd H a u) σ ρ:=by have:=Rel.sw (u:=u') (u':=u) R zb du' du;rw[Ar,oh h0]at this;exact this
def dv(h0:B.H0 a=some u)(s:zl (B.at' a u').H0 H):zl B.H0 (upd H a u):=λb o h=>by
 by_cases e:b=a
 .subst e;rw[h0]at h;rw[zb];exact h
 .rw[zc e];exact s b o (show upd B.H0 a u' b=some o by rw[zc e];exact h)
end
def Df(a:Addr)(es:Cf)(D:Ends):Ends where
 nx:=λσ H=>(∃o,H a=some (.frz o (.dK es)))/\D.nx σ (upd H a (.dK es))
 rt:=λv H=>(∃o,H a=some (.frz o (.dK es)))/\D.rt v (upd H a (.dK es))
 bk:=λσ H=>(∃o,H a=some (.frz o (.dK es)))/\D.bk σ (upd H a (.dK es))
 ct:=λσ H=>(∃o,H a=some (.frz o (.dK es)))/\D.ct σ (upd H a (.dK es))
def Ef(a:Addr)(es:Cf)(E:XK):XK:=λv d H=>(∃o,H a=some (.frz o (.dK es)))/\E v d (upd H a (.dK es))
def oi{W:RC}{E:XK}{fr:Bool}{B:Bs}{S' Sb Sc:Cb}{D:Ends}{a:Addr}{es:Cf}{o:Obj}{out:Out Fw}(h0:B.H0 a=some (.dK es))(q:w8 ⟨W,E,fr⟩ B S' Sb Sc D out):w8 ⟨W,Ef a es E,fr⟩ (B.at' a (.frz o (.dK es))) S' Sb Sc (Df a es D) out:=by
 have n0:B.H0 a≠none:=by rw[h0];exact λz=>by cases z
 have du:DU es (.dK es):=.inl rfl;have du':DU es (.frz o (.dK es)):=.inr ⟨o,rfl⟩;have ea:(B.at' a (.frz o (.dK es))).H0 a=some (.frz o (.dK es)):=zb;have sw:∀{H:Hp}{u:HO},H a=some (.frz o (.dK es))->Rd H a (.dK es)/\Rd (upd H a (.dK es)) a (.dK es)/\∀b,b≠a->upd H a (.dK es) b=H b:=λh=>⟨.inr ⟨o,h⟩,.inl zb,λb z=>zc z⟩;have mt:(B.at' a (.frz o (.dK es))).Mt=B.Mt:=funext λb=>propext (ua n0);cases out with
 |wall=>exact q
 |exc c fs=>
  intro e dx vs H2 s e1 e2 e3;have ha:=s a _ ea;obtain⟨w1,w2,w3⟩:=sw (u:=.dK es) ha;have ne1:e≠a:=QW w1 e1 (λ_=>by nofun) λ_ _=>by nofun
  have ne2:dx≠a:=QW w1 e2 (λ_=>by nofun) λ_ _=>by nofun
  exact⟨⟨o,ha⟩,q e dx vs _ (dv h0 s) ((w3 e ne1).trans e1) ((w3 dx ne2).trans e2) ((mt▸e3).sw w1 w2 w3)⟩
 |ok f=>
  cases f with
  |nx ρ'=>exact λP' H' σ' R'=>⟨⟨o,R'.same a _ ea⟩,q P' _ σ' (Rel.ws h0 du du' R')⟩
  |bk ρ'=>exact λP' H' σ' R'=>⟨⟨o,R'.same a _ ea⟩,q P' _ σ' (Rel.ws h0 du du' R')⟩
  |ct ρ'=>exact λP' H' σ' R'=>⟨⟨o,R'.same a _ ea⟩,q P' _ σ' (Rel.ws h0 du du' R')⟩
  |rt x=>
   intro v H' s r;have ha:=s a _ ea;obtain⟨w1,w2,w3⟩:=sw (u:=.dK es) ha;refine⟨⟨o,ha⟩,q v _ (dv h0 s) ?_⟩;unfold nQ at r ⊢;cases fr with
   |true=>rw[if_pos rfl]at r ⊢;obtain⟨p,e,hp,r⟩:=r;have hp':B.H0 p=none:=(Vh n0).mp hp;have:p≠a:=λz=>n0 (z▸hp');exact⟨p,e,hp',(mt▸r).sw this w1 w2 w3⟩
   |false=>rw[if_neg C9]at r ⊢;exact(mt▸r).sw w1 w2 w3
def gQ(h:a≠b):upd (upd H a u) b v=upd (upd H b v) a u:=by
 funext c
 by_cases e1:c=a
 .subst e1;rw[zc h,zb,zb]
 .by_cases e2:c=b
  .subst e2;rw[zb,zc e1,zb]
  .rw[zc e2,zc e1,zc e1,zc e2]
def tFz(ts:XK->TS)(E:XK):TS:=λD σ H=>(∃a es,H a=some (.dK es)/\∀o,ts (Ef a es E) (Df a es D) σ (upd H a (.frz o (.dK es))))\/ts E D σ H
def ub{X:Cx}{E:XK}{st:CV}{ts:XK->TS}(h:∀E',PS (thr X E') st (ts E')):PS (thr X E) st (tFz ts E):=by
 intro pins s σ H D I q;rcases q with⟨a,es,ha,q⟩|q
 .obtain⟨o,I1⟩:=I.Bi ha;have hz:∀o v,X.H₀ a≠some (.frz o v):=I.dk ha;refine L4 (h (Ef a es E) pins s σ _ (Df a es D) (I1.jm.Kh _) (q o)) (λf s1 z=>?_) λv s1 z=>?_
  .cases f with
   |next=>obtain⟨σ',H',J,⟨o',hf⟩,d⟩:=z;exact⟨σ',_,Inv.p6 (J.jm.Kh _) hf hz,d⟩
   |brk=>obtain⟨σ',H',J,⟨o',hf⟩,d⟩:=z;exact⟨σ',_,Inv.p6 (J.jm.Kh _) hf hz,d⟩
   |cont=>obtain⟨σ',H',J,⟨o',hf⟩,d⟩:=z;exact⟨σ',_,Inv.p6 (J.jm.Kh _) hf hz,d⟩
   |ret u=>obtain⟨v,σ',H',J,rv,⟨o',hf⟩,d⟩:=z;exact⟨v,σ',_,Inv.p6 (J.jm.Kh _) hf hz,rv,d⟩
  .obtain⟨σ',H',e,C,dx,rfl,J,f,⟨o',hf⟩,d⟩:=z;have ne:e≠a:=λz=>by subst z;rw[zb]at hf;cases hf
   rw[zc ne.symm]at hf;rw[gQ ne]at d;refine⟨σ',_,e,C,dx,rfl,Inv.p6 J hf hz,?_,d⟩;obtain⟨T,he,ht⟩:=f;refine⟨T,by rw[zc ne];exact he,ht.imp id λ⟨Ta,fl,e1,b,h2⟩=>⟨Ta,fl,e1,⟨b.tbk,b.new,?_,b.pin⟩,h2⟩⟩;have:Ta≠a:=λz=>by have:=b.free;rw[z,hf]at this;cases this
   rw[zc this];exact b.free
 .exact h E pins s σ H D I q
def kP:Key->PV
 |.inl i=>.i i
 |.inr x=>.s x
def lX{W:RC}{M:Cd}{H:Hp}:∀k:Key,Rep W M H (kP k) (kV k)
 |.inl _=>rfl
 |.inr _=>rfl
def zv(i:Nat):MI:=λρ=>match ρ[i]? with
 |some (some (.d kvs))=>.ok (kvs.map λkx=>kP kx.1)
 |_=>.wall
def vJ{W:RC}{M N:Cd}{H2:Hp}{a:Addr}{o:Obj}{es:Cf}{kvs:Cu}(ha:H2 a=some (.frz o (.dK es)))(hk:es.map (·.1)=kvs.map (·.1)):p5 W M N H2 (Itd a o es) (kvs.map λkx=>kP kx.1):=λH' f=>by
 have ha':=f a _ ha (.inr trivial);have hl:es.length=kvs.length:=by simpa using M5 List.length hk
 refine⟨λi x hx=>?_,ha',by rw[u8];omega⟩;rw[D5]at hx;obtain⟨kx,hkx,rfl⟩:=v4.mp hx;have hi:i<kvs.length:=(C4.mp hkx).1;refine⟨⟨ha',by omega⟩,λv H'' hy=>?_⟩;obtain⟨rfl,k,w,hes,rfl⟩:=hy;have:k=kx.1:=by
  have h1:(es.map (·.1))[i]?=some k:=by rw[D5,hes];rfl
  rw[hk,D5,hkx]at h1;cases h1;rfl
 subst this;exact⟨zl.refl _,λ_ _=>lX _⟩
section
variable {X:Cx}{W:RC}{E:XK}{fr:Bool}{S S1 Sb Sc:Cb}{tg yM:Co}{body:CQ}{mg:MG}{mb:MS}{pos:Pos}{i:Nat}
def XU(R:Rel W B S P H σ ρ)(hS:S[i]?≠some 2)(hx:ρ[i]?=some (some (.d kvs))):∃a es,σ[i]?=some (some (.ref a))/\NA B S P a/\Rd H a (.dK es)/\es.map (·.1)=kvs.map (·.1):=by
 obtain⟨v,h1,_,h3,h4⟩:=R.var i _ hx;by_cases c:S[i]?=some 1
 .obtain⟨a,es,rfl,n,r,rk⟩:=h3 c;have h0:=B.nz a n;exact⟨a,es,h1,⟨λz=>h0 (R.exc a z).choose_spec.2.2,λj hj e=>h0 (e▸(R.act j hj).1)⟩,r,(yE.iff.mp rk).1⟩
 .obtain⟨a,es,rfl,m,r,rk⟩:=h4 hS c;exact⟨a,es,h1,Mof.na m,r,(yE.iff.mp rk).1⟩
def XW(R:Rel W B S P H σ ρ)(na:NA B S P a)(h:H a=some u):(B.loop S P H R.hz).H0 a=some u:=by unfold Bs.loop;dsimp only;rw[if_neg λz=>z.elim (λ⟨j,hj,e⟩=>na.2 j hj e) na.1];exact h
def vL(hc:X.calm=true)(own:Own X)(hv:∀E',PE (thr X E') yM (V2 i))(hg:∀E',GM (thr X E') ⟨W,E',fr⟩ S S1 tg mg)(hb:∀E',SsM (thr X E') ⟨W,E',fr⟩ S1 S S S body mb)(hS:S[i]?≠some 2:=by decide)(hs:∀x,foldedSetIterable yM X.env x=pure x:=by intro _;rfl):
  SM (thr X E) ⟨W,E,fr⟩ S S Sb Sc (.For tg yM body [] pos) (kN (zv i) mg mb):=λhK=>by
 refine⟨tFz (λE' D σ H=>∃g tb,PG (thr X E') tg g/\PSs (thr X E') body tb/\pX (Wy (V2 i)) g tb D σ H) E,ub λE' pins s σ H D I ⟨g,tb,p1,p2,q⟩=>Kz (X:=thr X E') (zx own) hc (Q5 (hv E')) p1 p2 hs pins s σ H D I q,λB P H σ ρ R D q=>?_⟩;cases hx:ρ[i]? with
 |none=>unfold kN zv at q;rw[hx]at q;exact q.elim
 |some z=>
  cases z with
  |none=>unfold kN zv at q;rw[hx]at q;exact q.elim
  |some y=>
   cases y with
   |d kvs=>
    obtain⟨a,es,hσ,na,hrd,hk⟩:=XU R hS hx;have hm:zv i ρ=.ok (kvs.map λkx=>kP kx.1):=by unfold zv;rw[hx]
    rcases hrd with ha|⟨o,ha⟩
    .refine .inl ⟨a,es,ha,λo=>?_⟩;obtain⟨g,p1,lg⟩:=hg (Ef a es E) hK;obtain⟨tb,p2,lb⟩:=hb (Ef a es E) hK;have R1:=R.loop;have h0:=XW R na ha;have Rf:=R1.sw (u':=.frz o (.dK es)) h0 (.inl rfl) (.inr ⟨o,rfl⟩);refine⟨g,tb,p1,p2,Ve (mi:=zv i) (C:=⟨W,Ef a es E,fr⟩) (Sb:=Sb) (Sc:=Sc) (λRr qq=>?_) lg lb Rf _ (oi h0 ?_)⟩
     .rw[hm]at qq;exact⟨.ref a,hσ,a,o,es,rfl,zb,qq _ _ (zl.refl _) (vJ zb hk)⟩
     .revert q;cases kN (zv i) mg mb ρ with
      |wall=>exact id
      |exc c fs=>exact λq=>UN (C:=⟨W,E,fr⟩) rfl R q
      |ok f=>
       cases f with
       |nx ρ'=>exact λq P' H' σ' R'=>q P' H' σ' (R.Wr R')
       |bk ρ'=>exact λq P' H' σ' R'=>q P' H' σ' (R.Wr R')
       |ct ρ'=>exact λq P' H' σ' R'=>q P' H' σ' (R.Wr R')
       |rt x=>exact λq v H' s r=>q v H' ((Z_ R).trans s) (cX (C:=⟨W,E,fr⟩) rfl R r)
    .obtain⟨g,p1,lg⟩:=hg E hK;obtain⟨tb,p2,lb⟩:=hb E hK;refine .inr ⟨g,tb,p1,p2,Ve (mi:=zv i) (C:=⟨W,E,fr⟩) (Sb:=Sb) (Sc:=Sc) (λRr qq=>?_) lg lb R D q⟩;rw[hm]at qq;exact⟨.ref a,hσ,a,o,es,rfl,ha,qq _ _ (zl.refl _) (vJ ha hk)⟩
   |i n=>unfold kN zv at q;rw[hx]at q;exact q.elim
   |s n=>unfold kN zv at q;rw[hx]at q;exact q.elim
   |b n=>unfold kN zv at q;rw[hx]at q;exact q.elim
   |n=>unfold kN zv at q;rw[hx]at q;exact q.elim
   |l n=>unfold kN zv at q;rw[hx]at q;exact q.elim
   |t n=>unfold kN zv at q;rw[hx]at q;exact q.elim
   |o c n=>unfold kN zv at q;rw[hx]at q;exact q.elim
   |x c n=>unfold kN zv at q;rw[hx]at q;exact q.elim
   |sc n=>unfold kN zv at q;rw[hx]at q;exact q.elim
   |dt n=>unfold kN zv at q;rw[hx]at q;exact q.elim
end
def tGz(te:TE):TE:=λσ H Q=>(∃a es,H a=some (.dK es)/\∀o,te σ (upd H a (.frz o (.dK es))) (λv H2=>(∃o,H2 a=some (.frz o (.dK es)))/\Q v (upd H2 a (.dK es))))\/te σ H Q
def uc(h:PE X e te):PE X e (tGz te):=by
 intro pins s σ H Q I q;rcases q with⟨a,es,ha,q⟩|q
 .obtain⟨o,I1⟩:=I.Bi ha;have hz:∀o v,X.H₀ a≠some (.frz o v):=I.dk ha;refine thn (h pins s σ _ _ I1 (q o)) λv s1 ⟨x,H',J,rv,⟨o',hf⟩,d⟩=>⟨x,_,J.p6 hf hz,rv,d⟩
 .exact h pins s σ H Q I q
def Yc{g:MG}{c:MT}{e:ME}{k:Nat}{fs:CD}:∀{xs:Cy}{ρ:Sto}{acc:Cy},lcP g c e xs ρ acc≠.exc k fs
 |[],ρ,acc=>by unfold lcP;exact λz=>by cases z
 |x::xs,ρ,acc=>by
  unfold lcP;cases g x ρ with
  |none=>exact λz=>by cases z
  |some ρ1=>
   show(noX (c ρ1)).bind _≠_;cases c ρ1 with
   |wall=>exact λz=>by cases z
   |exc _ _=>exact λz=>by cases z
   |ok t=>
    show(if t=true then _ else _)≠_;split
    .cases e ρ1 with
     |wall=>exact λz=>by cases z
     |exc _ _=>exact λz=>by cases z
     |ok y=>
      show(if acc.length<sizeLine then _ else _)≠_;split
      .exact Yc
      .exact λz=>by cases z
    .exact Yc
def ud{g:TG}{tc:TT}{te:TE}{fr:Ct}{Si:Cb}(hS2:S[i]?≠some 2)(hS:Si=inS S fr)(hg:LG ⟨C.W,E0,false⟩ Si Si g mg)(ht:LT ⟨C.W,E0,false⟩ Si tc mc)(he:LE ⟨C.W,E0,false⟩ Si false te me):LFr C S (tGz (tLC (Wy (V2 i)) g tc te fr)) (mLC (zv i) fr mg mc me):=λB P H σ ρ R Q q=>by
 cases hx:zv i ρ with
 |wall=>unfold mLC at q;rw[hx]at q;exact q.elim
 |exc c fs=>unfold zv at hx;split at hx<;>cases hx
 |ok xs=>
  obtain⟨kvs,hρ⟩:∃kvs,ρ[i]?=some (some (.d kvs)):=by
   unfold zv at hx;split at hx
   .rename_i kvs h;exact⟨kvs,h⟩
   .cases hx
  have hxs:xs=kvs.map λkx=>kP kx.1:=by unfold zv at hx;rw[hρ]at hx;cases hx;rfl
  subst hxs;obtain⟨a,es,hσ,na,hrd,hk⟩:=XU R hS2 hρ;rcases hrd with ha|⟨o,ha⟩
  .refine .inl ⟨a,es,ha,λo=>?_⟩;have h0:=XW R na ha;have Rf:=R.loop.sw (u':=.frz o (.dK es)) h0 (.inl rfl) (.inr ⟨o,rfl⟩);refine XS (C:=C) (mi:=zv i) (λRr qq=>?_) rfl hS hg ht he Rf _ ?_
   .rw[hx]at qq;exact⟨.ref a,hσ,a,o,es,rfl,zb,qq _ _ (zl.refl _) (vJ zb hk)⟩
   .unfold mLC at q ⊢;rw[hx]at q ⊢;have q:zE C B H (RFr C.W (Mof B S P) H) Q (lcP mg mc me (kvs.map λkx=>kP kx.1) (w_ ρ fr) []):=q;show zE C _ _ _ _ (lcP mg mc me (kvs.map λkx=>kP kx.1) (w_ ρ fr) []);revert q;cases ho:lcP mg mc me (kvs.map λkx=>kP kx.1) (w_ ρ fr) []with
    |wall=>exact id
    |exc c fs=>exact absurd ho Yc
    |ok x=>
     intro q v H2 s r;have hf:=s a _ (zb (H:=H) (o:=.frz o (.dK es)));refine⟨⟨o,hf⟩,q v _ (λb u hb=>?_) ?_⟩
     .by_cases e:b=a
      .subst e;rw[ha]at hb;rw[zb];exact hb
      .rw[zc e];exact s b u (by rw[zc e];exact hb)
     .obtain⟨p,e,hp,r⟩:=r;have pa:p≠a:=λz=>by rw[z,zb]at hp;cases hp
      rw[zc pa]at hp;refine⟨p,e,hp,Kj.sw pa (.inr ⟨o,hf⟩) (.inl zb) (λb z=>zc z) (r.gen rfl Fr.refl λb m _=>⟨?_,m.2⟩)⟩;have n0:(B.loop S P H R.hz).H0 a≠none:=by rw[h0];exact λz=>by cases z
      have m1:=(lW n0).mp m.1;exact⟨⟨JB R m1.1.1,m1.1.2⟩,m1.2⟩
  .refine .inr (XS (C:=C) (mi:=zv i) (λRr qq=>?_) rfl hS hg ht he R _ q);rw[hx]at qq;exact⟨.ref a,hσ,a,o,es,rfl,ha,qq _ _ (zl.refl _) (vJ ha hk)⟩
def UR(N:Cn)(fr:Ct)(Si:Cb)(hc:X.calm=true)(hok:bJ X scope N fr=true)(hv:PE X yM (V2 i))(hg:∀z:CI,GM (cxI X scope N z) ⟨C.W,E0,false⟩ Si Si tg mg)(ht:∀z:CI,TsM (cxI X scope N z) ⟨C.W,E0,false⟩ Si ifs mc)(he:∀z:CI,EM (cxI X scope N z) ⟨C.W,E0,false⟩ Si false elt me)(hS2:S[i]?≠some 2:=by decide)(hS:Si=inS S fr:=by rfl)
  (hs:∀x,foldedSetIterable yM X.env x=pure x:=by intro _;rfl):FM X C S (.ListComp elt [⟨tg,yM,ifs,0⟩] scope pos) (mLC (zv i) fr mg mc me):=λhK=>by
 obtain⟨g,b1,b2⟩:=JG hg λ_=>hK;obtain⟨tc,c1,c2⟩:=JF ht λ_=>hK;obtain⟨te,d1,d2⟩:=XR he λ_=>hK;exact⟨_,uc (nE N fr hc hok (Q5 hv) (λfp pn s H L=>b1 ⟨fp,pn,s,H,L⟩) (λfp pn s H L=>c1 ⟨fp,pn,s,H,L⟩) (λfp pn s H L=>d1 ⟨fp,pn,s,H,L⟩) hs),ud hS2 hS b2 c2 d2⟩
def ue:List V->Hp->VK->Prop:=λvs H Q=>∃(p:Addr)(es:Cf),vs=[.ref p]/\Rd H p (.dK es)/\∀l,H l=none->Q (.ref l) (upd H l (.dK es))
def bc:ZG X (.type "dict") ue:=by intro pins s σ H xs us Q I r h;obtain⟨p,es,rfl,hS,q⟩:=h;obtain⟨u,rfl,ru⟩:=vals1 r;cases ru;exact gu I hS λl s' hl I'=>⟨.ref l,_,I',rfl,q l hl⟩
section
variable {X:Cx}{C:LC}{S Sb Sc:Cb}{o e a:Co}{es:Ci}{w w1 w2:Bool}{ws:Cj}{m m1 m2:ME}{ms:MA}{pos p Zd ky:Pos}{i:Nat}
end
def Xi(prog:Cq)(w:Cv)(A:Cz)(s:Ce)(y x:Value)(b:Bool):Prop:=∀(E:B_)(Q:Bool->Shared->Prop),Q b s->wpAny (model prog w) A (eqBool y x) Q E s
def p7(prog:Cq)(w:Cv)(A:Cz)(s:Ce)(y x:Value)(b:Bool):Prop:=∀(E:B_)(Q:B_),Q (.bool b) s->wpAny (model prog w) A (richCompare .Eq y x) Q E s
def uf(prog:Cq)(w:Cv)(A:Cz)(s:Ce)(y x:Value)(b:Bool):Prop:=∀(E:B_)(Q:B_),Q (.bool b) s->wpAny (model prog w) A (richCompare .NotEq y x) Q E s
def US(prog:Cq)(w:Cv)(l b:Addr)(xs ys:CG)(n m:Nat)(d1 d2:CH)(sl1 sl2:CB)(hsz:xs.size=ys.size)(e:Dq):∀(k i:Nat),xs.size-i=k->
  MeetsIn prog w (Builtin.«list.__eq__.loop» ⟨[.ref l,.ref b,rawInt i,rawInt 2],[]⟩) (λA R s=>s.heap.get? l=some { cls:=.type "list",dict:=d1,data:=.seq xs n,slots:=sl1 }/\s.heap.get? b=some { cls:=.type "list",dict:=d2,data:=.seq ys m,slots:=sl2 }/\
   (∀j (h1:j<xs.size) (h2:j<ys.size),Xi prog w A.in1 s xs[j] ys[j] (e j))/\R (.ok (.ret (.bool (((List.range xs.size).drop i).all e)))) s)
 |0,i,hk=>λA R s h=>by
  obtain⟨hp,g,d,tk,os⟩:=s;obtain⟨h1,h2,he,h⟩:=h
  wp_walk using D4 h1,D4 h2
  have o1:xs[((i:Nat):Int).toNat]?=none:=by simp;omega
  have o2:ys[((i:Nat):Int).toNat]?=none:=by simp;omega
  have od:(List.range xs.size).drop i=[]:=by simp;omega
  rw[od]at h;rw[o1,o2]
  wp_walk using D4 h1,D4 h2
  show R (.ok (.ret (.bool (xs.size==ys.size)))) _;rw[hsz];simpa using h
 |k+1,i,hk=>λA R s h=>by
  obtain⟨hp,g,d,tk,os⟩:=s;obtain⟨h1,h2,he,h⟩:=h
  wp_walk using D4 h1,D4 h2
  have l1:i<xs.size:=by omega
  have l2:i<ys.size:=by omega
  have o1:xs[((i:Nat):Int).toNat]?=some xs[i]:=by simp[l1]
  have o2:ys[((i:Nat):Int).toNat]?=some ys[i]:=by simp[l2]
  have od:(List.range xs.size).drop i=i::(List.range xs.size).drop (i+1):=by simp[List.drop_eq_getElem_cons,l1]
  have oc:((i:Int)+1)=((i+1:Nat):Int):=by push_cast;rfl
  rw[od,a0y]at h;rw[o1,o2];refine f8 (he i l1 l2 _ _ ?_);cases hb:e i with
  |true=>
   rw[hb]at h
   wp_walk
   rw[oc];exact⟨M3 M1 _,N6 T7 (by
    rw[L7 M1 _];exact US prog w l b xs ys n m d1 d2 sl1 sl2 hsz e k (i+1) (by omega) A R _ ⟨h1,h2,he,by simpa using h⟩)⟩
  |false=>
   rw[hb]at h
   wp_walk using D4 h1,D4 h2
   rw[o1,o2]
   wp_walk
   simpa using h
def gR(prog:Cq)(w:Cv)(l b:Addr)(xs ys:CG)(n m:Nat)(d1 d2:CH)(sl1 sl2:CB)(hsz:xs.size=ys.size)(e:Dq):
  MeetsIn prog w (Builtin.«list.__eq__» ⟨[.ref l,.ref b],[]⟩) (λA R s=>s.heap.get? l=some { cls:=.type "list",dict:=d1,data:=.seq xs n,slots:=sl1 }/\s.heap.get? b=some { cls:=.type "list",dict:=d2,data:=.seq ys m,slots:=sl2 }/\
   (∀j (h1:j<xs.size) (h2:j<ys.size),Xi prog w A.in1 s xs[j] ys[j] (e j))/\R (.ok (.ret (.bool ((List.range xs.size).all e)))) s):=λA R s h=>by
 obtain⟨hp,g,d,tk,os⟩:=s;obtain⟨h1,h2,he,h⟩:=h;have f3:=a1I;have hne:¬(xs.size != ys.size)=true:=by simp[hsz]
 wp_walk using D4 h1,D4 h2
 exact⟨M3 M1 _,N6 T7 (by
  rw[L7 M1 _];exact US prog w l b xs ys n m d1 d2 sl1 sl2 hsz e _ 0 rfl A R _ ⟨h1,h2,he,by simpa using h⟩)⟩
def dw(hl:s.heap.IsList l xs)(hb:s.heap.IsList b ys)(hsz:xs.size=ys.size)(hu:A.units<cLine)
  (he:∀j (h1:j<xs.size) (h2:j<ys.size),Xi prog w A.in1 s xs[j] ys[j] (e j)):p7 prog w A s (.ref l) (.ref b) ((List.range xs.size).all e):=λE Q h=>by
 obtain⟨⟨c1,d1,t1,sl1⟩,o1,k1,n,q1⟩:=id hl;obtain⟨⟨c2,d2,t2,sl2⟩,o2,k2,m,q2⟩:=id hb;simp only at k1 q1 k2 q2;subst k1 q1 k2 q2;exact a0Y (op:=.Eq) ⟨_,o1,rfl⟩ ⟨_,o2,rfl⟩ a1T (a1j a1T ⟨_,o1,rfl⟩ PySem.F.entry_list_eq (PySem.F.args_list_eq_2 _ _) (gR prog w l b xs ys n m d1 d2 sl1 sl2 hsz e)
  ⟨o1,o2,he,show Value.bool _≠Value.notImplemented/\Q (.bool _) s from⟨(λx=>nomatch x),h⟩⟩) hu
def UT(prog:Cq)(w:Cv)(l b:Addr)(xs ys:CG)(n m:Nat)(d1 d2:CH)(sl1 sl2:CB)(hsz:xs.size=ys.size)(e:Dq):∀(k i:Nat),xs.size-i=k->
  MeetsIn prog w (Builtin.«list.__eq__.loop» ⟨[.ref l,.ref b,rawInt i,rawInt 3],[]⟩) (λA R s=>s.heap.get? l=some { cls:=.type "list",dict:=d1,data:=.seq xs n,slots:=sl1 }/\s.heap.get? b=some { cls:=.type "list",dict:=d2,data:=.seq ys m,slots:=sl2 }/\
   (∀j (h1:j<xs.size) (h2:j<ys.size),Xi prog w A.in1 s xs[j] ys[j] (e j))/\R (.ok (.ret (.bool (!((List.range xs.size).drop i).all e)))) s)
 |0,i,hk=>λA R s h=>by
  obtain⟨hp,g,d,tk,os⟩:=s;obtain⟨h1,h2,he,h⟩:=h
  wp_walk using D4 h1,D4 h2
  have o1:xs[((i:Nat):Int).toNat]?=none:=by simp;omega
  have o2:ys[((i:Nat):Int).toNat]?=none:=by simp;omega
  have od:(List.range xs.size).drop i=[]:=by simp;omega
  rw[od]at h;rw[o1,o2]
  wp_walk using D4 h1,D4 h2
  show R (.ok (.ret (.bool (xs.size != ys.size)))) _;rw[hsz];simpa using h
 |k+1,i,hk=>λA R s h=>by
  obtain⟨hp,g,d,tk,os⟩:=s;obtain⟨h1,h2,he,h⟩:=h
  wp_walk using D4 h1,D4 h2
  have l1:i<xs.size:=by omega
  have l2:i<ys.size:=by omega
  have o1:xs[((i:Nat):Int).toNat]?=some xs[i]:=by simp[l1]
  have o2:ys[((i:Nat):Int).toNat]?=some ys[i]:=by simp[l2]
  have od:(List.range xs.size).drop i=i::(List.range xs.size).drop (i+1):=by simp[List.drop_eq_getElem_cons,l1]
  have oc:((i:Int)+1)=((i+1:Nat):Int):=by push_cast;rfl
  rw[od,a0y]at h;rw[o1,o2];refine f8 (he i l1 l2 _ _ ?_);cases hb:e i with
  |true=>
   rw[hb]at h
   wp_walk
   rw[oc];exact⟨M3 M1 _,N6 T7 (by
    rw[L7 M1 _];exact UT prog w l b xs ys n m d1 d2 sl1 sl2 hsz e k (i+1) (by omega) A R _ ⟨h1,h2,he,by simpa using h⟩)⟩
  |false=>
   rw[hb]at h
   wp_walk using D4 h1,D4 h2
   rw[o1,o2]
   wp_walk
   simpa using h
def gS(prog:Cq)(w:Cv)(l b:Addr)(xs ys:CG)(n m:Nat)(d1 d2:CH)(sl1 sl2:CB)(hsz:xs.size=ys.size)(e:Dq):
  MeetsIn prog w (Builtin.«list.__ne__» ⟨[.ref l,.ref b],[]⟩) (λA R s=>s.heap.get? l=some { cls:=.type "list",dict:=d1,data:=.seq xs n,slots:=sl1 }/\s.heap.get? b=some { cls:=.type "list",dict:=d2,data:=.seq ys m,slots:=sl2 }/\
   (∀j (h1:j<xs.size) (h2:j<ys.size),Xi prog w A.in1 s xs[j] ys[j] (e j))/\R (.ok (.ret (.bool (!(List.range xs.size).all e)))) s):=λA R s h=>by
 obtain⟨hp,g,d,tk,os⟩:=s;obtain⟨h1,h2,he,h⟩:=h;have f3:=a1I;have hne:¬(xs.size != ys.size)=true:=by simp[hsz]
 wp_walk using D4 h1,D4 h2
 exact⟨M3 M1 _,N6 T7 (by
  rw[L7 M1 _];exact UT prog w l b xs ys n m d1 d2 sl1 sl2 hsz e _ 0 rfl A R _ ⟨h1,h2,he,by simpa using h⟩)⟩
def dy(hl:s.heap.IsList l xs)(hb:s.heap.IsList b ys)(hsz:xs.size=ys.size)(hu:A.units<cLine)
  (he:∀j (h1:j<xs.size) (h2:j<ys.size),Xi prog w A.in1 s xs[j] ys[j] (e j)):uf prog w A s (.ref l) (.ref b) (!(List.range xs.size).all e):=λE Q h=>by
 obtain⟨⟨c1,d1,t1,sl1⟩,o1,k1,n,q1⟩:=id hl;obtain⟨⟨c2,d2,t2,sl2⟩,o2,k2,m,q2⟩:=id hb;simp only at k1 q1 k2 q2;subst k1 q1 k2 q2;exact a0Y (op:=.NotEq) ⟨_,o1,rfl⟩ ⟨_,o2,rfl⟩ a1U (a1j a1U ⟨_,o1,rfl⟩ PySem.F.entry_list_ne (PySem.F.args_list_ne_2 _ _) (gS prog w l b xs ys n m d1 d2 sl1 sl2 hsz e)
  ⟨o1,o2,he,show Value.bool _≠Value.notImplemented/\Q (.bool _) s from⟨(λx=>nomatch x),h⟩⟩) hu
def Xi.of_refs(hne:l≠b)(h:p7 prog w A s (.ref l) (.ref b) k):Xi prog w A s (.ref l) (.ref b) k:=λE Q hq=>by unfold eqBool;refine G7 ?_;refine wpAny_ite_split (λz=>absurd (by have:=eq_of_beq z;injection this) hne) (λ_=>?_);exact f8 (h E _ (W1 hq))
def Xi.same(v:Value):Xi prog w A s v v true:=λE Q h=>a1B v prog w E Q h
def Vi:Nat->PV->PV->Option Bool
 |n+1,.l xs,.l ys=>Xg (Vi n) xs ys
 |n+1,.d a,.d b=>if a.length=b.length then bb (Z3 n) b a else some false
 |n,x,y=>Z3 n x y
section
variable {X:Cx}{pins:Ca}{σ:St}{H:Hp}{s:Ce}{W:RC}
def Wz{f:Dc}{b:Cu}{r:Bool}(hf:∀x y c,f x y=some c->(∃v N M N' M',zT W N M H x v/\zT W N' M' H y v)->c=true){M M':Cd}{eb:Cf}(rb:yE W M' H b eb)(nd:(eb.map (·.1)).Nodup):∀{a:Cu}{ea:Cf},(∀p∈ea,p∈eb)->yE W M H a ea->bb f b a=some r->r=true
 |[],_,_,_,e=>by cases e;rfl
 |kx::a,_,hs,h,e=>by
  obtain⟨v,q,rfl,h1,h2⟩:=h;unfold bb at e;have hv:KC eb kx.1=some v:=by have hm:=hs (kx.1,v) B3;obtain⟨j,hj⟩:=List.mem_iff_getElem?.mp hm;exact cJ nd hj
  cases hy:zq b kx.1 with
  |none=>have:=rb.sV hy;rw[hv]at this;cases this
  |some y=>rw[hy]at e;obtain⟨c1,c2,e1,e2,rfl⟩:=kB e;obtain⟨v',hv',ry⟩:=rb.get hy;rw[hv]at hv';cases hv';rw[hf _ _ _ e1 ⟨v,_,_,_,_,zT.iff.mpr h1,zT.iff.mpr ry⟩,Wz hf rb nd (λp hp=>hs p (B4 _ hp)) h2 e2];rfl
def gT(I:Inv X pins σ H s)(hK:W.K=X.K):∀{n:Nat}{x y:PV}{b:Bool}{v:V}{N M N' M':Cd},Vi n x y=some b->zT W N M H x v->zT W N' M' H y v->b=true:=by
 intro n
 induction n with
 |zero=>intro x y b v N M N' M' h h1 h2;exact Y1 I hK (n:=0) (by cases x<;>cases y<;>exact h) h1 h2
 |succ n ih=>
  have its:∀{xs ys:Cy}{vs:Ck}{b:Bool}{M M':Cd},Xg (Vi n) xs ys=some b->zy W M H xs vs->zy W M' H ys vs->b=true:=by
   intro xs
   induction xs with
   |nil=>intro ys vs b M M' h r1 r2;cases(show _=_ from r1);cases ys with
    |nil=>cases h;rfl
    |cons y ys=>obtain⟨_,_,z,_⟩:=r2;cases z
   |cons x xs ihx=>
    intro ys vs b M M' h r1 r2;obtain⟨v,q,rfl,a1,a2⟩:=r1;cases ys with
    |nil=>cases(show _=_ from r2)
    |cons y ys=>obtain⟨v',q',z,b1,b2⟩:=r2;cases z;obtain⟨c1,c2,e1,e2,rfl⟩:=kB h;rw[ih e1 (zT.iff.mpr a1) (zT.iff.mpr b1),ihx e2 a2 b2];rfl
  intro x y b v N M N' M' h h1 h2;cases x with
  |l xs=>
   cases y with
   |l ys=>obtain⟨p,vs,rfl,_,e,r⟩:=h1;obtain⟨p',vs',z,_,e',r'⟩:=h2;cases z;rw[e]at e';cases e';exact its h r r'
   |_=>exact Y1 I hK (n:=n+1) h h1 h2
  |d a=>
   cases y with
   |d c=>
    obtain⟨p,es,rfl,_,e,r⟩:=h1;obtain⟨p',es',z,_,e',r'⟩:=h2;cases z;have:es'=es:=by rcases e with e|⟨_,e⟩<;>rcases e' with e'|⟨_,e'⟩<;>rw[e]at e'<;>cases e'<;>rfl
    subst this;have h:(if a.length=c.length then bb (Z3 n) c a else some false)=some b:=h;have hl:a.length=c.length:=by rw[<- r.len,<- r'.len]
    rw[if_pos hl]at h;exact Wz (λx y c hc ⟨v,N,M,N',M',q1,q2⟩=>Y1 I hK hc q1 q2) r' (gG I e) (λp hp=>hp) r h
   |_=>exact Y1 I hK (n:=n+1) h h1 h2
  |_=>exact Y1 I hK (n:=n+1) (by cases y<;>exact h) h1 h2
def lY(I:Inv X pins σ H s)(hK:W.K=X.K):∀(n:Nat){A:Cz}{x y:PV}{b:Bool}{xv yv:V}{u v:Value}{N M N' M':Cd},Vi n x y=some b->zT W N M H x xv->zT W N' M' H y yv->RelV xv u->RelV yv v->A.units+n+1<cLine->
  Xi X.prog X.w A s u v b/\p7 X.prog X.w A s u v b/\uf X.prog X.w A s u v (!b):=by
 have old:∀(n:Nat){A:Cz}{x y:PV}{b:Bool}{xv yv:V}{u v:Value}{N M N' M':Cd},Z3 n x y=some b->zT W N M H x xv->zT W N' M' H y yv->RelV xv u->RelV yv v->A.units+n+1<cLine->
   Xi X.prog X.w A s u v b/\p7 X.prog X.w A s u v b/\uf X.prog X.w A s u v (!b):=λn {A x y b xv yv u v N M N' M'} h h1 h2 ru rv hu=>by
  obtain⟨q1,q2,q3⟩:=nH I hK n (A:=A) h h1 h2 ru rv (by omega);exact⟨λE Q z=>q1 _ _ E Q z,λE Q z=>q2 _ _ E Q z,λE Q z=>q3 _ _ E Q z⟩
 intro n
 induction n with
 |zero=>intro A x y b xv yv u v N M N' M' h h1 h2 ru rv hu;exact old 0 (by cases x<;>cases y<;>exact h) h1 h2 ru rv hu
 |succ n ih=>
  intro A x y b xv yv u v N M N' M' h h1 h2 ru rv hu;have top:∀{p q:Addr},u=.ref p->v=.ref q->xv=.ref p->yv=.ref q->p7 X.prog X.w A s u v b/\uf X.prog X.w A s u v (!b)->Xi X.prog X.w A s u v b/\p7 X.prog X.w A s u v b/\uf X.prog X.w A s u v (!b):=λ{p q} e1 e2 e3 e4 hr=>by
   refine⟨?_,hr⟩;by_cases c:p=q
   .subst c;rw[e1,e2];rw[gT I hK h (e3▸h1) (e4▸h2)];exact Xi.same _
   .rw[e1,e2]at hr ⊢;exact Xi.of_refs c hr.1
  cases x with
  |l xs=>
   cases y with
   |l ys=>
    have hh:=h;obtain⟨p,vs,rfl,_,e,r⟩:=h1;obtain⟨p',vs',rfl,_,e',r'⟩:=h2;cases ru;cases rv;refine top rfl rfl rfl rfl ?_;obtain⟨us,r1,p1,_⟩:=I.list (SqL.of e);obtain⟨ws,r2,p2,_⟩:=I.list (SqL.of e');have l1:us.toArray.size=xs.length:=by rw[D9,<- r1.length,r.len]
    have l2:ws.toArray.size=ys.length:=by rw[D9,<- r2.length,r'.len]
    have h:Xg (Vi n) xs ys=some b:=h;by_cases hl:xs.length=ys.length
    .obtain⟨f,hf,rfl⟩:=Vc h;rw[hl,P7,Bool.and_true,Nat.min_self,<- hl,<- l1];have it:∀j (h1:j<us.toArray.size) (h2:j<ws.toArray.size),Xi X.prog X.w A.in1 s us.toArray[j] ws.toArray[j] (f j):=by
      intro j g1 g2;have t1:us[j]?=some us.toArray[j]:=by simp at g1 ⊢
      have t2:ws[j]?=some ws.toArray[j]:=by simp at g2 ⊢
      have k1:j<vs.length:=by rw[r1.length];simpa using g1
      have k2:j<vs'.length:=by rw[r2.length];simpa using g2
      obtain⟨u0,w1,ru⟩:=r1.get (B9 k1);obtain⟨v0,w2,rv⟩:=r2.get (B9 k2);rw[t1]at w1;cases w1;rw[t2]at w2;cases w2;obtain⟨x',hx',rx'⟩:=r.lH (B9 k1);obtain⟨y',hy',ry'⟩:=r'.lH (B9 k2);exact(ih (A:=A.in1) (hf j x' y' hx' hy') (zT.iff.mpr rx') (zT.iff.mpr ry') ru rv (by show A.units+1+n+1<cLine;omega)).1
     exact⟨dw p1.isList p2.isList (by rw[l1,l2,hl]) (by omega) it,dy p1.isList p2.isList (by rw[l1,l2,hl]) (by omega) it⟩
    .rw[Vb h hl];exact⟨λE Q z=>a1m p1.isList p2.isList (by rw[l1,l2];simpa using hl) (by omega) _ _ E Q z,λE Q z=>SeqAt.RcNeAt.lists_lengths p1.isList p2.isList (by rw[l1,l2];simpa using hl) (by omega) _ _ E Q z⟩
   |_=>exact old (n+1) h h1 h2 ru rv hu
  |d a=>
   cases y with
   |d c=>
    obtain⟨p,es,rfl,_,ha,ra⟩:=h1;obtain⟨p',es',rfl,_,hb,rb⟩:=h2;cases ru;cases rv;refine top rfl rfl rfl rfl ?_;obtain⟨_,na,va,ka,da⟩:=vD I.hok ha;obtain⟨_,nb,vb,kb,db⟩:=vD I.hok hb;have l1:va.length=a.length:=by rw[<- N9 ka];have:=M5 List.length (yE.iff.mp ra).1;simpa using this
    have l2:vb.length=c.length:=by rw[<- N9 kb];have:=M5 List.length (yE.iff.mp rb).1;simpa using this
    have e:(if a.length=c.length then bb (Z3 n) c a else some false)=some b:=h;by_cases hl:a.length=c.length
    .rw[if_pos hl]at e;have hits:=λ(_:va.length=vb.length)=>XI I hK (A:=A.in1) (by show A.units+1+n<cLine;omega) rb kb ra ka e;refine⟨λE Q z=>keq_eq na nb da db (by omega) hits ?_,λE Q z=>keq_ne na nb da db (by omega) hits ?_⟩
     .rw[l1,l2,hl,P7,a03];exact z
     .rw[l1,l2,hl,P7,a03];exact z
    .rw[if_neg hl]at e;cases e;have nh:va.length=vb.length->KeqHits A.in1 s vb va false:=λz=>absurd (by rw[<- l1,<- l2,z]) hl;refine⟨λE Q z=>keq_eq na nb da db (by omega) nh ?_,λE Q z=>keq_ne na nb da db (by omega) nh ?_⟩
     .rw[a0T];exact z
     .rw[a0T];exact z
   |_=>exact old (n+1) h h1 h2 ru rv hu
  |_=>exact old (n+1) (by cases y<;>exact h) h1 h2 ru rv hu
end
def oj(W:RC)(neg:Bool):R2:=λxv yv H Q=>∃M x y b,zT W (λ_=>True) M H x xv/\zT W (λ_=>True) M H y yv/\Vi 8 x y=some b/\Q (.bl (xor neg b)) H
def om(hK:W.K=X.K)(hu:X.A.units+64<cLine):OpR X (compareOp .Eq) (oj W false):=by intro pins s σ H xv yv u v Q I ru rv h;obtain⟨M,x,y,b,h1,h2,e,q⟩:=h;rw[a0t]at q;exact(lY I hK 8 e h1 h2 ru rv (by omega)).2.1 _ _ ⟨.bl b,H,I,rfl,q⟩
def oq(hK:W.K=X.K)(hu:X.A.units+64<cLine):OpR X (compareOp .NotEq) (oj W true):=by intro pins s σ H xv yv u v Q I ru rv h;obtain⟨M,x,y,b,h1,h2,e,q⟩:=h;rw[a04]at q;exact(lY I hK 8 e h1 h2 ru rv (by omega)).2.2 _ _ ⟨.bl (!b),H,I,rfl,q⟩
def V3(neg:Bool)(x y:PV):Out PV:=match Vi 8 x y with|some b=>.ok (.b (xor neg b))|none=>.wall
abbrev Bj:Addr->Prop:=λ_=>True
def LEv(C:LC)(S:Cb)(te:TE)(m:ME):Prop:=∀B P H σ ρ,Rel C.W B S P H σ ρ->∀Q,zE C B H (Rep C.W Bj) Q (m ρ)->te σ H Q
def EVm(X:Cx)(C:LC)(S:Cb)(e:Co)(m:ME):Prop:=X.K=C.W.K->∃te,PE X e te/\LEv C S te m
def WA(h:EM X C S w e m):EVm X C S e m:=λhK=>by obtain⟨te,a1,a2⟩:=h hK;exact⟨te,a1,λB P H σ ρ R Q q=>a2 B P H σ ρ R Q (vE q λx v H2 s r=>zT.iff.mp (r.weak.sub (λ_ _ _=>trivial) λ_ _ _=>trivial))⟩
def lZ(hr:r=oj C.W neg)(h1:LEv C S ta m1)(h2:LEv C S tb m2):LE C S false (tOp r ta tb) (mOp (V3 neg) m1 m2):=λB P H σ ρ R Q q=>
 h1 B P H σ ρ R _ (yx q λx v H1 s1 r1 q1=>h2 B P H1 σ ρ (R.keep s1) _ (yx q1 λy u H2 s2 r2 q2=>by
  subst hr;unfold V3 at q2;cases e:Vi 8 x y with
  |none=>rw[e]at q2;exact q2.elim
  |some b=>rw[e]at q2;exact⟨Bj,x,y,b,zT.iff.mpr (r1.same s2),zT.iff.mpr r2,e,q2 _ H2 (zl.refl _) (RV.of rfl)⟩))
def ug(hu:X.A.units+64<cLine)(h1:EVm X C S a m1)(h2:EVm X C S b m2):EM X C S false (.Compare a [.Eq] [b] pos) (mOp (V3 false) m1 m2):=λhK=>by obtain⟨ta,a1,a2⟩:=h1 hK;obtain⟨tb,b1,b2⟩:=h2 hK;exact⟨_,bX (om hK.symm hu) a1 b1 (Q1 _ (by decide) (by decide)),lZ rfl a2 b2⟩
def dz(hu:X.A.units+64<cLine)(h1:EVm X C S a m1)(h2:EVm X C S b m2):TM X C S (.Compare a [.NotEq] [b] pos) (yP (mOp (V3 true) m1 m2)):=λhK=>by obtain⟨ta,a1,a2⟩:=h1 hK;obtain⟨tb,b1,b2⟩:=h2 hK;exact⟨_,Xq (oq hK.symm hu) a1 b1 (Q1 _ (by decide) (by decide)),XE (lZ rfl a2 b2)⟩
section
variable {X:Cx}{elt yM tg:Co}{ifs:Ci}{scope:Scope}{pos bL py:Pos}{N:Cn}{fr:Ct}{g:TG}{tc:TT}{te:TEx}{wi:TI}{y:Str}{i:Nat}
end
section
variable {X:Cx}{C:LC}{S Si:Cb}{e yM tg elt:Co}{es ifs:Ci}{w:Bool}{ws:Cj}{m me:ME}{ms:MA}{mc:MT}{mg:MG}{mi:MI}{pos p:Pos}{x:Str}{scope:Scope}{k:Nat}{f:Addr}{fd:CA}{ps:Cn}{fr':Bool}{g:Cw}
end
end L2
namespace L2
open PySem
def As{α:Type}{P:List α->Prop}{us:List α}(hl:us.length=1)(h:∀a,P [a]):P us:=by rcases us with _|⟨a,_|⟨b,us⟩⟩<;>first|exact h _|cases hl
def Au{α:Type}{P:List α->Prop}{us:List α}(hl:us.length=2)(h:∀a b,P [a,b]):P us:=by rcases us with _|⟨a,_|⟨b,_|⟨c,us⟩⟩⟩<;>first|exact h _ _|cases hl
def Av{α:Type}{P:List α->Prop}{us:List α}(hl:us.length=3)(h:∀a b c,P [a,b,c]):P us:=by rcases us with _|⟨a,_|⟨b,_|⟨c,_|⟨d,us⟩⟩⟩⟩<;>first|exact h _ _ _|cases hl
def Aw{α:Type}{P:List α->Prop}{us:List α}(hl:us.length=4)(h:∀a b c d,P [a,b,c,d]):P us:=by rcases us with _|⟨a,_|⟨b,_|⟨c,_|⟨d,_|⟨e,us⟩⟩⟩⟩⟩<;>first|exact h _ _ _ _|cases hl
def WB(z:CXe P w outer H s (λ_ _ _=>False) v s'):False:=by obtain⟨_,_,_,_,_,_,_,_,_,_,_,_,_,_,_,_,_,_,q⟩:=z;exact q
def okb{α β:Type}{a:α}{f:α->Out β}:(Out.ok a).bind f=f a:=Eq.trans (Eq.refl _) (Eq.refl _)
section
variable {α β σ:Type}{g:MG}{b:MS}{c:MT}{e:ME}{ρ ρ':Sto}{s t:MS}{m:ME}{x:PV}{mi:MI}{o:Out Fw}{i:Nat}
def zj(h:∃ρ',s ρ=.ok (.nx ρ')/\t ρ'=o):y9 s t ρ=o:=let⟨_,a,b⟩:=h;(nW a).trans b
def Vj{fr:Ct}{xs:Cy}(h:mi ρ=.ok xs)(h2:lcP g c e xs (w_ ρ fr) []=.ok x):mLC mi fr g c e ρ=.ok x:=by unfold mLC;rw[h,yN,h2]
def UU(h:m ρ=.ok x):qS i m ρ=.ok (.nx (ρ.set i (some x))):=by unfold qS;rw[h,yN]
def ql(h:mi ρ=.ok xs)(h2:ZL g b xs ρ=o):kN mi g b ρ=o:=by unfold kN;rw[h,yN,h2]
def UW{n:Nat}(h:n<=1000000):Kp [.i (n:Int)]=.ok (Q3 0 n):=by unfold Kp;exact(if_pos ⟨by omega,by omega⟩).trans (by rw[S6])
def WC(h:ms ρ=.ok [.i (n:Int)])(hn:n<=1000000):Yb ms ρ=.ok (Q3 0 n):=by unfold Yb;rw[h,yN,UW hn]
def dA(h:ms ρ=.ok [.i n])(h0:0<=n)(hn:n<=1000000):Yb ms ρ=.ok (Q3 0 n.toNat):=WC (n:=n.toNat) (by rw[h];congr 3;omega) (by omega)
def jN(h:m ρ=.ok (.l xs)):yy m ρ=.ok xs:=by unfold yy;rw[h,yN];rfl
def Q6:Q3 0 n=(List.range n).map λk=>PV.i ((k:Nat):Int):=by unfold Q3;exact O9 λk _=>by congr 1;omega
def l0(it:α->PV)(enc:β->PV)(P:α->β->Prop)(J:Sto->Prop):∀(xs:List α)(ρ:Sto)(acc:Cy),J ρ->(∀x∈xs,∀ρ,J ρ->∃ρ1,g (it x) ρ=some ρ1/\J ρ1/\∃y,P x y/\e ρ1=.ok (enc y))->acc.length+xs.length<=100000->∃ys:List β,ys.length=xs.length/\(∀y∈ys,∃x∈xs,P x y)/\(∀(k:Nat) x y,xs[k]?=some x->ys[k]?=some y->P x y)/\lcP g Ws e (xs.map it) ρ acc=.ok (.l (acc++ys.map enc))
 |[],ρ,acc,_,_,_=>⟨[],rfl,(λ_ h=>by cases h),(λ_ _ _ h=>by cases h),by simp[lcP]⟩
 |x::xs,ρ,acc,hJ,h,hl=>by
  obtain⟨ρ1,h1,h2,y,h3,h4⟩:=h x B3 ρ hJ;rw[B0]at hl;obtain⟨ys,g1,g2,g3,g4⟩:=l0 it enc P J xs ρ1 (acc++[enc y]) h2 (λz hz=>h z (B4 _ hz)) (by rw[B5];show acc.length+1+_<=_;omega);refine⟨y::ys,by rw[B0,B0,g1],λz hz=>?_,λk a b ha hb=>?_,?_⟩
  .rcases C5.mp hz with rfl|hz
   .exact⟨x,B3,h3⟩
   .obtain⟨a,b,c⟩:=g2 z hz;exact⟨a,B4 _ b,c⟩
  .cases k with
   |zero=>rw[a0v]at ha hb;cases ha;cases hb;exact h3
   |succ k=>rw[E8]at ha hb;exact g3 k a b ha hb
  .rw[C8];unfold lcP Ws;rw[h1,vI,yN,UP,yN,if_pos rfl,h4,UP,yN,if_pos (D0 (show acc.length<100000 by omega) (by decide))];rw[show(λ_=>Out.ok true)=Ws from rfl,g4,C8,F3];rfl
def Ax(it:α->PV)(enc:β->PV)(P:α->β->Prop)(J:Sto->Prop)(xs:List α)(ρ:Sto)(hJ:J ρ)(h:∀x∈xs,∀ρ,J ρ->∃ρ1,g (it x) ρ=some ρ1/\J ρ1/\∃y,P x y/\e ρ1=.ok (enc y))(hl:xs.length<=100000):∃ys:List β,ys.length=xs.length/\(∀y∈ys,∃x∈xs,P x y)/\(∀(k:Nat) x y,xs[k]?=some x->ys[k]?=some y->P x y)/\lcP g Ws e (xs.map it) ρ []=.ok (.l (ys.map enc)):=
 l0 it enc P J xs ρ [] hJ h (by simpa using hl)
def vM(it:α->PV)(J:σ->Sto->Prop)(N:σ->α->σ->Prop):∀(xs:List α)(u:σ)(ρ:Sto),J u ρ->(∀x∈xs,∀u ρ,J u ρ->∃ρ1,g (it x) ρ=some ρ1/\∃u' ρ2,N u x u'/\J u' ρ2/\(b ρ1=.ok (.nx ρ2)\/b ρ1=.ok (.ct ρ2)))->∃u' ρ',J u' ρ'/\ZL g b (xs.map it) ρ=.ok (.nx ρ')
 |[],u,ρ,h,_=>⟨u,ρ,h,rfl⟩
 |x::xs,u,ρ,h,hs=>by obtain⟨ρ1,h1,u',ρ2,_,h2,h3⟩:=hs x B3 u ρ h;obtain⟨v,ρ3,h4,h5⟩:=vM it J N xs u' ρ2 h2 λy hy=>hs y (B4 _ hy);refine⟨v,ρ3,h4,?_⟩;rw[C8,Ww,h1,vI,yN];rcases h3 with h3|h3<;>(rw[h3,yN];exact h5)
def UX(it:α->PV)(J:Nat->Sto->Prop):∀(xs:List α)(j:Nat)(ρ:Sto),J j ρ->(∀(k:Nat)(h:k<xs.length)(ρ:Sto),J (j+k) ρ->∃ρ1,g (it xs[k]) ρ=some ρ1/\∃ρ2,J (j+k+1) ρ2/\(b ρ1=.ok (.nx ρ2)\/b ρ1=.ok (.ct ρ2)))->∃ρ',J (j+xs.length) ρ'/\ZL g b (xs.map it) ρ=.ok (.nx ρ')
 |[],j,ρ,h,_=>⟨ρ,h,rfl⟩
 |x::xs,j,ρ,h,hs=>by
  obtain⟨ρ1,h1,ρ2,h2,h3⟩:=hs 0 (Nat.zero_lt_succ _) ρ h;obtain⟨ρ3,h4,h5⟩:=UX it J xs (j+1) ρ2 h2 λk hk ρ hρ=>by have:=hs (k+1) (a1q hk) ρ (by rw[show j+(k+1)=j+1+k by omega];exact hρ);rw[show j+(k+1)+1=j+1+k+1 by omega]at this;exact this
  refine⟨ρ3,by rw[B0,show j+(xs.length+1)=j+1+xs.length by omega];exact h4,?_⟩;rw[C8,Ww,show g (it x) ρ=some ρ1 from h1,vI,yN];rcases h3 with h3|h3<;>(rw[h3,yN];exact h5)
def XX(it:α->PV)(J:Nat->Sto->Prop)(xs:List α)(ρ:Sto)(h:J 0 ρ)(hs:∀(k:Nat)(h:k<xs.length)(ρ:Sto),J k ρ->∃ρ1,g (it xs[k]) ρ=some ρ1/\∃ρ2,J (k+1) ρ2/\(b ρ1=.ok (.nx ρ2)\/b ρ1=.ok (.ct ρ2))):∃ρ',J xs.length ρ'/\ZL g b (xs.map it) ρ=.ok (.nx ρ'):=by
 have:=UX (g:=g) (b:=b) it J xs 0 ρ h λk hk ρ hρ=>by have:=hs k hk ρ (by rwa [a0N]at hρ);rwa [a0N]
 rwa [a0N]at this
def Vk(J:Nat->Sto->Prop)(n:Nat)(ρ:Sto)(h:J 0 ρ)(hs:∀(k:Nat),k<n->∀(ρ:Sto),J k ρ->∃ρ1,g (.i (k:Int)) ρ=some ρ1/\∃ρ2,J (k+1) ρ2/\(b ρ1=.ok (.nx ρ2)\/b ρ1=.ok (.ct ρ2))):∃ρ',J n ρ'/\ZL g b (Q3 0 n) ρ=.ok (.nx ρ'):=by
 have:=XX (g:=g) (b:=b) (λk:Nat=>PV.i (k:Int)) J (List.range n) ρ h λk hk ρ hρ=>by rw[O6];exact hs k (by rwa [D6]at hk) ρ hρ
 rwa [D6,<- Q6]at this
end
end L2
namespace L2
open PySem PySem.Spec PyProof.Rows PySem.W
section
variable {prog:Cq}{w:Cv}{A:Cz}{E:B_}{h:Heap}{g:Array GenState}{d:Drawn}{t:Nat}{os:OsState}{a:Addr}{its:CG}{n:Nat}{sl:CB}
def WD:typeLookup (.type "list") "keys"=pure none:=by rw[a0o,R9];kernel_rfl
def JK:typeLookup (.type "list") "__getattr__"=pure none:=by rw[a0o,R9];kernel_rfl
def dB:isSubtype (.type "AttributeError") (.type "AttributeError")=pure true:=by rw[a1K];kernel_rfl
def ou(he:h.get? e=some ⟨.type "AttributeError",none,.fields #[T,.none,.none,.none,.bool false,X,rawInt 0,rawInt 0],#[]⟩)
  (hQ:∀h',(∀b o,b≠e->h.get? b=some o->h'.get? b=some o)->(∃oe,h'.get? e=some oe/\oe.cls=.type "AttributeError")->Q () ⟨h',g,d,t,os⟩):
  wpAny (model prog w) A (noteAttr (.ref e) o name) Q E ⟨h,g,d,t,os⟩:=by
 have hT:(⟨h,g,d,t,os⟩:Shared).TypeIs (.ref e) "AttributeError":=⟨_,he,rfl⟩;unfold noteAttr lacksNameAndObj;refine f8 ?_;refine f8 (a0f (b:=true) hT dB ?_);rw[if_neg (by decide)];refine f8 (a1e he ?_);dsimp only;rw[if_neg (λz=>by cases(show false=true from z))];rw[if_neg (λz=>by cases(show false=true from z))];refine B8 ?_;rw[if_pos rfl];refine f8 (a0O ?_);refine f8 (S8 (T:="AttributeError") hT ?_);dsimp only;unfold layMembers;refine f8 (a1e he ?_);dsimp only;refine wpAny_update he ?_;refine hQ _ (λb o hb e'=>(D8 _ _ (Ne.symm hb)).trans e') ⟨_,G0 _ he rfl,rfl⟩
def bf(hh:A.handled=none)(hx:h.get? a=some ⟨.type "list",none,.seq its n,sl⟩)
  (hE:∀h' tk e,(∀b o,h.get? b=some o->h'.get? b=some o)->(∃oe,h'.get? e=some oe/\oe.cls=.type "AttributeError")->E (.ref e) ⟨h',g,d,tk,os⟩):
  wpAny (model prog w) A (Builtin.«object.__getattribute__» ⟨[.ref a,.str "keys" tk],[]⟩) Q E ⟨h,g,d,t,os⟩:=by
 have hT:(⟨h,g,d,t,os⟩:Shared).TypeIs (.ref a) "list":=⟨_,hx,rfl⟩;have f4:=WD
 repeat(any_goals(first|assumption|wp_step))
 unfold raiseAttrError;refine f8 (wpAny_mkStr (f8 ?_) (by decide +kernel));unfold newExc newTuple;refine f8 (S5 ?_);refine f8 (m:=firstArgMember _ _) (a0x (a:=Value.none) (by simp only[firstArgMember];kernel_rfl) ?_);refine S5 ?_;refine f8 (a2b (f8 ?_));refine ou (E2 _ rfl) λh' hk he=>?_;unfold raiseNew;refine f8 (wpAny_handled ?_);rw[hh]
 first
  |refine a2m ?_
  |refine f8 (B8 (a2m ?_))
 exact hE _ _ _ (λb o e=>hk b o (D2 (D0 (C0 e) (by simp))) (B6 _ (B6 _ e))) he
def dC(hh:A.handled=none)(hx:h.get? a=some ⟨.type "list",none,.seq its n,sl⟩)
  (hE:∀h' tk e,(∀b o,h.get? b=some o->h'.get? b=some o)->(∃oe,h'.get? e=some oe/\oe.cls=.type "AttributeError")->R (.error (.ref e)) ⟨h',g,d,tk,os⟩):
  codeAny (model prog w) A (.call (.builtin "list.__getattribute__") ⟨[.ref a,.str "keys" tk],[]⟩) R ⟨h,g,d,t,os⟩:=
 a0e F.slot_list_getattribute.plain F.entry_list_ga (F.slot_list_getattribute.check _ _ _ _ _ _ _ _ (show(⟨h,g,d,t,os⟩:Shared).TypeIs (.ref a) "list" from⟨_,hx,rfl⟩) (F.args_list_getattribute_2 _ _) (bf hh hx hE))
def oy(hh:A.handled=none)(hx:h.get? a=some ⟨.type "list",none,.seq its n,sl⟩)(hQ:∀h' tk,(∀b o,h.get? b=some o->h'.get? b=some o)->Q none ⟨h',g,d,tk,os⟩):
  wpAny (model prog w) A (getAttr? (.ref a) "keys") Q E ⟨h,g,d,t,os⟩:=by
 have hT:∀t,(⟨h,g,d,t,os⟩:Shared).TypeIs (.ref a) "list":=λt=>⟨_,hx,rfl⟩;have f2:=F.slot_list_getattribute.lookup;have f3:=F.slot_list_getattribute.bind (.ref a);unfold getAttr? getAttrBy?;refine f8 (a2b ?_);refine f8 (a0z ?_);unfold getAttrBy;refine G7 ?_;refine f8 (S8 (T:="list") (hT _) ?_);refine f8 (a0x f2 ?_);dsimp only;rw[if_neg (λz=>by cases(show false=true from z))];unfold getAttrByItsOwn hookBefore;rw[if_neg (λz=>by cases(show false=true from z))];refine f8 (B8 ?_);refine f8 (a0z ?_);refine G7 ?_;unfold callGetattribute;rw[if_neg (λz=>by cases(show false=true from z))];unfold boundAndCalled;refine f8 (a0x f3 ?_);dsimp only;refine a0d (dC hh hx λh' tk e hk he=>?_);obtain⟨oe,he,hc⟩:=he;have hTe:(⟨h',g,d,tk,os⟩:Shared).TypeIs (.ref e) "AttributeError":=⟨_,he,hc⟩;dsimp only;unfold getattributeRaised;refine f8 (a0f (b:=true) hTe dB ?_);rw[if_pos rfl];unfold hookBehind;rw[if_neg (λz=>by cases(show false=true from z))];refine f8 (a0x JK ?_);unfold hookOrError attributeErrorLeaves;dsimp only;rw[if_pos (show(!false)=true from rfl)];refine f8 (a2m ?_);refine f8 (a0f (b:=true) hTe dB ?_);rw[if_pos rfl];exact B8 (hQ h' tk hk)
end
def Ze:entryFor table "dict.update.loop"=some Builtin.«dict.update.loop»:=entryFor_of_tree (by kernel_rfl)
def qw:plainId "dict.update.loop"=true:=by decide +kernel
section
variable {prog:Cq}{w:Cv}{A:Cz}{R:Result->Shared->Prop}{I:Addr}{fp wr:CM}{G:Array GenState->Array GenState->Prop}{n:Nat}{P:Nat->Value->Prop}{St:Nat->Shared->Prop}{K:Type}[DecidableEq K] {knd:KeyKind prog w K}
def TupAt(h:Heap)(a:Addr)(k v:Value):Prop:=∃o m,h.get? a=some o/\o.cls=.type "tuple"/\o.data=.seq #[k,v] m
def fX(key:Nat->K)(val:Dm):Nat->List (K×Value)
 |0=>[]
 |i+1=>stored (fX key val i) (key i) (val i)
def Vl(key:Nat->K)(val:Dm):∀i,(fX key val i).length<=i
 |0=>B7 _
 |i+1=>by
  have:=Vl key val i;unfold fX stored;split
  .rw[u8];omega
  .rw[B5];show _+1<=_;omega
def gU(W:WalksS prog w A.in1 I fp wr G n P St)(D:Addr)(hDf:D∉fp)(key:Nat->K)(kv val:Dm)(ad:Cm)(hP:∀i v,P i v->v=.ref (ad i))(hk:∀i,i<n->knd.is (key i) (kv i)=true)(hw:∀i,i<n->ad i∉D::wr)(hn:n<=sizeLine):
  ∀(k i:Nat)(tk:Tok)(s:Ce),n-i=k->i<=n->St i s->(∀j,j<n->TupAt s.heap (ad j) (kv j) (val j))->s.heap.DictOf knd D (fX key val i)->
   (∀s',Moved (D::wr) G s s'->s'.heap.DictOf knd D (fX key val n)->R (.ok (.ret .none)) s')->
   codeAny (model prog w) A (.builtin "dict.update.loop" ⟨[.ref D,.ref I,.int (i:Int) tk,.none],[]⟩) R s:=by
 have hDw:D∉wr:=λh=>hDf (W.sub _ h);have hsub:∀b∈wr,b∈D::wr:=λb hb=>B4 _ hb;have tmv:∀{s s':Ce},Moved (D::wr) G s s'->(∀j,j<n->TupAt s.heap (ad j) (kv j) (val j))->∀j,j<n->TupAt s'.heap (ad j) (kv j) (val j):=λhm h j hj=>by obtain⟨o,m,h1,h2,h3⟩:=h j hj;exact⟨o,m,hm.heap _ _ (hw j hj) h1,h2,h3⟩
 intro k
 induction k with
 |zero=>
  intro i tk s hk' hi hst ht hD hR;have hin:i=n:=by omega
  subst hin;refine N6 Ze ?_;rw[L7 qw _];show wpAny _ A.in1 (pyNext (.ref I) >>= _) _ _ s;refine f8 (W.done s _ _ hst λs' hm=>?_);dsimp only;refine f8 (m:=Builtin.Dict.addKeywords D []) ?_;refine B8 ?_;exact B8 (hR s' (hm.mono hsub) (by
   obtain⟨o,es,ep,ho,rest⟩:=hD;exact⟨o,es,ep,hm.heap D _ hDw ho,rest⟩))
 |succ k ih=>
  intro i tk s hk' hi hst ht hD hR;have hlt:i<n:=by omega
  refine N6 Ze ?_;rw[L7 qw _];show wpAny _ A.in1 (pyNext (.ref I) >>= _) _ _ s;refine f8 (W.item i s _ _ hlt hst λv s' hPv hst' hm=>?_);cases hP i v hPv;have hm2:=hm.mono hsub;have ht':=tmv hm2 ht;obtain⟨o,m,h1,h2,h3⟩:=ht' i hlt;have hD':s'.heap.DictOf knd D (fX key val i):=by obtain⟨o,es,ep,ho,rest⟩:=hD;exact⟨o,es,ep,hm.heap D _ hDw ho,rest⟩
  have hT:s'.TypeIs (.ref (ad i)) "tuple":=⟨o,h1,h2⟩;dsimp only;refine f8 (G7 (f8 (a0V ?_)));unfold Builtin.Dict.pairItems;refine f8 (S8 (T:="tuple") hT ?_);rw[if_pos (by decide)];unfold seqItems?;refine f8 (f8 (a1e h1 ?_));rw[h3];dsimp only;refine B8 (B8 ?_);show wpAny _ _ (holding [kv i,val i] (dictSet D (kv i) (val i))) _ _ _;refine G7 (wpAny_dictSet_pairs (hsz:=E3 (Vl key val i) (E3 hi hn)) (hk i hlt) hD' λh' hD2 hsb=>?_);have e1:((i:Int)+1)=((i+1:Nat):Int):=by omega
  have hm3:Moved (D::wr) G s { s' with heap:=h',toks:=s'.toks+1 }:=hm2.then_heap (a0i _) λb o hb e=>by rw[hsb.2 b (λh:b=D=>hb (by rw[h];exact B3))];exact e
  refine B8 ⟨M3 qw _,?_⟩;rw[show rawInt ((i:Int)+1)=Value.int ((i+1:Nat):Int) 0 by rw[e1];rfl];refine ih (i+1) 0 _ (by omega) hlt (W.frame _ s' _ _ hst' (a0i _) λb hb o e=>?_) (tmv hm3 ht) hD2 λs'' hm'' hD''=>hR s'' (Moved.trans W.gtrans hm3 hm'') hD'';rw[hsb.2 b (λh:b=D=>hDf (by rw[<- h];exact hb))];exact e
end
section
variable {prog:Cq}{w:Cv}{A:Cz}{E:B_}{s:Ce}{K:Type}[DecidableEq K] {knd:KeyKind prog w K}
def Vm{l:Addr}{items:CG}{m:Nat}{sl:CB}{Q:B_}{key:Nat->K}{kv val:Dm}{ad:Cm}(hh:A.handled=none)(hl:s.heap.get? l=some ⟨.type "list",none,.seq items m,sl⟩)
  (hP:∀i,i<items.size->items[i]?=some (.ref (ad i))) (ht:∀i,i<items.size->TupAt s.heap (ad i) (kv i) (val i)) (hk:∀i,i<items.size->knd.is (key i) (kv i)=true) (hn:items.size<=sizeLine)
  (h:∀h' tk,(∀b o,s.heap.get? b=some o->h'.get? b=some o)->h'.DictOf knd s.heap.objs.size (fX key val items.size)->Q (.ref s.heap.objs.size) { s with heap:=h',toks:=tk }):
  wpAny (model prog w) A (call (.type "dict") [.ref l]) Q E s:=by
 refine a1L (Q₁:=λobj s₁=>obj=.ref s.heap.objs.size/\s₁={ s with heap:=s.heap.push { cls:=.type "dict",data:=.dict #[] } }) F.kt_called_dict (F.kt_typeCall_dict_1 _) F.entry_dict_init (kt_code_dict_new _ ⟨rfl,rfl⟩) ?_
 rintro obj s₁ ⟨rfl,rfl⟩
 have hnew:(s.heap.push { cls:=.type "dict",data:=.dict #[] }).DictOf knd s.heap.objs.size []:=Heap.DictOf.new s.heap;have hl':(s.heap.push { cls:=.type "dict",data:=.dict #[] }).get? l=some ⟨.type "list",none,.seq items m,sl⟩:=B6 _ hl;refine⟨hnew.typeIs,F.args_dict_init_2 _ _,?_⟩;unfold Builtin.«dict.__init__»;refine f8 ?_;unfold Builtin.Dict.selfAndRest;refine f8 (wpAny_notOrdered_dict hnew.typeIs ?_);show wpAny _ _ (pure (s.heap.objs.size,[Value.ref l])) _ _ _;refine B8 ?_;show wpAny _ _ (Builtin.Dict.updateFrom "dict.__init__" s.heap.objs.size (.ref l) [] .none) _ _ _;unfold Builtin.Dict.updateFrom;refine f8 (S8 (T:="list") ⟨_,hl',rfl⟩ ?_);rw[if_pos (by decide)];refine f8 ?_;refine oy hh hl' λh1 t1 k1=>?_;rw[if_pos (show(none:Option Value).isNone=true from rfl)];refine f8 (a0O ?_);have hl1:h1.get? l=some ⟨.type "list",none,.seq items m,sl⟩:=k1 _ _ hl';have hil:h1.IsList l items:=⟨_,hl1,rfl,m,rfl⟩;refine f8 (wpAny_pyIter_list hil ?_);have D1:h1.DictOf knd s.heap.objs.size []:=by obtain⟨o,es,ep,ho,rest⟩:=hnew;exact⟨o,es,ep,k1 _ _ ho,rest⟩
 have ls:l<s.heap.objs.size:=C0 hl;have l1:l<h1.objs.size:=C0 hl1;have ds:s.heap.objs.size<h1.objs.size:=by obtain⟨o,_,_,ho,_⟩:=D1;exact C0 ho
 have hne:l≠h1.objs.size:=D2 l1;have kp:∀b o,h1.get? b=some o->(h1.push { cls:=.type "list_iterator",data:=.fields #[.ref l,.int 0 0] }).get? b=some o:=λb o e=>B6 _ e;have tl:∀j,j<items.size->ad j<s.heap.objs.size:=λj hj=>by obtain⟨o,_,h1,_⟩:=ht j hj;exact C0 h1
 refine B8 ⟨M3 qw _,gU (knd:=knd) (Walks.list (A:=A.in1.in1) hh h1.objs.size l hne items).toS s.heap.objs.size (by simp;exact⟨D2 ds,M9 ls⟩) key kv val ad (λi v hv=>?_) hk (λi hi=>?_) hn items.size 0 0 _ (by omega) (F7 _) ⟨⟨_,E2 _ rfl,rfl,rfl⟩,?_⟩ (λj hj=>?_) ?_ λs' hm hD=>?_⟩
 .have hi:i<items.size:=by
   by_cases c:i<items.size
   .exact c
   .rw[Array.getElem?_eq_none (by omega)]at hv;cases hv
  rw[hP i hi]at hv;cases hv;rfl
 .have:=tl i hi;intro hm;rcases C5.mp hm with e|hm
  .exact D2 this e
  .exact D2 (a0c this ds) (C7.mp hm)
 .exact⟨_,kp _ _ hl1,rfl,m,rfl⟩
 .obtain⟨o,q,e1,e2,e3⟩:=ht j hj;exact⟨o,q,kp _ _ (k1 _ _ (B6 _ e1)),e2,e3⟩
 .obtain⟨o,es,ep,ho,rest⟩:=D1;exact⟨o,es,ep,kp _ _ ho,rest⟩
 .rw[a05 hm];refine⟨rfl,h s'.heap s'.toks (λb o e=>hm.heap b o (λhmem=>?_) (kp _ _ (k1 _ _ (B6 _ e)))) hD⟩;have:=C0 e;rcases C5.mp hmem with e'|hm
  .exact D2 this e'
  .exact D2 (a0c this ds) (C7.mp hm)
end
section
variable {X:Cx}
def Vn(K:CO)(H:Hp):List V->List (Key×V)->Prop
 |[],es=>es=[]
 |x::xs,es=>∃a k v r,x=.ref a/\es=(k,v)::r/\SqT K H a [kV k,v]/\Vn K H xs r
def dD(es:Cf):List (Key×V):=es.foldl (λacc kv=>putK acc kv.1 kv.2) []
def l5(K:CO):List V->Hp->VK->Prop:=λvs H Q=>∃(p:Addr)(xs:Ck)(es:Cf),vs=[.ref p]/\SqL K H p xs/\Vn K H xs es/\∀l,H l=none->Q (.ref l) (upd H l (.dK (dD es)))
def UY{pins:Ca}{σ:St}{H:Hp}{s:Ce}(I:Inv X pins σ H s):∀{xs:Ck}{es:Cf}{its:Cg},Vn X.K H xs es->Vals xs its->∃ps:List (Addr×Value×Value),its=ps.map (λp=>Value.ref p.1)/\ps.length=es.length/\(∀p∈ps,TupAt s.heap p.1 p.2.1 p.2.2)/\∀(i:Nat) p e,ps[i]?=some p->es[i]?=some e->RelV (kV e.1) p.2.1/\RelV e.2 p.2.2
 |[],_,its,h,r=>by cases(show _=_ from h);cases r;exact⟨[],rfl,rfl,(λ_ h=>by cases h),λ_ _ _ h=>by cases h⟩
 |x::xs,_,its,h,r=>by
  obtain⟨a,k,v,es,rfl,rfl,ht,hr⟩:=h;cases r with
  |cons rx r=>
   cases rx;obtain⟨ps,e1,e2,e3,e4⟩:=UY I hr r;obtain⟨us,ru,⟨o,h1,h2,m,h3⟩,_⟩:=I.tuple ht;obtain⟨u1,u2,rfl,r1,r2⟩:=vals2 ru;refine⟨(a,u1,u2)::ps,by rw[e1];rfl,by rw[B0,B0,e2],λp hp=>?_,λi p e hp he=>?_⟩
   .rcases C5.mp hp with rfl|hp
    .exact⟨o,m,h1,h2,h3⟩
    .exact e3 p hp
   .cases i with
    |zero=>rw[a0v]at hp he;cases hp;cases he;exact⟨r1,r2⟩
    |succ i=>rw[E8]at hp he;exact e4 i p e hp he
def dE{es:Cf}{key:Dp}{val:Dm}:∀n,n<=es.length->(∀i e,i<n->es[i]?=some e->key i=e.1/\RelV e.2 (val i))->KV ((es.take n).foldl (λacc kv=>putK acc kv.1 kv.2) []) (fX key val n)
 |0,_,_=>.nil
 |n+1,hn,h=>by have hlt:n<es.length:=hn;have hx:=B9 hlt;rw[a1M,hx,List.foldl_append];obtain⟨e1,e2⟩:=h n _ (P6 n) hx;show KV (putK _ _ _) (stored (fX key val n) (key n) (val n));rw[e1];exact(dE n (a0a hlt) λi e hi he=>h i e (a1c hi) he).put _ e2
def bg(hc:X.calm=true):ZG X (.type "dict") (l5 X.K):=by
 intro pins s σ H xs us Q I r h;obtain⟨p,xs,es,rfl,hS,hp,q⟩:=h;obtain⟨u,rfl,ru⟩:=vals1 r;cases ru;obtain⟨its,rv,⟨o,m,h1,h2,h3,h4⟩,hz⟩:=I.list hS;obtain⟨ps,e1,e2,e3,e4⟩:=UY I hp rv;have hlen:its.length=es.length:=by rw[e1,u8,e2]
 have hx:∀i,i<es.length->∃a,ps[i]?=some a/\es[i]?=some (es.getD i (.inl 0,.non))/\ps.getD i (0,.none,.none)=a:=λi hi=>by
  have hi2:i<ps.length:=by rw[e2];exact hi
  refine⟨ps[i],B9 hi2,by rw[M4,B9 hi];rfl,by rw[M4,B9 hi2];rfl⟩
 have hsz:its.toArray.size=es.length:=by simpa using hlen
 obtain⟨cls,dict,data,slots⟩:=o;dsimp only at h2 h3 h4;subst h2 h3 h4;refine Vm (knd:=z7 X.prog X.w) (key:=λi=>(es.getD i (.inl 0,.non)).1) (kv:=λi=>(ps.getD i (0,.none,.none)).2.1) (val:=λi=>(ps.getD i (0,.none,.none)).2.2) (ad:=λi=>(ps.getD i (0,.none,.none)).1) (I.ok.hd hc) h1 (λi hi=>?_) (λi hi=>?_) (λi hi=>?_) ?_ λh' tk hk hD=>?_
 .rw[hsz]at hi;obtain⟨a,ha,_,hg⟩:=hx i hi;rw[hg];simp[e1,ha]
 .rw[hsz]at hi;obtain⟨a,ha,_,hg⟩:=hx i hi;rw[hg];exact e3 a (O8 ha)
 .rw[hsz]at hi;obtain⟨a,ha,he,hg⟩:=hx i hi;rw[hg];exact Xu (e4 i a _ ha he).1
 .rw[hsz,<- hlen,<- rv.length];exact hz
 .rw[hsz]at hD;have kvr:KV (dD es) (fX (λi=>(es.getD i (.inl 0,.non)).1) (λi=>(ps.getD i (0,.none,.none)).2.2) es.length):=by
   have:=dE (es:=es) (key:=λi=>(es.getD i (.inl 0,.non)).1) (val:=λi=>(ps.getD i (0,.none,.none)).2.2) es.length (B7 _) λi e hi he=>?_
   .rwa [a0B]at this
   .obtain⟨a,ha,he',hg⟩:=hx i hi;rw[he]at he';cases he';rw[hg];exact⟨by rw[M4,he],(e4 i a _ ha he).2⟩
  have hfr:=I.hok.fresh (B7 s.heap.objs.size);refine⟨.ref s.heap.objs.size,_,I.laid (a:=s.heap.objs.size) (o:=.dK (dD es)) (t':=tk) hk (B7 _) (cb ?_ (O2.mpr (Ne.symm (D2 I.big))) kvr hD),rfl,q _ hfr⟩;rw[kvr.length];refine E3 (Vl _ _ _) ?_;rw[<- hlen,<- rv.length];exact hz
end
def fY:List PV->Option (List (Key×PV))
 |[]=>some []
 |.t [k,v]::xs=>(pk k).bind λq=>(fY xs).map ((q,v)::·)
 |_=>none
def JL(es:Cu):List (Key×PV):=es.foldl (λacc kv=>dput acc kv.1 kv.2) []
def kD:List PV->Out PV
 |[.d xs]=>.ok (.d xs)
 |[.l xs]=>vp ((fY xs).map λes=>.d (JL es))
 |_=>.wall
section
variable {W:RC}{M:Cd}{H:Hp}
def dF:∀{xs:Cy}{vs:Ck}{es:Cu},zy W M H xs vs->fY xs=some es->∃ev,Vn W.K H vs ev/\yE W M H es ev
 |[],_,_,h,e=>by cases e;cases(show _=_ from h);exact⟨[],rfl,rfl⟩
 |x::xs,_,es,h,e=>by
  obtain⟨v,r,rfl,h1,h2⟩:=h;unfold fY at e;split at e
  .cases ‹_::_=[]›
  .rename_i k y ys heq;cases heq;obtain⟨q,hq,e⟩:=E6.mp e;obtain⟨zs,hz,rfl⟩:=v4.mp e;obtain⟨ev,i1,i2⟩:=dF h2 hz;obtain⟨p,us,rfl,hp,u1,r1,rfl,hk,u2,r2,rfl,hv,hr⟩:=h1;cases(show _=_ from hr);cases ba (zT.iff.mpr hk) hq;exact⟨(q,u2)::ev,⟨p,q,u2,ev,rfl,rfl,hp,i1⟩,⟨u2,ev,rfl,hv,i2⟩⟩
  .cases e
def KI:∀{es:Cu}{ev:Cf}{a:Cu}{av:Cf},yE W M H a av->yE W M H es ev->yE W M H (es.foldl (λacc kv=>dput acc kv.1 kv.2) a) (ev.foldl (λacc kv=>putK acc kv.1 kv.2) av)
 |[],_,_,_,h,e=>by cases(show _=_ from e);exact h
 |kx::es,_,a,av,h,⟨v,q,e,h1,h2⟩=>by subst e;rw[a0l,a0l];exact KI (a:=dput a kx.1 kx.2) (av:=putK av kx.1 v) (h.put h1) h2
def gW:LfF W (λvs H Q=>ue vs H Q\/l5 W.K vs H Q) kD:=λM C B H xs vs Q n h q=>by
 unfold kD at q;split at q
 .obtain⟨v,r,rfl,⟨p,es,rfl,_,hl,rr⟩,hr⟩:=h;cases(show _=_ from hr);exact .inl ⟨p,es,rfl,hl,λl hl=>q _ _ (zl.upd hl) (nK rr hl)⟩
 .obtain⟨z,e,q⟩:=qc q;obtain⟨es,he,rfl⟩:=v4.mp e;obtain⟨v,r,rfl,⟨p,ws,rfl,_,hl,rr⟩,hr⟩:=h;cases(show _=_ from hr);obtain⟨ev,i1,i2⟩:=dF rr he;exact .inr ⟨p,ws,ev,rfl,SqL.of hl,i1,λl hl=>q _ _ (zl.upd hl) (nK (KI (show yE W M H [] []from rfl) i2) hl)⟩
 .exact q.elim
end
def Vo(hc:X.calm=true)(hg:Gl X "dict")(hm:X.mg "dict"=none)(ha:AM X C S ws [e] ms)(he:starEach [e] X.env=[(false,eval e X.env)]:=by rfl):FM X C S (.Call (.Name "dict" p) [e] [] pos) (zh kD ms):=
 UM (λhK=>hK▸bc.or (bg hc)) gW hg hm PyProof.Rows.boot_dict ha (he:=he)
section
variable {prog:Cq}{w:Cv}{A:Cz}{E:B_}{s:Ce}
def len_dict:typeLookup (.type "dict") "__len__"=pure (some (.builtin "dict.__len__")):=by rw[a0o,R9];kernel_rfl
def dG(hT:s.TypeIs (.ref d) "dict")(h:Q false s):wpAny (model prog w) A (Builtin.List.listLengthHint (.ref d)) Q E s:=by
 unfold Builtin.List.listLengthHint;refine f8 (a0K hT len_dict ?_);generalize hid:("dict.__len__":String)=id0
 (fail_if_success (clear hid id0));wp_delta
 rw[show splitId id0=some ("dict","__len__")from by subst hid;decide +kernel];dsimp only;refine f8 (a0f (b:=true) hT (by rw[a1K];kernel_rfl) ?_);subst hid;rw[if_neg (by decide)];rw[if_pos (by decide +kernel)];refine f8 (S8 (T:="dict") hT ?_);exact B8 h
variable {K:Type}[DecidableEq K] {knd:KeyKind prog w K}
def oz{Q:B_}{d:Addr}{kvs:List (K×Value)}{ep:Nat}(hh:A.handled=none)(hd:(d==sysModules)=false)(hm:s.heap.DictAt knd d kvs ep)(hn:kvs.length<=sizeLine)
  (hQ:∀h' tk acc' c',(∀b o,s.heap.get? b=some o->h'.get? b=some o)->h'.get? s.heap.objs.size=some { cls:=.type "list",dict:=none,data:=.seq acc' c',slots:=#[] }->ItemsOf (λi v=>∃k x,kvs[i]?=some (k,x)/\knd.is k v=true) acc' kvs.length->Q (.ref s.heap.objs.size) { s with heap:=h',toks:=tk }):
  wpAny (model prog w) A (call (.type "list") [.ref d]) Q E s:=by
 have l1:d<s.heap.objs.size:=by obtain⟨o,_,ho,_⟩:=hm;exact C0 ho
 refine a1L (Q₁:=λobj s₁=>obj=.ref s.heap.objs.size/\s₁={ s with heap:=s.heap.push { cls:=.type "list",data:=.seq #[] } }) a1X (a1x _) a1y
  (code_list_new _ ⟨rfl,rfl⟩) λobj s₁ h₁=>?_
 obtain⟨rfl,rfl⟩:=h₁;have hS:(s.heap.push { cls:=.type "list",data:=.seq #[] }).get? s.heap.objs.size=some { cls:=.type "list",data:=.seq #[] }:=E2 _ rfl;refine⟨⟨_,hS,rfl⟩,a1p _ _,?_⟩;show wpAny _ _ (do let old<-Builtin.List.listItems (.ref s.heap.objs.size);Builtin.List.listUpdate (.ref s.heap.objs.size) (λ_=>#[]);letGo old.toList.reverse;Builtin.List.listExtendWith (.ref s.heap.objs.size) (.ref d) .none) _ _ _;refine f8 ?_;unfold Builtin.List.listItems;refine f8 (a0U hS rfl (B8 ?_));show wpAny _ _ (updateSeq s.heap.objs.size (λ_=>#[]) >>= λ_=>letGo (#[]:Array Value).toList.reverse >>= λ_=>Builtin.List.listExtendWith (.ref s.heap.objs.size) (.ref d) .none) _ _ _;refine f8 (O1 hS rfl ?_);have hS₂:=G0 (Obj.mapSeq (λ_=>(#[]:Array Value))) hS rfl;refine f8 (a0j ?_);have kp:∀b o,s.heap.get? b=some o->((s.heap.push { cls:=.type "list",data:=.seq #[] }).update s.heap.objs.size (Obj.mapSeq (λ_=>(#[]:Array Value)))).get? b=some o:=λb o e=>
  (D8 _ _ (M9 (C0 e))).trans (B6 _ e)
 generalize((s.heap.push { cls:=.type "list",data:=.seq #[] }).update s.heap.objs.size (Obj.mapSeq (λ_=>(#[]:Array Value))))=h2 at hS₂ kp;have hm2:h2.DictAt knd d kvs ep:=hm.at' λo e=>kp _ _ e;have hT2:∀{s':Ce},s'.heap.DictAt knd d kvs ep->s'.TypeIs (.ref d) "dict":=λz=>z.dictOf.typeIs;unfold Builtin.List.listExtendWith;refine f8 (S8 (T:="dict") (hT2 hm2) ?_);have hne1:s.heap.objs.size≠d:=M9 l1;have h1:Builtin.List.listSameRef (.ref s.heap.objs.size) (.ref d)=false:=by simp[Builtin.List.listSameRef,hne1]
 rw[if_neg (by rw[h1];decide)];refine f8 (a1d hd hm2 ?_);have kp2:∀b o,h2.get? b=some o->(h2.push { cls:=.type "dict_keyiterator",data:=.fields #[.ref d,.int 0 0,.int kvs.length 0,.int ep 0] }).get? b=some o:=λb o e=>B6 _ e;have hm3:(h2.push { cls:=.type "dict_keyiterator",data:=.fields #[.ref d,.int 0 0,.int kvs.length 0,.int ep 0] }).DictAt knd d kvs ep:=hm2.at' λo e=>kp2 _ _ e;refine f8 (G7 (dG (hT2 hm3) ?_));rw[if_pos (by decide)];refine f8 (a0O ?_);unfold Builtin.List.listTouch Builtin.List.listUpdate;have s2:s.heap.objs.size<h2.objs.size:=C0 hS₂;have dn:d≠h2.objs.size:=D2 (a0c l1 s2);have hS3:=kp2 _ _ hS₂;have it3:(h2.push { cls:=.type "dict_keyiterator",data:=.fields #[.ref d,.int 0 0,.int kvs.length 0,.int ep 0] }).get? h2.objs.size=some { cls:=.type "dict_keyiterator",data:=.fields #[.ref d,.int 0 0,.int kvs.length 0,.int ep 0] }:=E2 _ rfl;have kq:∀b o,s.heap.get? b=some o->(h2.push { cls:=.type "dict_keyiterator",data:=.fields #[.ref d,.int 0 0,.int kvs.length 0,.int ep 0] }).get? b=some o:=λb o e=>kp2 _ _ (kp b o e);generalize(h2.push { cls:=.type "dict_keyiterator",data:=.fields #[.ref d,.int 0 0,.int kvs.length 0,.int ep 0] })=h3 at hS3 it3 kq hm3;refine f8 (f8 (O1 hS3 rfl ?_));have hS4:=G0 (Obj.mapSeq (λx:Array Value=>x.push Value.none)) hS3 rfl;refine O1 hS4 rfl ?_;have hS5:=G0 (Obj.mapSeq (λx:Array Value=>x.pop)) hS4 rfl;have ku:∀b o,b≠s.heap.objs.size->h3.get? b=some o->((h3.update s.heap.objs.size (Obj.mapSeq λx=>x.push Value.none)).update s.heap.objs.size (Obj.mapSeq λx=>x.pop)).get? b=some o:=λb o hb e=>
  (D8 _ _ (Ne.symm hb)).trans ((D8 _ _ (Ne.symm hb)).trans e)
 have hm5:=hm3.at' (h':=((h3.update s.heap.objs.size (Obj.mapSeq λx=>x.push Value.none)).update s.heap.objs.size (Obj.mapSeq λx=>x.pop))) λo e=>ku _ _ (Ne.symm hne1) e;have it5:=ku _ _ (M9 s2) it3;have k5:∀b o,s.heap.get? b=some o->((h3.update s.heap.objs.size (Obj.mapSeq λx=>x.push Value.none)).update s.heap.objs.size (Obj.mapSeq λx=>x.pop)).get? b=some o:=λb o e=>ku b o (D2 (C0 e)) (kq b o e);generalize((h3.update s.heap.objs.size (Obj.mapSeq λx=>x.push Value.none)).update s.heap.objs.size (Obj.mapSeq λx=>x.pop))=h5 at hS5 hm5 it5 k5;refine B8 ⟨M3 a0p _,a0M (Walks.dictKeys (knd:=knd) (A:=A.in1.in1) hh h2.objs.size d dn kvs ep).toS hn s.heap.objs.size (by simp;exact⟨D2 s2,hne1⟩) _ kvs.length 0 _ _ _ rfl (F7 _) (show _/\_ from⟨⟨_,it5,rfl,rfl⟩,hm5⟩) hS5 (a2l _) λs' acc' c' hmv hS' hacc=>?_⟩;rw[a05 hmv];refine⟨rfl,hQ s'.heap s'.toks acc' c' (λb o e=>hmv.heap b o (λhmem=>?_) (k5 b o e)) hS' hacc⟩;have:=C0 e;rcases C5.mp hmem with e'|hm
 .exact D2 this e'
 .exact D2 (a0c this s2) (C7.mp hm)
end
section
variable {X:Cx}
def l6:List V->Hp->VK->Prop:=λvs H Q=>∃p es,vs=[.ref p]/\Rd H p (.dK es)/\∀l,H l=none->Q (.ref l) (upd H l (.lst (es.map λkv=>kV kv.1)))
def bj(hc:X.calm=true):ZG X (.type "list") l6:=by
 intro pins s σ H xs us Q I r h;obtain⟨p,es,rfl,hS,q⟩:=h;obtain⟨u,rfl,ru⟩:=vals1 r;cases ru;obtain⟨z,hd,vs,rel,o,ds,ep,e1,e2,e3,e4,e5,e6⟩:=vD I.hok hS;have hl:vs.length=es.length:=rel.length.symm;refine oz (knd:=z7 X.prog X.w) (kvs:=vs) (ep:=ep) (I.ok.hd hc) hd ⟨o,ds,e1,e2,e3,e4,e5,e6⟩ (by rw[hl];exact z) λh' tk acc' c' hk hg hi=>?_;refine UQ (s:=s) (tk:=tk) I (B7 _) hk hg ?_ ?_ ?_ q
 .rw[u8];exact z
 .rw[u8,hi.1,hl]
 .intro j x v f1 f2;obtain⟨k,y,f3,f4⟩:=hi.2 j v f2;rw[D5]at f1;obtain⟨kx,f5,rfl⟩:=v4.mp f1;obtain⟨w',hw⟩:=dm rel (k:=kx.1) (v:=kx.2) f5;rw[hw]at f3;cases f3;exact Wx f4
end
def KJ:List PV->Out PV
 |[.l xs]=>.ok (.l xs)
 |[.t xs]=>.ok (.l xs)
 |[.sc xs]=>.ok (.l (xs.map PV.i))
 |[.d kvs]=>.ok (.l (kvs.map λkx=>kP kx.1))
 |_=>.wall
def Vp{W:RC}{M:Cd}{H:Hp}:∀{kvs:Cu}{es:Cf},yE W M H kvs es->zy W M H (kvs.map λkx=>kP kx.1) (es.map λkv=>kV kv.1)
 |[],_,h=>by cases(show _=_ from h);rfl
 |kx::r,_,⟨v,q,e,h1,h2⟩=>by subst e;exact⟨_,_,rfl,lX _,Vp h2⟩
def gX(L:LfF W r gK):LfF W (λvs H Q=>r vs H Q\/l6 vs H Q) KJ:=λM C B H xs vs Q n h q=>by
 unfold KJ at q;split at q
 .exact .inl (L M C B H _ vs Q n h q)
 .exact .inl (L M C B H _ vs Q n h q)
 .exact .inl (L M C B H _ vs Q n h q)
 .obtain⟨v,r,rfl,⟨p,es,rfl,_,hl,rr⟩,hr⟩:=h;cases(show _=_ from hr);exact .inr ⟨p,es,rfl,hl,λl hl=>q _ _ (zl.upd hl) (Jw (Vp rr) hl)⟩
 .exact q.elim
def UZ(hc:X.calm=true)(hg:Gl X "list")(hm:X.mg "list"=none)(ha:AM X C S ws [e] ms)(he:starEach [e] X.env=[(false,eval e X.env)]:=by rfl):FM X C S (.Call (.Name "list" p) [e] [] pos) (zh KJ ms):=
 UM (λhK=>hK▸Wg.or (bj hc)) (gX nM) hg hm a1H ha (he:=he)
section
variable {X:Cx}{C:LC}{S:Cb}{e:Co}{ws:Cj}{ms:MA}{pos p:Pos}
end
inductive HV where
 |v (x:PV)|g (k:Nat)|t (xs:List HV)
inductive Cell where
 |l (xs:List HV)|d (kvs:List (Key×HV))|z (kvs:List (Key×HV))|o (c:Nat) (fs:List (Str×HV))|y (b:Bool)
abbrev AH:=List Cell
abbrev kA:=List (Option HV)
structure HC where
 W:RC
 H0:Hp
 M0:Addr->Prop
def HM(Z:HC)(A:Cm)(n:Nat):Addr->Prop:=λa=>(Z.M0 a\/Z.H0 a=none)/\∀k,k<n->A k≠a
mutual
def qL(W:RC)(M:Cd)(A:Cm)(n:Nat)(H:Hp):HV->V->Prop
 |.v x,v=>Rep W M H x v
 |.g k,v=>k<n/\v=.ref (A k)
 |.t xs,v=>∃p vs,v=.ref p/\SqT W.K H p vs/\zK W M A n H xs vs
def zK(W:RC)(M:Cd)(A:Cm)(n:Nat)(H:Hp):List HV->List V->Prop
 |[],vs=>vs=[]
 |x::xs,vs=>∃v r,vs=v::r/\qL W M A n H x v/\zK W M A n H xs r
end
def jo{κ:Type}(R:HV->V->Prop):List (κ×HV)->List (κ×V)->Prop
 |[],es=>es=[]
 |kx::r,es=>∃v q,es=(kx.1,v)::q/\R kx.2 v/\jo R r q
section
variable {W:RC}{M M':Cd}{A A':Cm}{n n':Nat}{H H':Hp}
mutual
def qL.gen(f:Fr M H H')(s:∀a,M a->H a≠none->M' a)(hn:n<=n')(ha:∀k,k<n->A' k=A k):∀{x:HV}{v:V},qL W M A n H x v->qL W M' A' n' H' x v
 |.v x,v,h=>Rep.gen f s h
 |.g k,v,h=>⟨D0 h.1 hn,by rw[ha k h.1];exact h.2⟩
 |.t xs,v,h=>by unfold qL at h ⊢;obtain⟨p,vs,e,r,q⟩:=h;exact⟨p,vs,e,f.sqT r,zK.gen f s hn ha q⟩
def zK.gen(f:Fr M H H')(s:∀a,M a->H a≠none->M' a)(hn:n<=n')(ha:∀k,k<n->A' k=A k):∀{x:List HV}{v:Ck},zK W M A n H x v->zK W M' A' n' H' x v
 |[],v,h=>h
 |x::xs,vs,h=>by unfold zK at h ⊢;obtain⟨v,r,e,h1,h2⟩:=h;exact⟨v,r,e,qL.gen f s hn ha h1,zK.gen f s hn ha h2⟩
end
def jo.imp{κ:Type}{R R':HV->V->Prop}(h:∀x v,R x v->R' x v):∀{kvs:List (κ×HV)}{es:List (κ×V)},jo R kvs es->jo R' kvs es
 |[],_,q=>q
 |_::_,_,⟨v,q,e,a,b⟩=>⟨v,q,e,h _ _ a,jo.imp h b⟩
def KN(W:RC)(M:Cd)(A:Cm)(n:Nat)(H:Hp)(p:Addr):Cell->Prop
 |.l xs=>∃vs,H p=some (.lst vs)/\zK W M A n H xs vs
 |.d kvs=>∃es,H p=some (.dK es)/\jo (qL W M A n H) kvs es
 |.z kvs=>∃o es,H p=some (.frz o (.dK es))/\jo (qL W M A n H) kvs es
 |.o c fs=>∃dx es,H p=some (.ins (W.cls c) dx es)/\jo (qL W M A n H) fs es
 |.y b=>p=W.cls 1000/\∃ps,H p=some (.tbl ps)/\(b=true->ps = #[])
def KN.gen{p:Addr}(hp:H' p=H p)(f:Fr M H H')(s:∀a,M a->H a≠none->M' a)(hn:n<=n')(ha:∀k,k<n->A' k=A k):∀{c:Cell},KN W M A n H p c->KN W M' A' n' H' p c
 |.l _,⟨vs,e,q⟩=>⟨vs,hp.trans e,q.gen f s hn ha⟩
 |.d _,⟨es,e,q⟩=>⟨es,hp.trans e,q.imp λ_ _=>qL.gen f s hn ha⟩
 |.z _,⟨o,es,e,q⟩=>⟨o,es,hp.trans e,q.imp λ_ _=>qL.gen f s hn ha⟩
 |.o _ _,⟨dx,es,e,q⟩=>⟨dx,es,hp.trans e,q.imp λ_ _=>qL.gen f s hn ha⟩
 |.y _,⟨e1,ps,e,q⟩=>⟨e1,ps,hp.trans e,q⟩
def KN.ob{p:Addr}:∀{c:Cell},KN W M A n H p c->∃o,H p=some o
 |.l _,⟨_,e,_⟩=>⟨_,e⟩
 |.d _,⟨_,e,_⟩=>⟨_,e⟩
 |.z _,⟨_,_,e,_⟩=>⟨_,e⟩
 |.o _ _,⟨_,_,e,_⟩=>⟨_,e⟩
 |.y _,⟨_,_,e,_⟩=>⟨_,e⟩
end
structure Gro(Z:HC)(A:Cm)(n:Nat)(H:Hp)(A':Cm)(n':Nat)(H':Hp):Prop where
 le:n<=n'
 agr:∀k,k<n->A' k=A k
 fresh:∀k,n<=k->k<n'->H (A' k)=none
 fr:Fr (HM Z A n) H H'
 dom:∀a,H' a=none->H a=none
structure HH(Z:HC)(A:Cm)(H:Hp)(G:AH):Prop where
 same:zl Z.H0 H
 cell:∀(k:Nat) c,G[k]?=some c->KN Z.W (HM Z A G.length) A G.length H (A k) c
 inj:∀j k,j<G.length->k<G.length->A j=A k->j=k
 own:∀k,k<G.length->Z.H0 (A k)=none
structure HR(Z:HC)(A:Cm)(H:Hp)(σ:St)(ρ:kA)(G:AH):Prop extends HH Z A H G where
 len:σ.length=ρ.length
 var:∀(i:Nat) x,ρ[i]?=some (some x)->∃v,σ[i]?=some (some v)/\qL Z.W (HM Z A G.length) A G.length H x v
section
variable {Z:HC}{A A' A'':Cm}{n n' n'':Nat}{H H' H'':Hp}{G G' G'':AH}{σ σ':St}{ρ ρ':kA}
def Gro.sM(g:Gro Z A n H A' n' H'):∀a,HM Z A n a->H a≠none->HM Z A' n' a:=λa m h=>⟨m.1,λk hk e=>by
 by_cases c:k<n
 .exact m.2 k c (by rw[<- g.agr k c];exact e)
 .exact h (e▸g.fresh k (by omega) hk)⟩
def Gro.same(s:zl H H'):Gro Z A n H A n H':=⟨B7 _,λ_ _=>rfl,λk a b=>absurd b (by omega),s.fr,λa h=>zl.none s h⟩
def Gro.refl:Gro Z A n H A n H:=Gro.same (zl.refl _)
def Gro.trans(g:Gro Z A n H A' n' H')(k:Gro Z A' n' H' A'' n'' H''):Gro Z A n H A'' n'' H'':=by
 refine⟨E3 g.le k.le,λj hj=>(k.agr j (D0 hj g.le)).trans (g.agr j hj),λj h1 h2=>?_,λa o h m=>?_,λa h=>g.dom a (k.dom a h)⟩
 .by_cases c:j<n'
  .rw[k.agr j c];exact g.fresh j h1 c
  .exact g.dom _ (k.fresh j (by omega) h2)
 .refine k.fr a o (g.fr a o h m) (m.imp (λm=>g.sM a m (by rw[h];exact λz=>by cases z)) id)
def qL.gro(g:Gro Z A n H A' n' H')(h:qL W (HM Z A n) A n H x v):qL W (HM Z A' n') A' n' H' x v:=h.gen g.fr g.sM g.le g.agr
def zK.gro(g:Gro Z A n H A' n' H')(h:zK W (HM Z A n) A n H x v):zK W (HM Z A' n') A' n' H' x v:=h.gen g.fr g.sM g.le g.agr
def HR.gro(R:HR Z A H σ ρ G)(h:HH Z A' H' G')(g:Gro Z A G.length H A' G'.length H'):HR Z A' H' σ ρ G':=
 ⟨h,R.len,λi x e=>let⟨v,h1,h2⟩:=R.var i x e;⟨v,h1,h2.gro g⟩⟩
def HH.ob(h:HH Z A H G)(hk:k<G.length):∃o,H (A k)=some o:=(h.cell k _ (B9 hk)).ob
def HH.keep(h:HH Z A H G)(s:zl H H'):HH Z A H' G:=⟨h.same.trans s,λk c e=>by
 have q:=h.cell k c e;obtain⟨o,ho⟩:=q.ob;exact q.gen ((s _ _ ho).trans ho.symm) s.fr (λ_ m _=>m) (B7 _) λ_ _=>rfl,h.inj,h.own⟩
def HH.new(h:HH Z A H G):New (HM Z A G.length) H:=λp hp=>⟨.inr (zl.none h.same hp),λk hk e=>by
 obtain⟨o,ho⟩:=h.ob hk;rw[e,hp]at ho;cases ho⟩
def HR.keep(R:HR Z A H σ ρ G)(s:zl H H'):HR Z A H' σ ρ G:=R.gro (R.toHH.keep s) (Gro.same s)
def exA(A:Cm)(n:Nat)(p:Addr):Nat->Addr:=λk=>if k=n then p else A k
def Yd:exA A n p n=p:=if_pos rfl
def Ye(h:k<n):exA A n p k=A k:=if_neg (by omega)
def Gro.ext(s:zl H H')(hp:H p=none):Gro Z A n H (exA A n p) (n+1) H':=
 ⟨a0i _,λk hk=>Ye hk,λk h1 h2=>by rw[show k=n by omega,Yd];exact hp,s.fr,λa h=>zl.none s h⟩
def HH.alloc(h:HH Z A H G)(s:zl H H')(hp:H p=none)(hc:KN Z.W (HM Z (exA A G.length p) (G.length+1)) (exA A G.length p) (G.length+1) H' p c):HH Z (exA A G.length p) H' (G++[c]):=by
 have g:Gro Z A G.length H (exA A G.length p) (G.length+1) H':=Gro.ext s hp;have hl:(G++[c]).length=G.length+1:=by simp
 have np:∀k,k<G.length->A k≠p:=λk hk e=>by obtain⟨o,ho⟩:=h.ob hk;rw[e,hp]at ho;cases ho
 refine⟨h.same.trans s,λk d e=>?_,λj k hj hk e=>?_,λk hk=>?_⟩
 .rw[hl];by_cases hk:k<G.length
  .rw[F2 hk]at e;have q:=h.cell k d e;obtain⟨o,ho⟩:=q.ob;rw[Ye hk];exact q.gen ((s _ _ ho).trans ho.symm) g.fr g.sM g.le g.agr
  .have e2:=(C4.mp e).1;have ek:k=G.length:=by omega
   subst ek;rw[F4 (B7 _),N8]at e;cases e;rw[Yd];exact hc
 .rw[hl]at hj hk;by_cases c1:j=G.length
  .by_cases c2:k=G.length
   .rw[c1,c2]
   .rw[c1,Yd,Ye (by omega)]at e;exact absurd e.symm (np k (by omega))
  .by_cases c2:k=G.length
   .rw[c2,Yd,Ye (by omega)]at e;exact absurd e (np j (by omega))
   .rw[Ye (by omega),Ye (by omega)]at e;exact h.inj j k (by omega) (by omega) e
 .rw[hl]at hk;by_cases c1:k=G.length
  .rw[c1,Yd];exact zl.none h.same hp
  .rw[Ye (by omega)];exact h.own k (by omega)
def HH.frw(h:HH Z A H G)(hk:k<G.length)(h0:H (A k)=Option.some o0)(n0:¬Imm o0):Gro Z A G.length H A G.length (upd H (A k) o):=by
 refine⟨B7 _,λ_ _=>rfl,λk a b=>absurd b (by omega),λa q e m=>?_,λa e=>?_⟩
 .have:a≠A k:=λz=>by
   rcases m with m|m
   .exact m.2 k hk z.symm
   .rw[z,h0]at e;cases e;exact n0 m
  rw[zc this];exact e
 .by_cases z:a=A k
  .rw[z,zb]at e;cases e
  .rw[zc z]at e;exact e
def HH.write(h:HH Z A H G)(hk:k<G.length)(h0:H (A k)=Option.some o0)(n0:¬Imm o0)(hc:KN Z.W (HM Z A G.length) A G.length (upd H (A k) o) (A k) c):HH Z A (upd H (A k) o) (G.set k c):=by
 have g:=h.frw (o:=o) hk h0 n0;have hl:(G.set k c).length=G.length:=F5 ..;refine⟨λa q e=>?_,λj d e=>?_,λi j hi hj=>h.inj i j (hl▸hi) (hl▸hj),λj hj=>h.own j (hl▸hj)⟩
 .have:a≠A k:=λz=>by rw[z,h.own k hk]at e;cases e
  rw[zc this];exact h.same a q e
 .rw[hl];by_cases hj:k=j
  .subst hj;rw[E4 hk]at e;cases e;exact hc
  .rw[E5 hj]at e;have jl:=(C4.mp e).1;exact(h.cell j d e).gen (zc λz=>hj (h.inj j k jl hk z).symm) g.fr g.sM g.le g.agr
def HR.set(R:HR Z A H σ ρ G)(hx:qL Z.W (HM Z A G.length) A G.length H x v):HR Z A H (σ.set i (Option.some v)) (ρ.set i (Option.some x)) G:=by
 refine⟨R.toHH,by rw[F5,F5];exact R.len,λj y e=>?_⟩;by_cases hij:i=j
 .subst hij;have hl:i<ρ.length:=by
   have:=(C4.mp e).1
   rwa [F5]at this
  rw[E4 hl]at e;cases e;exact⟨v,by rw[E4 (by rw[R.len];exact hl)],hx⟩
 .rw[E5 hij]at e ⊢;exact R.var j y e
end
inductive HX(α:Type)where
 |ok (a:α) (G:AH)|exc (c:Nat) (fs:CD) (G:AH)|wall
def HX.bind{α β:Type}:HX α->(α->AH->HX β)->HX β
 |.ok a G,f=>f a G
 |.exc c fs G,_=>.exc c fs G
 |.wall,_=>.wall
def gY(Z:HC)(E:XK)(A:Cm)(n:Nat)(H:Hp)(c:Nat)(fs:CD)(G':AH):Prop:=∀A' H' e dx es,HH Z A' H' G'->Gro Z A n H A' G'.length H'->H' e=some (XC e (Z.W.cls c) dx)->H' dx=some (XD dx es)->vo Z.W (HM Z A' G'.length) H' fs es->E (.ref e) (some dx) H'
def HPx{α:Type}(Z:HC)(E:XK)(A:Cm)(n:Nat)(H:Hp)(K:α->(Nat->Addr)->Hp->AH->Prop):HX α->Prop
 |.ok x G'=>∀A' H',HH Z A' H' G'->Gro Z A n H A' G'.length H'->K x A' H' G'
 |.exc c fs G'=>gY Z E A n H c fs G'
 |.wall=>False
section
variable {α β:Type}{K:β->(Nat->Addr)->Hp->AH->Prop}{K':α->(Nat->Addr)->Hp->AH->Prop}
def gY.gro(h:gY Z E A n H c fs G)(g:Gro Z A n H A' n' H'):gY Z E A' n' H' c fs G:=λA2 H2 e dx es h2 g2=>h A2 H2 e dx es h2 (g.trans g2)
def HPx.gro{o:HX β}(h:HPx Z E A n H K o)(g:Gro Z A n H A' n' H'):HPx Z E A' n' H' K o:=by
 cases o with
 |ok x G'=>exact λA2 H2 h2 g2=>h A2 H2 h2 (g.trans g2)
 |exc c fs G'=>exact gY.gro h g
 |wall=>exact h
def HPx.bind{o:HX α}{f:α->AH->HX β}(h:HPx Z E A n H K (o.bind f))(k:∀x A' H' G',HH Z A' H' G'->Gro Z A n H A' G'.length H'->HPx Z E A' G'.length H' K (f x G')->K' x A' H' G'):HPx Z E A n H K' o:=by
 cases o with
 |ok x G'=>exact λA2 H2 h2 g2=>k x A2 H2 G' h2 g2 (HPx.gro (o:=f x G') h g2)
 |exc c fs G'=>exact h
 |wall=>exact h
end
abbrev HME:=kA->AH->HX HV
abbrev HMT:=kA->AH->HX Bool
abbrev HMA:=kA->AH->HX (List HV)
def KV'(Z:HC)(Q:VK):HV->(Nat->Addr)->Hp->AH->Prop:=λx A' H' G'=>∀v,qL Z.W (HM Z A' G'.length) A' G'.length H' x v->Q v H'
def KT'(Q:Bool->Hp->Prop):Bool->(Nat->Addr)->Hp->AH->Prop:=λb _ H' _=>Q b H'
def KA'(Z:HC)(Q:List V->Hp->Prop):List HV->(Nat->Addr)->Hp->AH->Prop:=λxs A' H' G'=>∀vs,zK Z.W (HM Z A' G'.length) A' G'.length H' xs vs->Q vs H'
def HE(X:Cx)(W:RC)(E:XK)(e:Co)(m:HME):Prop:=X.K=W.K->∃te,PE X e te/\∀(Z:HC),Z.W=W->∀A H σ ρ G,HR Z A H σ ρ G->∀Q,HPx Z E A G.length H (KV' Z Q) (m ρ G)->te σ H Q
def HT(X:Cx)(W:RC)(E:XK)(e:Co)(m:HMT):Prop:=X.K=W.K->∃te,PT X e te/\∀(Z:HC),Z.W=W->∀A H σ ρ G,HR Z A H σ ρ G->∀Q,HPx Z E A G.length H (KT' Q) (m ρ G)->te σ H Q
def HTW(X:Cx)(W:RC)(E:XK)(e:Co)(m:HMT):Prop:=X.K=W.K->∃te,PW X e te/\∀(Z:HC),Z.W=W->∀A H σ ρ G,HR Z A H σ ρ G->∀Q,HPx Z E A G.length H (KT' Q) (m ρ G)->te σ H Q
def HA(X:Cx)(W:RC)(E:XK)(es:Ci)(m:HMA):Prop:=X.K=W.K->∃te,PA X es te/\∀(Z:HC),Z.W=W->∀A H σ ρ G,HR Z A H σ ρ G->∀Q,HPx Z E A G.length H (KA' Z Q) (m ρ G)->te σ H Q
mutual
def imm:PV->Bool
 |.i _=>true | .s _=>true | .b _=>true | .n=>true
 |.t xs=>Vq xs
 |.l _=>false | .d _=>false | .o _ _=>false | .x _ _=>false | .sc _=>false | .dt _=>false
def Vq:List PV->Bool
 |[]=>true
 |x::xs=>imm x&&Vq xs
end
def dH:List (Str×PV)->Bool
 |[]=>true
 |x::xs=>imm x.2&&dH xs
section
variable {W:RC}{M M':Cd}{A A':Cm}{n n':Nat}{H H':Hp}
mutual
def Y6:∀{x:PV}{v:V},imm x=true->Rep W M H x v->Rep W M' H x v
 |.i _,_,_,h=>h
 |.s _,_,_,h=>h
 |.b _,_,_,h=>h
 |.n,_,_,h=>h
 |.t xs,_,e,h=>by unfold Rep at h ⊢;unfold imm at e;obtain⟨p,vs,e1,r,q⟩:=h;exact⟨p,vs,e1,r,Yf e q⟩
 |.l _,_,e,_=>by unfold imm at e;cases e
 |.d _,_,e,_=>by unfold imm at e;cases e
 |.o _ _,_,e,_=>by unfold imm at e;cases e
 |.x _ _,_,e,_=>by unfold imm at e;cases e
 |.sc _,_,e,_=>by unfold imm at e;cases e
 |.dt _,_,e,_=>by unfold imm at e;cases e
def Yf:∀{x:Cy}{v:Ck},Vq x=true->zy W M H x v->zy W M' H x v
 |[],_,_,h=>h
 |x::xs,_,e,h=>by unfold Vq at e;simp only[Bool.and_eq_true]at e;obtain⟨v,r,e1,h1,h2⟩:=h;exact⟨v,r,e1,Y6 e.1 h1,Yf e.2 h2⟩
end
def wN:∀{x:CD}{v:CP},dH x=true->vo W M H x v->vo W M' H x v
 |[],_,_,h=>h
 |x::xs,_,e,h=>by unfold dH at e;simp only[Bool.and_eq_true]at e;obtain⟨v,r,e1,h1,h2⟩:=h;exact⟨v,r,e1,Y6 e.1 h1,wN e.2 h2⟩
def ZN:List Bool->kA->Option Sto
 |_,[]=>some []
 |[],_::ρ=>(ZN [] ρ).map (none::·)
 |false::bs,_::ρ=>(ZN bs ρ).map (none::·)
 |true::bs,some (.v x)::ρ=>(ZN bs ρ).map (some x::·)
 |true::_,_=>none
def Q7(f:HV->Option PV):List HV->Option (List PV)
 |[]=>some []
 |x::xs=>(f x).bind λy=>(Q7 f xs).map (y::·)
def XY{κ:Type}(f:HV->Option PV):List (κ×HV)->Option (List (κ×PV))
 |[]=>some []
 |x::xs=>(f x.2).bind λy=>(XY f xs).map ((x.1,y)::·)
def qV(G:AH):Nat->HV->Option PV
 |0,_=>none
 |_+1,.v x=>some x
 |n+1,.t xs=>(Q7 (qV G n) xs).map .t
 |n+1,.g k=>match G[k]? with
  |some (.l xs)=>(Q7 (qV G n) xs).map .l
  |some (.d kvs)=>(XY (qV G n) kvs).map .d
  |some (.z kvs)=>(XY (qV G n) kvs).map .d
  |some (.o c fs)=>(XY (qV G n) fs).map (.o c)
  |_=>none
def vN(G:AH):List Bool->kA->Option Sto
 |_,[]=>some []
 |[],_::ρ=>(vN G [] ρ).map (none::·)
 |false::bs,_::ρ=>(vN G bs ρ).map (none::·)
 |true::bs,some x::ρ=>(qV G 8 x).bind λy=>(vN G bs ρ).map (some y::·)
 |true::_,none::_=>none
def wO{f:HV->Option PV}{N:Cd}(hf:∀x v y,qL W M A n H x v->f x=some y->Rep W N H y v):∀{xs:List HV}{vs:Ck}{ys:Cy},zK W M A n H xs vs->Q7 f xs=some ys->zy W N H ys vs
 |[],_,_,h,e=>by cases e;exact h
 |x::xs,_,ys,h,e=>by obtain⟨v,r,rfl,h1,h2⟩:=h;unfold Q7 at e;obtain⟨y,e1,e⟩:=E6.mp e;obtain⟨zs,e2,rfl⟩:=v4.mp e;exact⟨v,r,rfl,hf _ _ _ h1 e1,wO hf h2 e2⟩
def Q8{f:HV->Option PV}{N:Cd}(hf:∀x v y,qL W M A n H x v->f x=some y->Rep W N H y v):∀{xs:List (Key×HV)}{vs:Cf}{ys:Cu},jo (qL W M A n H) xs vs->XY f xs=some ys->yE W N H ys vs
 |[],_,_,h,e=>by cases e;exact h
 |x::xs,_,ys,h,e=>by obtain⟨v,r,rfl,h1,h2⟩:=h;unfold XY at e;obtain⟨y,e1,e⟩:=E6.mp e;obtain⟨zs,e2,rfl⟩:=v4.mp e;exact⟨v,r,rfl,hf _ _ _ h1 e1,Q8 hf h2 e2⟩
def U0{f:HV->Option PV}{N:Cd}(hf:∀x v y,qL W M A n H x v->f x=some y->Rep W N H y v):∀{xs:List (Str×HV)}{vs:CP}{ys:CD},jo (qL W M A n H) xs vs->XY f xs=some ys->vo W N H ys vs
 |[],_,_,h,e=>by cases e;exact h
 |x::xs,_,ys,h,e=>by obtain⟨v,r,rfl,h1,h2⟩:=h;unfold XY at e;obtain⟨y,e1,e⟩:=E6.mp e;obtain⟨zs,e2,rfl⟩:=v4.mp e;exact⟨v,r,rfl,hf _ _ _ h1 e1,U0 hf h2 e2⟩
end
section
variable {Z:HC}{A:Cm}{H:Hp}{G:AH}{σ:St}{ρ:kA}
def kU(h:HH Z A H G):∀(n:Nat)(x:HV)(v:V)(y:PV),qL Z.W (HM Z A G.length) A G.length H x v->qV G n x=some y->Rep Z.W (λ_=>True) H y v
 |0,_,_,_,_,e=>by cases e
 |n+1,.v x,v,y,r,e=>by cases e;exact Rep.sub r λ_ _ _=>trivial
 |n+1,.t xs,v,y,r,e=>by unfold qV at e;obtain⟨ys,e1,rfl⟩:=v4.mp e;unfold qL at r;obtain⟨p,vs,rfl,s,q⟩:=r;exact⟨p,vs,rfl,s,wO (kU h n) q e1⟩
 |n+1,.g k,v,y,r,e=>by
  obtain⟨hk,rfl⟩:=r;unfold qV at e;split at e
  .rename_i xs hc;obtain⟨ys,e1,rfl⟩:=v4.mp e;obtain⟨vs,h1,q⟩:=h.cell k _ hc;exact⟨A k,vs,rfl,trivial,h1,wO (kU h n) q e1⟩
  .rename_i xs hc;obtain⟨ys,e1,rfl⟩:=v4.mp e;obtain⟨vs,h1,q⟩:=h.cell k _ hc;exact⟨A k,vs,rfl,trivial,.inl h1,Q8 (kU h n) q e1⟩
  .rename_i xs hc;obtain⟨ys,e1,rfl⟩:=v4.mp e;obtain⟨o,vs,h1,q⟩:=h.cell k _ hc;exact⟨A k,vs,rfl,trivial,.inr ⟨o,h1⟩,Q8 (kU h n) q e1⟩
  .rename_i c xs hc;obtain⟨ys,e1,rfl⟩:=v4.mp e;obtain⟨dx,vs,h1,q⟩:=h.cell k _ hc;exact⟨A k,dx,vs,rfl,trivial,h1,U0 (kU h n) q e1⟩
  .cases e
def Yg:∀{bs:Cj}{ρ:kA}{r:Sto}{i:Nat}{x:PV},ZN bs ρ=some r->r[i]?=some (some x)->ρ[i]?=some (some (.v x))
 |_,[],r,i,x,e,h=>by unfold ZN at e;cases e;simp at h
 |[],_::ρ,r,i,x,e,h=>by
  unfold ZN at e;obtain⟨r',e1,rfl⟩:=v4.mp e;cases i with
  |zero=>cases h
  |succ i=>rw[E8]at h ⊢;exact Yg e1 h
 |false::bs,_::ρ,r,i,x,e,h=>by
  unfold ZN at e;obtain⟨r',e1,rfl⟩:=v4.mp e;cases i with
  |zero=>cases h
  |succ i=>rw[E8]at h ⊢;exact Yg e1 h
 |true::bs,some (.v y)::ρ,r,i,x,e,h=>by
  unfold ZN at e;obtain⟨r',e1,rfl⟩:=v4.mp e;cases i with
  |zero=>cases h;rfl
  |succ i=>rw[E8]at h ⊢;exact Yg e1 h
 |true::bs,none::ρ,r,i,x,e,h=>by cases e
 |true::bs,some (.g _)::ρ,r,i,x,e,h=>by cases e
 |true::bs,some (.t _)::ρ,r,i,x,e,h=>by cases e
def Yh:∀{bs:Cj}{ρ:kA}{r:Sto},ZN bs ρ=some r->r.length=ρ.length
 |_,[],r,e=>by unfold ZN at e;cases e;rfl
 |[],_::ρ,r,e=>by unfold ZN at e;obtain⟨r',e1,rfl⟩:=v4.mp e;rw[B0,B0,Yh e1]
 |false::bs,_::ρ,r,e=>by unfold ZN at e;obtain⟨r',e1,rfl⟩:=v4.mp e;rw[B0,B0,Yh e1]
 |true::bs,some (.v y)::ρ,r,e=>by unfold ZN at e;obtain⟨r',e1,rfl⟩:=v4.mp e;rw[B0,B0,Yh e1]
 |true::bs,none::ρ,r,e=>by cases e
 |true::bs,some (.g _)::ρ,r,e=>by cases e
 |true::bs,some (.t _)::ρ,r,e=>by cases e
def Q9:∀{bs:Cj}{ρ:kA}{r:Sto}{i:Nat}{x:PV},vN G bs ρ=some r->r[i]?=some (some x)->∃y,ρ[i]?=some (some y)/\qV G 8 y=some x
 |_,[],r,i,x,e,h=>by unfold vN at e;cases e;simp at h
 |[],_::ρ,r,i,x,e,h=>by
  unfold vN at e;obtain⟨r',e1,rfl⟩:=v4.mp e;cases i with
  |zero=>cases h
  |succ i=>rw[E8]at h ⊢;exact Q9 e1 h
 |false::bs,_::ρ,r,i,x,e,h=>by
  unfold vN at e;obtain⟨r',e1,rfl⟩:=v4.mp e;cases i with
  |zero=>cases h
  |succ i=>rw[E8]at h ⊢;exact Q9 e1 h
 |true::bs,some y::ρ,r,i,x,e,h=>by
  unfold vN at e;obtain⟨z,e0,e⟩:=E6.mp e;obtain⟨r',e1,rfl⟩:=v4.mp e;cases i with
  |zero=>cases h;exact⟨y,rfl,e0⟩
  |succ i=>rw[E8]at h ⊢;exact Q9 e1 h
 |true::bs,none::ρ,r,i,x,e,h=>by cases e
def Q_:∀{bs:Cj}{ρ:kA}{r:Sto},vN G bs ρ=some r->r.length=ρ.length
 |_,[],r,e=>by unfold vN at e;cases e;rfl
 |[],_::ρ,r,e=>by unfold vN at e;obtain⟨r',e1,rfl⟩:=v4.mp e;rw[B0,B0,Q_ e1]
 |false::bs,_::ρ,r,e=>by unfold vN at e;obtain⟨r',e1,rfl⟩:=v4.mp e;rw[B0,B0,Q_ e1]
 |true::bs,some y::ρ,r,e=>by unfold vN at e;obtain⟨z,e0,e⟩:=E6.mp e;obtain⟨r',e1,rfl⟩:=v4.mp e;rw[B0,B0,Q_ e1]
 |true::bs,none::ρ,r,e=>by cases e
def uh{S:Cb}(hS:S.all (·==0)=true){i c:Nat}(h:S[i]?=some c):c=0:=by have:=P5.mp hS c (O8 h);simpa using this
def ui(hl:σ.length=r.length)(hS:S.all (·==0)=true)(hv:∀(i:Nat) x,r[i]?=some (some x)->∃v,σ[i]?=some (some v)/\Rep Z.W M H x v):Rel Z.W (c_ H M) S (λ_=>0) H σ r:=by
 have n2:∀{k:Nat},S[k]?=some 2->False:=λ{k} h=>by have:=uh hS h;omega
 have n1:∀{k:Nat},S[k]?=some 1->False:=λ{k} h=>by have:=uh hS h;omega
 refine⟨zl.refl _,hl,λi x e=>?_,λi hi=>(n2 hi).elim,λi j hi=>(n2 hi).elim,λhi=>(n2 hi).elim,λa h=>h.elim,λi hi=>(n2 hi).elim⟩;obtain⟨v,h1,h2⟩:=hv i x e;exact⟨v,h1,λz=>(n2 z).elim,λz=>(n1 z).elim,λ_ _=>h2.sub λa m _=>⟨⟨.inl m,id⟩,λi hi=>(n2 hi).elim⟩⟩
def oA(R:HR Z A H σ ρ G)(e:ZN bs ρ=some r)(hS:S.all (·==0)=true):Rel Z.W (c_ H (HM Z A G.length)) S (λ_=>0) H σ r:=
 ui (R.len.trans (Yh e).symm) hS λi x h=>R.var i _ (Yg e h)
def dI(R:HR Z A H σ ρ G)(e:vN G bs ρ=some r)(hS:S.all (·==0)=true):Rel Z.W (c_ H λ_=>True) S (λ_=>0) H σ r:=
 ui (R.len.trans (Q_ e).symm) hS λi x h=>by obtain⟨y,h1,h2⟩:=Q9 e h;obtain⟨v,h3,h4⟩:=R.var i y h1;exact⟨v,h3,kU R.toHH _ _ _ _ h4 h2⟩
def oB(h:HH Z A H G):∀a,Mof (c_ H (HM Z A G.length)) S P a->HM Z A G.length a:=λa m=>m.1.1.elim id λn=>h.new a n
end
def hP(bs:Cj)(m:ME):HME:=λρ G=>match ZN bs ρ with
 |some r=>match m r with
  |.ok x=>.ok (.v x) G
  |.exc c fs=>.exc c fs G
  |.wall=>.wall
 |none=>match vN G bs ρ with
  |some r=>match m r with
   |.ok x=>if imm x=true then .ok (.v x) G else .wall
   |.exc c fs=>if dH fs=true then .exc c fs G else .wall
   |.wall=>.wall
  |none=>.wall
def hPT(bs:Cj)(m:MT):HMT:=λρ G=>match ZN bs ρ with
 |some r=>match m r with
  |.ok x=>.ok x G
  |.exc c fs=>.exc c fs G
  |.wall=>.wall
 |none=>match vN G bs ρ with
  |some r=>match m r with
   |.ok x=>.ok x G
   |.exc c fs=>if dH fs=true then .exc c fs G else .wall
   |.wall=>.wall
  |none=>.wall
def vK{κ:Type}(xs:List (κ×PV)):List (κ×HV):=xs.map λp=>(p.1,.v p.2)
def gZ:PV->Option Cell
 |.l xs=>some (.l (xs.map .v))
 |.d kvs=>some (.d (vK kvs))
 |.o c fs=>some (.o c (vK fs))
 |_=>none
def Ay:PV->Bool
 |.l xs=>Vq xs
 |.d kvs=>Vq (kvs.map (·.2))
 |.o _ fs=>dH fs
 |_=>false
def hF(bs:Cj)(m:ME):HME:=λρ G=>match ZN bs ρ with
 |some r=>match m r with
  |.ok x=>match gZ x with
   |some c=>.ok (.g G.length) (G++[c])
   |none=>.wall
  |.exc c fs=>.exc c fs G
  |.wall=>.wall
 |none=>match vN G bs ρ with
  |some r=>match m r with
   |.ok x=>if Ay x=true then match gZ x with
    |some c=>.ok (.g G.length) (G++[c])
    |none=>.wall else .wall
   |.exc c fs=>if dH fs=true then .exc c fs G else .wall
   |.wall=>.wall
  |none=>.wall
section
variable {W:RC}{M M':Cd}{A:Cm}{n:Nat}{H:Hp}
def uj:∀{xs:Cy}{vs:Ck},zy W M H xs vs->zK W M A n H (xs.map .v) vs
 |[],_,h=>h
 |_::_,_,⟨v,r,e,h1,h2⟩=>⟨v,r,e,h1,uj h2⟩
def uk:∀{xs:Cu}{vs:Cf},yE W M H xs vs->jo (qL W M A n H) (vK xs) vs
 |[],_,h=>h
 |_::_,_,⟨v,r,e,h1,h2⟩=>⟨v,r,e,h1,uk h2⟩
def um:∀{xs:CD}{vs:CP},vo W M H xs vs->jo (qL W M A n H) (vK xs) vs
 |[],_,h=>h
 |_::_,_,⟨v,r,e,h1,h2⟩=>⟨v,r,e,h1,um h2⟩
def U1:∀{x:Cu}{v:Cf},Vq (x.map (·.2))=true->yE W M H x v->yE W M' H x v
 |[],_,_,h=>h
 |x::xs,_,e,h=>by rw[C8]at e;unfold Vq at e;simp only[Bool.and_eq_true]at e;obtain⟨v,r,e1,h1,h2⟩:=h;exact⟨v,r,e1,Y6 e.1 h1,U1 e.2 h2⟩
def uo(hx:Kj W M H p x)(e:gZ x=some c):KN W M A n H p c:=by
 cases x with
 |l xs=>cases e;obtain⟨vs,h,r⟩:=hx;exact⟨vs,h,uj r⟩
 |d xs=>cases e;obtain⟨vs,h,r⟩:=hx;exact⟨vs,h,uk r⟩
 |o k xs=>cases e;obtain⟨dx,vs,h,r⟩:=hx;exact⟨dx,vs,h,um r⟩
 |_=>cases e
def g5(e:Ay x=true)(hx:Kj W M H p x):Kj W M' H p x:=by
 cases x with
 |l xs=>obtain⟨vs,h,r⟩:=hx;exact⟨vs,h,Yf e r⟩
 |d xs=>obtain⟨vs,h,r⟩:=hx;exact⟨vs,h,U1 e r⟩
 |o k xs=>obtain⟨dx,vs,h,r⟩:=hx;exact⟨dx,vs,h,wN e r⟩
 |_=>cases e
end
section
variable {X:Cx}{W:RC}{E:XK}{fr:Bool}{S:Cb}{e a b:Co}{es:Ci}{m:ME}{t:MT}{bs:Cj}{pos p:Pos}{i:Nat}{m1 m2:HME}{ms:HMA}{t1 t2:HMT}
def XZ(h:HH Z A H G)(q:gY Z E A G.length H c fs G)(hM:∀H2 es,vo Z.W (λa=>M a\/H a=none) H2 fs es->vo Z.W (HM Z A G.length) H2 fs es):XPo ⟨Z.W,E,fr⟩ (c_ H M) c fs:=
 λe dx es H2 s h1 h2 h3=>q A H2 e dx es (h.keep s) (Gro.same s) h1 h2 (hM H2 es h3)
def BW(bs:Cj)(h:EM X ⟨W,E,fr⟩ S false e m)(hS:S.all (·==0)=true:=by rfl):HE X W E e (hP bs m):=λhK=>by
 obtain⟨te,a1,a2⟩:=h hK;refine⟨te,a1,λZ hZ A H σ ρ G R Q q=>?_⟩;subst hZ;unfold hP at q;split at q
 .rename_i r hr;refine a2 _ _ H σ r (oA R hr hS) Q ?_;revert q;cases m r with
  |ok x=>exact λq v H2 s rx=>q A H2 (R.toHH.keep s) (Gro.same s) v (rx.rep.sub λa m _=>oB R.toHH a m)
  |exc c fs=>exact λq=>XZ R.toHH q λH2 es h=>h.sub λa m _=>m.elim id λn=>R.toHH.new a n
  |wall=>exact id
 .split at q
  .rename_i r hr;refine a2 _ _ H σ r (dI R hr hS) Q ?_;revert q;cases m r with
   |ok x=>
    intro q v H2 s rx;dsimp only at q;split at q
    .rename_i hi;exact q A H2 (R.toHH.keep s) (Gro.same s) v (Y6 hi rx.rep)
    .exact q.elim
   |exc c fs=>
    intro q;dsimp only at q;split at q
    .rename_i hi;exact XZ R.toHH q λH2 es h=>wN hi h
    .exact q.elim
   |wall=>exact id
  .exact q.elim
def oC(bs:Cj)(h:TM X ⟨W,E,fr⟩ S e t)(hS:S.all (·==0)=true:=by rfl):HT X W E e (hPT bs t):=λhK=>by
 obtain⟨te,a1,a2⟩:=h hK;refine⟨te,a1,λZ hZ A H σ ρ G R Q q=>?_⟩;subst hZ;unfold hPT at q;split at q
 .rename_i r hr;refine a2 _ _ H σ r (oA R hr hS) Q ?_;revert q;cases t r with
  |ok x=>exact λq H2 s=>q A H2 (R.toHH.keep s) (Gro.same s)
  |exc c fs=>exact λq=>XZ R.toHH q λH2 es h=>h.sub λa m _=>m.elim id λn=>R.toHH.new a n
  |wall=>exact id
 .split at q
  .rename_i r hr;refine a2 _ _ H σ r (dI R hr hS) Q ?_;revert q;cases t r with
   |ok x=>exact λq H2 s=>q A H2 (R.toHH.keep s) (Gro.same s)
   |exc c fs=>
    intro q;dsimp only at q;split at q
    .rename_i hi;exact XZ R.toHH q λH2 es h=>wN hi h
    .exact q.elim
   |wall=>exact id
  .exact q.elim
def X0{Z:HC}{A:Cm}{H H2:Hp}{G:AH}{c:Cell}{p:Addr}{Q:VK}(h:HH Z A H G)(s:zl H H2)(hp:H p=none)(hc:KN Z.W (HM Z (exA A G.length p) (G.length+1)) (exA A G.length p) (G.length+1) H2 p c)(q:HPx Z E A G.length H (KV' Z Q) (.ok (.g G.length) (G++[c]))):Q (.ref p) H2:=by
 have hl:(G++[c]).length=G.length+1:=by simp
 refine q _ H2 (h.alloc s hp hc) (by rw[hl];exact Gro.ext s hp) _ ⟨by rw[hl];exact P6 _,?_⟩;rw[Yd]
def uq{Z:HC}{A:Cm}{n:Nat}{p a:Addr}(m:HM Z A n a)(h:a≠p):HM Z (exA A n p) (n+1) a:=⟨m.1,λk hk e=>by
 by_cases c:k=n
 .rw[c,Yd]at e;exact h e.symm
 .rw[Ye (by omega)]at e;exact m.2 k (by omega) e⟩
def BX(bs:Cj)(a2:LFr ⟨W,E,fr⟩ S te m)(hS:S.all (·==0)=true:=by rfl):∀(Z:HC),Z.W=W->∀A H σ ρ G,HR Z A H σ ρ G->∀Q,HPx Z E A G.length H (KV' Z Q) (hF bs m ρ G)->te σ H Q:=λZ hZ A H σ ρ G R Q q=>by
 subst hZ;unfold hF at q;split at q
 .rename_i r hr;refine a2 _ _ H σ r (oA R hr hS) Q ?_;revert q;cases m r with
  |ok x=>
   intro q v H2 s rx;dsimp only at q;split at q
   .rename_i c hc;obtain⟨p,rfl,hp,ra⟩:=rx;exact X0 R.toHH s hp (uo (ra.gen rfl Fr.refl λa m _=>uq (oB R.toHH a m.1) m.2) hc) q
   .exact q.elim
  |exc c fs=>exact λq=>XZ R.toHH q λH2 es h=>h.sub λa m _=>m.elim id λn=>R.toHH.new a n
  |wall=>exact id
 .split at q
  .rename_i r hr;refine a2 _ _ H σ r (dI R hr hS) Q ?_;revert q;cases m r with
   |ok x=>
    intro q v H2 s rx;dsimp only at q;split at q
    .rename_i hi;split at q
     .rename_i c hc;obtain⟨p,rfl,hp,ra⟩:=rx;exact X0 R.toHH s hp (uo (g5 hi ra) hc) q
     .exact q.elim
    .exact q.elim
   |exc c fs=>
    intro q;dsimp only at q;split at q
    .rename_i hi;exact XZ R.toHH q λH2 es h=>wN hi h
    .exact q.elim
   |wall=>exact id
  .exact q.elim
def BY(bs:Cj)(h:FM X ⟨W,E,fr⟩ S e m)(hS:S.all (·==0)=true:=by rfl):HE X W E e (hF bs m):=λhK=>by obtain⟨te,a1,a2⟩:=h hK;exact⟨te,a1,BX bs a2 hS⟩
def yj(i:Nat):HME:=λρ G=>match ρ[i]? with
 |some (some x)=>.ok x G
 |_=>.wall
def zY(h:PE X e (V2 i)):HE X W E e (yj i):=λ_=>⟨_,h,λZ hZ A H σ ρ G R Q q=>by
 unfold yj at q;split at q
 .rename_i x hx;obtain⟨v,h1,h2⟩:=R.var i x hx;exact⟨v,h1,q A H R.toHH Gro.refl v h2⟩
 .exact q.elim⟩
def Kl:HMA:=λ_ G=>.ok [] G
def ya(m:HME)(ms:HMA):HMA:=λρ G=>(m ρ G).bind λx G1=>(ms ρ G1).bind λxs G2=>.ok (x::xs) G2
def Yi:HA X W E [] Kl:=λ_=>⟨_,KA,λZ hZ A H σ ρ G R Q q=>q A H R.toHH Gro.refl [] rfl⟩
def yO(h:HE X W E e m1)(hr:HA X W E es ms)(hs:starEach (e::es) X.env=(false,eval e X.env)::starEach es X.env:=by rfl):HA X W E (e::es) (ya m1 ms):=λhK=>by obtain⟨te,a1,a2⟩:=h hK;obtain⟨ta,b1,b2⟩:=hr hK;refine⟨_,ZH a1 b1 hs,λZ hZ A H σ ρ G R Q q=>a2 Z hZ A H σ ρ G R _ (HPx.bind q λx A1 H1 G1 h1 g1 q1 v rx=>?_)⟩;refine b2 Z hZ A1 H1 σ ρ G1 (R.gro h1 g1) _ (HPx.bind q1 λxs A2 H2 G2 h2 g2 q2 vs rs=>?_);exact q2 A2 H2 h2 Gro.refl (v::vs) ⟨v,vs,rfl,rx.gro g2,rs⟩
def zK.len{W:RC}{M:Cd}{A:Cm}{n:Nat}{H:Hp}:∀{xs:List HV}{vs:Ck},zK W M A n H xs vs->vs.length=xs.length
 |[],_,h=>by cases(show _=_ from h);rfl
 |x::xs,_,h=>by obtain⟨v,r,rfl,_,h2⟩:=h;rw[B0,B0,zK.len h2]
def oE:List HV->Option (List PV)
 |[]=>some []
 |.v x::xs=>(oE xs).map (x::·)
 |_::_=>none
def Vr{W:RC}{M:Cd}{A:Cm}{n:Nat}{H:Hp}:∀{xs:List HV}{ys:Cy}{vs:Ck},oE xs=some ys->zK W M A n H xs vs->zy W M H ys vs
 |[],_,_,e,h=>by cases e;exact h
 |.v x::xs,ys,_,e,h=>by unfold oE at e;obtain⟨zs,e1,rfl⟩:=v4.mp e;obtain⟨v,r,rfl,h1,h2⟩:=h;exact⟨v,r,rfl,h1,Vr e1 h2⟩
 |.g _::_,_,_,e,_=>by cases e
 |.t _::_,_,_,e,_=>by cases e
def hOr(t u:HMT):HMT:=λρ G=>(t ρ G).bind λc G1=>if c=true then .ok true G1 else u ρ G1
def HTW.tm(h:HTW X W E e t1):HT X W E e t1:=λhK=>let⟨tt,a1,a2⟩:=h hK;⟨tt,a1.pt,a2⟩
def l7(h:HT X W E a t1):HTW X W E (.BoolOp .Or [a] pos) t1:=λhK=>let⟨tt,a1,a2⟩:=h hK;⟨tt,pw_or1 a1,a2⟩
variable {rest:Ci}
def ur(h:HT X W E a t1)(h2:HTW X W E (.BoolOp .Or (b::rest) pos) t2):HTW X W E (.BoolOp .Or (a::b::rest) pos) (hOr t1 t2):=λhK=>by
 obtain⟨tt,a1,a2⟩:=h hK;obtain⟨tu,b1,b2⟩:=h2 hK;refine⟨_,pw_or a1 b1,λZ hZ A H σ ρ G R Q q=>a2 Z hZ A H σ ρ G R _ (HPx.bind q λc A1 H1 G1 h1 g1 q1=>?_)⟩;cases c with
 |true=>show(if true=true then Q true H1 else tu σ H1 Q);rw[if_pos rfl];exact q1 A1 H1 h1 Gro.refl
 |false=>show(if false=true then Q true H1 else tu σ H1 Q);rw[if_neg C9];exact b2 Z hZ A1 H1 σ ρ G1 (R.gro h1 g1) _ q1
def fZ(m:HME):HMT:=λρ G=>(m ρ G).bind λx G1=>match x with
 |.v (.b c)=>.ok c G1
 |_=>.wall
def uu(h:HE X W E e m1)(he:∀whole,isTrue e X.env whole=(do let v<-whole;standAt e.pos;holding [v] (truthy v)):=by intro _;rfl):HT X W E e (fZ m1):=λhK=>by
 obtain⟨te,a1,a2⟩:=h hK;refine⟨_,i7 a1 he,λZ hZ A H σ ρ G R Q q=>a2 Z hZ A H σ ρ G R _ (HPx.bind q λx A1 H1 G1 h1 g1 q1 v rx=>?_)⟩;split at q1
 .rename_i c;exact⟨c,(show v=.bl c from rx),q1 A1 H1 h1 Gro.refl⟩
 .exact q1.elim
end
section
variable {W:RC}{M:Cd}{A:Cm}{n:Nat}{H:Hp}
def zK.get:∀{xs:List HV}{vs:Ck}{i:Nat}{x:HV},zK W M A n H xs vs->xs[i]?=some x->∃v,vs[i]?=some v/\qL W M A n H x v
 |[],_,_,_,_,e=>by simp at e
 |x::xs,_,0,y,h,e=>by obtain⟨v,r,rfl,h1,h2⟩:=h;simp at e;subst e;exact⟨v,rfl,h1⟩
 |x::xs,_,i+1,y,h,e=>by obtain⟨v,r,rfl,h1,h2⟩:=h;simp only[List.getElem?_cons_succ]at e ⊢;exact zK.get h2 e
def zK.append:∀{xs ys:List HV}{vs us:Ck},zK W M A n H xs vs->zK W M A n H ys us->zK W M A n H (xs++ys) (vs++us)
 |[],_,_,_,h,k=>by cases(show _=_ from h);exact k
 |x::xs,_,_,_,h,k=>by obtain⟨v,r,rfl,h1,h2⟩:=h;exact⟨v,_,rfl,h1,zK.append h2 k⟩
def zK.set{x:HV}{v:V}(hx:qL W M A n H x v):∀{xs:List HV}{vs:Ck}(i:Nat),zK W M A n H xs vs->zK W M A n H (xs.set i x) (vs.set i v)
 |[],_,_,h=>by cases(show _=_ from h);exact rfl
 |y::xs,_,0,h=>by obtain⟨v,r,rfl,h1,h2⟩:=h;exact⟨_,_,rfl,hx,h2⟩
 |y::xs,_,i+1,h=>by obtain⟨v,r,rfl,h1,h2⟩:=h;exact⟨v,_,rfl,h1,zK.set hx i h2⟩
variable {κ:Type}[DecidableEq κ] {R:HV->V->Prop}
def jo.len:∀{kvs:List (κ×HV)}{es:List (κ×V)},jo R kvs es->es.length=kvs.length
 |[],_,h=>by cases(show _=_ from h);rfl
 |_::_,_,⟨v,q,e,h1,h2⟩=>by subst e;rw[B0,B0,jo.len h2]
def jo.put{k:κ}{a:List (κ×HV)}{es:List (κ×V)}(h:jo R a es)(hx:R x v):jo R (dput a k x) (putK es k v):=by
 have key:∀{a:List (κ×HV)}{es:List (κ×V)},jo R a es->a.any (λkv=>decide (kv.1=k))=es.any (λkv=>decide (kv.1=k))/\jo R (a.map λkv=>if kv.1=k then(kv.1,x)else kv) (es.map λkv=>if kv.1=k then(kv.1,v)else kv)/\jo R (a++[(k,x)]) (es++[(k,v)]):=by
  intro a
  induction a with
  |nil=>intro es h;cases(show _=_ from h);exact⟨rfl,rfl,v,[],rfl,hx,rfl⟩
  |cons kx a ih=>
   intro es h;obtain⟨u,q,rfl,h1,h2⟩:=h;obtain⟨i1,i2,i3⟩:=ih h2;refine⟨by rw[O0,O0,i1],?_,⟨u,_,rfl,h1,i3⟩⟩;rw[C8,C8];by_cases e:kx.1=k
   .rw[if_pos e,if_pos e];exact⟨v,_,rfl,hx,i2⟩
   .rw[if_neg e,if_neg e];exact⟨u,_,rfl,h1,i2⟩
 obtain⟨i1,i2,i3⟩:=key h;unfold dput putK;rw[i1];split
 .exact i2
 .exact i3
end
def vA(f:List HV->AH->HX HV)(ms:HMA):HME:=λρ G=>(ms ρ G).bind λxs G1=>f xs G1
def hsp(W:RC)(n:Nat)(f:List HV->AH->HX HV):Sp:=λvs H Q E=>∃(Z:HC)(A:Cm)(G:AH)(xs:List HV),Z.W=W/\xs.length=n/\HH Z A H G/\zK Z.W (HM Z A G.length) A G.length H xs vs/\HPx Z E A G.length H (KV' Z Q) (f xs G)
def X3:∀vs H Q E,hsp W n f vs H Q E->vs.length=n:=λvs H Q E ⟨Z,A,G,xs,_,hl,_,r,_⟩=>r.len.trans hl
def ZO(F:qQ X.prog X.w X.K X.mg X.base (CXe X.prog X.w) k f fd ps (hsp W n g))(hr:jd k X.A)(hg:Gl X x)(hm:X.mg x=some (.ref f))(hk:keepIn X.K (.ref f)=true)(hb:Binds X.K fd ps [])(hx:Passes (CXe X.prog X.w) X E)(ha:HA X W E (e::es) ms)(hn:∀ρ G xs G',ms ρ G=.ok xs G'->xs.length=n)
  (hdb:(x==("__debug__":Str))=false:=by decide) (he:starEach (e::es) X.env=(false,eval e X.env)::starEach es X.env:=by rfl) (hpl:(backTo pos (starEach es X.env)).any (·.1)=false:=by rfl):HE X W E (.Call (.Name x p) (e::es) [] pos) (vA g ms):=λhK=>by
 obtain⟨ta,a1,a2⟩:=ha hK;refine⟨_,K6 F hr hg hm hk hb .nil hx a1 hdb he hpl,λZ hZ A H σ ρ G R Q q=>a2 Z hZ A H σ ρ G R _ ?_⟩;unfold vA at q;revert q;cases hq:ms ρ G with
 |wall=>exact id
 |exc c fs G'=>exact id
 |ok xs G'=>intro q A1 H1 h1 g1 vs rs;rw[F0];exact⟨Z,A1,G',xs,hZ,hn _ _ _ _ hq,h1,rs,HPx.gro (o:=g xs G') q g1⟩
def Qv:∀ρ G xs G',Kl ρ G=.ok xs G'->xs.length=0:=λρ G xs G' e=>by cases e;rfl
def yX(h:∀ρ G xs G',ms ρ G=.ok xs G'->xs.length=n):∀ρ G xs G',ya m ms ρ G=.ok xs G'->xs.length=n+1:=λρ G xs G' e=>by
 unfold ya at e;cases h1:m ρ G with
 |wall=>rw[h1]at e;cases e
 |exc c fs G1=>rw[h1]at e;cases e
 |ok x G1=>
  rw[h1]at e;have e:(ms ρ G1).bind (λxs G2=>.ok (x::xs) G2)=.ok xs G':=e;cases h2:ms ρ G1 with
  |wall=>rw[h2]at e;cases e
  |exc c fs G1=>rw[h2]at e;cases e
  |ok ys G2=>rw[h2]at e;cases e;rw[B0,h _ _ _ _ h2]
inductive HFw where
 |nx (ρ:kA) (G:AH)|rt (x:HV) (G:AH)|bk (ρ:kA) (G:AH)|ct (ρ:kA) (G:AH)|exc (c:Nat) (fs:CD) (G:AH)|wall
abbrev HMS:=kA->AH->HFw
def HPs(Z:HC)(E:XK)(A:Cm)(n:Nat)(H:Hp)(D:Ends):HFw->Prop
 |.nx ρ' G'=>∀A' H' σ',HR Z A' H' σ' ρ' G'->Gro Z A n H A' G'.length H'->D.nx σ' H'
 |.rt x G'=>∀A' H' v,HH Z A' H' G'->Gro Z A n H A' G'.length H'->qL Z.W (HM Z A' G'.length) A' G'.length H' x v->D.rt v H'
 |.bk ρ' G'=>∀A' H' σ',HR Z A' H' σ' ρ' G'->Gro Z A n H A' G'.length H'->D.bk σ' H'
 |.ct ρ' G'=>∀A' H' σ',HR Z A' H' σ' ρ' G'->Gro Z A n H A' G'.length H'->D.ct σ' H'
 |.exc c fs G'=>gY Z E A n H c fs G'
 |.wall=>False
def HX.fw{α:Type}:HX α->(α->AH->HFw)->HFw
 |.ok a G,f=>f a G
 |.exc c fs G,_=>.exc c fs G
 |.wall,_=>.wall
def LHS(W:RC)(E:XK)(ts:TS)(m:HMS):Prop:=∀(Z:HC),Z.W=W->∀A H σ ρ G,HR Z A H σ ρ G->∀D,HPs Z E A G.length H D (m ρ G)->ts D σ H
def HS(X:Cx)(W:RC)(E:XK)(st:CV)(m:HMS):Prop:=X.K=W.K->∃ts,PS X st ts/\LHS W E ts m
def HSs(X:Cx)(W:RC)(E:XK)(st:CQ)(m:HMS):Prop:=X.K=W.K->∃ts,PSs X st ts/\LHS W E ts m
section
variable {α:Type}{K':α->(Nat->Addr)->Hp->AH->Prop}
def HPs.gro(h:HPs Z E A n H D o)(g:Gro Z A n H A' n' H'):HPs Z E A' n' H' D o:=by
 cases o with
 |nx ρ G=>exact λA2 H2 σ2 r g2=>h A2 H2 σ2 r (g.trans g2)
 |rt x G=>exact λA2 H2 v r g2=>h A2 H2 v r (g.trans g2)
 |bk ρ G=>exact λA2 H2 σ2 r g2=>h A2 H2 σ2 r (g.trans g2)
 |ct ρ G=>exact λA2 H2 σ2 r g2=>h A2 H2 σ2 r (g.trans g2)
 |exc c fs G=>exact gY.gro h g
 |wall=>exact h
def HPs.bind{o:HX α}{f:α->AH->HFw}(h:HPs Z E A n H D (o.fw f))(k:∀x A' H' G',HH Z A' H' G'->Gro Z A n H A' G'.length H'->HPs Z E A' G'.length H' D (f x G')->K' x A' H' G'):HPx Z E A n H K' o:=by
 cases o with
 |ok x G'=>exact λA2 H2 h2 g2=>k x A2 H2 G' h2 g2 (HPs.gro (o:=f x G') h g2)
 |exc c fs G'=>exact h
 |wall=>exact h
end
def JM:HMS:=λρ G=>.nx ρ G
def jO(a b:HMS):HMS:=λρ G=>match a ρ G with
 |.nx ρ' G'=>b ρ' G'
 |.rt x G'=>.rt x G'
 |.bk ρ' G'=>.bk ρ' G'
 |.ct ρ' G'=>.ct ρ' G'
 |.exc c fs G'=>.exc c fs G'
 |.wall=>.wall
def wQ(i:Nat)(m:HME):HMS:=λρ G=>(m ρ G).fw λx G1=>.nx (ρ.set i (some x)) G1
def X4(m:HME):HMS:=λρ G=>(m ρ G).fw λ_ G1=>.nx ρ G1
def Km(m:HME):HMS:=λρ G=>(m ρ G).fw λx G1=>.rt x G1
def hIf(t:HMT)(a b:HMS):HMS:=λρ G=>(t ρ G).fw λc G1=>if c=true then a ρ G1 else b ρ G1
section
variable {X:Cx}{W:RC}{E:XK}{e a b o:Co}{es:Ci}{pos p pos' ky:Pos}{m m1 m2:HME}{ms:HMA}{t1:HMT}{s1 s2:HMS}{x:Str}{st:CV}{sts stt:CQ}{i:Nat}
def ZP:HSs X W E [] JM:=λ_=>⟨_,bQ,λZ hZ A H σ ρ G R D q=>q A H σ R Gro.refl⟩
def uv(h1:LHS W E t s1)(h2:LHS W E u s2):LHS W E (xG t u) (jO s1 s2):=λZ hZ A H σ ρ G R D q=>by
 refine h1 Z hZ A H σ ρ G R _ ?_;unfold jO at q;revert q;cases s1 ρ G with
 |nx ρ' G'=>exact λq A' H' σ' R' g=>h2 Z hZ A' H' σ' ρ' G' R' D (HPs.gro (o:=s2 ρ' G') q g)
 |rt x G'=>exact id
 |bk ρ' G'=>exact id
 |ct ρ' G'=>exact id
 |exc c fs G'=>exact id
 |wall=>exact id
def zp(h1:HS X W E st s1)(h2:HSs X W E sts s2):HSs X W E (st::sts) (jO s1 s2):=λhK=>by obtain⟨t,a1,a2⟩:=h1 hK;obtain⟨u,b1,b2⟩:=h2 hK;exact⟨_,Q2 a1 b1,uv a2 b2⟩
def yd(h1:HS X W E st s1):HSs X W E [st] s1:=λhK=>by obtain⟨t,a1,a2⟩:=h1 hK;exact⟨_,YX a1,a2⟩
def l8(a2:∀(Z:HC),Z.W=W->∀A H σ ρ G,HR Z A H σ ρ G->∀Q,HPx Z E A G.length H (KV' Z Q) (m ρ G)->te σ H Q):LHS W E (pW te (Xp i)) (wQ i m):=λZ hZ A H σ ρ G R D q=>
 a2 Z hZ A H σ ρ G R _ (HPs.bind q λx A1 H1 G1 h1 g1 q1 v rx=>q1 A1 H1 _ ((R.gro h1 g1).set rx) Gro.refl)
def WE(hN:X.N.Nodup)(hi:X.N[i]?=some x)(hx:Loc X.env.scope x)(h:HE X W E e m)(hs:swapsWith e (some (.Name x pos')) pos.line X.env=pure false:=by rfl)(hf:X.fn x=true\/X.env.scope.names.lookup x=some .local:=by first|exact .inl rfl|exact .inr rfl|assumption):
  HS X W E (.Assign [.Name x pos'] e pos) (wQ i m):=λhK=>by
 obtain⟨te,a1,a2⟩:=h hK;exact⟨_,bT hN hi hx a1 hs hf,l8 a2⟩
def X5(h:HE X W E e m)(hs:swapsWith e none pos.line X.env=pure false:=by rfl):HS X W E (.Expr e pos) (X4 m):=λhK=>by obtain⟨te,a1,a2⟩:=h hK;exact⟨_,Jg a1 hs,λZ hZ A H σ ρ G R D q=>a2 Z hZ A H σ ρ G R _ (HPs.bind q λx A1 H1 G1 h1 g1 q1 v rx=>q1 A1 H1 σ (R.gro h1 g1) Gro.refl)⟩
def Zg(h:HE X W E e m):HS X W E (.Return (some e) pos) (Km m):=λhK=>by obtain⟨te,a1,a2⟩:=h hK;exact⟨_,bR a1,λZ hZ A H σ ρ G R D q=>a2 Z hZ A H σ ρ G R _ (HPs.bind q λx A1 H1 G1 h1 g1 q1 v rx=>q1 A1 H1 v h1 Gro.refl rx)⟩
def X6(h:HT X W E c t1)(h1:HSs X W E sts s1)(h2:HSs X W E stt s2):HS X W E (.If c sts stt pos) (hIf t1 s1 s2):=λhK=>by
 obtain⟨tt,a1,a2⟩:=h hK;obtain⟨t,b1,b2⟩:=h1 hK;obtain⟨u,c1,c2⟩:=h2 hK;refine⟨_,rF a1 b1 c1,λZ hZ A H σ ρ G R D q=>a2 Z hZ A H σ ρ G R _ (HPs.bind q λk A1 H1 G1 h1 g1 q1=>?_)⟩;cases k with
 |true=>show(if true=true then t D σ H1 else u D σ H1);rw[if_pos rfl];exact b2 Z hZ A1 H1 σ ρ G1 (R.gro h1 g1) D q1
 |false=>show(if false=true then t D σ H1 else u D σ H1);rw[if_neg C9];exact c2 Z hZ A1 H1 σ ρ G1 (R.gro h1 g1) D q1
def xu(mo ma:HME):HMS:=λρ G=>(mo ρ G).fw λx G1=>match x with
 |.g k=>match G1[k]? with
  |some (.l _)=>(ma ρ G1).fw λy G2=>match G2[k]? with
   |some (.l xs)=>if xs.length<sizeLine then .nx ρ (G2.set k (.l (xs++[y])))else .wall
   |_=>.wall
  |_=>.wall
 |_=>.wall
def xw{Z:HC}{A:Cm}{H:Hp}{G:AH}{σ:St}{ρ:kA}{D:Ends}{k:Nat}{c:Cell}{o o0:HO}(R:HR Z A H σ ρ G)(hk:k<G.length)(h0:H (A k)=some o0)(n0:¬Imm o0)(hc:KN Z.W (HM Z A G.length) A G.length (upd H (A k) o) (A k) c)(q:HPs Z E A G.length H D (.nx ρ (G.set k c))):D.nx σ (upd H (A k) o):=by
 have g:Gro Z A G.length H A (G.set k c).length (upd H (A k) o):=by rw[F5];exact R.toHH.frw hk h0 n0
 exact q A _ σ (R.gro (R.toHH.write hk h0 n0 hc) g) g
def dJ(ho:HE X W E o m1)(h:HE X W E e m2)(V1:attributeBase o "append" X.env (eval o X.env)=eval o X.env:=by rfl)
  (xl:((backTo p (starEach [e] X.env)).all (λx=>!x.1)&&(backToKw p (keywordEach [] X.env)).all (λx=>x.1.isSome)&&decide ([e].length+([]:List Keyword).length+(if([]:List Keyword).isEmpty then 0 else 1)<30))=true:=by rfl)
  (V0:(ky.endLine==p.line)=true:=by rfl) (hs:starEach [e] X.env=[(false,eval e X.env)]:=by rfl) (hsw:swapsWith (.Call (.Attribute o "append" ky) [e] [] p) none pos.line X.env=pure false:=by rfl):
  HS X W E (.Expr (.Call (.Attribute o "append" ky) [e] [] p) pos) (xu m1 m2):=λhK=>by
 obtain⟨to,o1,o2⟩:=ho hK;obtain⟨te,a1,a2⟩:=h hK;refine⟨_,Jg (r_ a0u a1n a1o Jm o1 (ZH a1 KA hs) V1 xl V0 hs rfl) hsw,λZ hZ A H σ ρ G R D q=>o2 Z hZ A H σ ρ G R _ (HPs.bind q λx A1 H1 G1 h1 g1 q1 v rx=>?_)⟩;split at q1
 .rename_i k;obtain⟨hk,rfl⟩:=rx;split at q1
  .rename_i xs0 hc0;obtain⟨vs0,hp0,_⟩:=h1.cell k _ hc0;have R1:=R.gro h1 g1;refine⟨.inl ⟨rfl,_,SqL.of hp0⟩,a2 Z hZ A1 H1 σ ρ G1 R1 _ (HPs.bind q1 λy A2 H2 G2 h2 g2 q2 u ry=>?_)⟩;split at q2
   .rename_i xs hc;split at q2
    .rename_i hl;obtain⟨vs,hp,r⟩:=h2.cell k _ hc;have hk2:k<G2.length:=D0 hk g2.le;rw[<- g2.agr k hk];have g3:=h2.frw (o:=.lst (vs++[u])) hk2 hp id;have one:zK Z.W (HM Z A2 G2.length) A2 G2.length H2 [y] [u]:=⟨u,[],rfl,ry,rfl⟩;exact⟨_,vs,u,rfl,rfl,hp,by rw[r.len];exact hl,xw (c:=.l (xs++[y])) (R1.gro h2 g2) hk2 hp id ⟨_,zb,(r.append one).gro g3⟩ q2⟩
    .exact q2.elim
   .exact q2.elim
  .exact q1.elim
 .exact q1.elim
def Bk(mo:HME):HMS:=λρ G=>(mo ρ G).fw λx G1=>match x with
 |.g k=>match G1[k]? with
  |some (.l _)=>.nx ρ (G1.set k (.l []))
  |_=>.wall
 |_=>.wall
def g6(ho:HE X W E o m1)(V1:attributeBase o "clear" X.env (eval o X.env)=eval o X.env:=by rfl)(V0:(ky.endLine==p.line)=true:=by rfl)(hsw:swapsWith (.Call (.Attribute o "clear" ky) [] [] p) none pos.line X.env=pure false:=by rfl):
  HS X W E (.Expr (.Call (.Attribute o "clear" ky) [] [] p) pos) (Bk m1):=λhK=>by
 obtain⟨to,o1,o2⟩:=ho hK;refine⟨_,Jg (r9 a0u PySem.F.slot_list_clear PySem.F.type_list_clear gm o1 V1 V0) hsw,λZ hZ A H σ ρ G R D q=>o2 Z hZ A H σ ρ G R _ (HPs.bind q λx A1 H1 G1 h1 g1 q1 v rx=>?_)⟩;split at q1
 .rename_i k;obtain⟨hk,rfl⟩:=rx;split at q1
  .rename_i xs hc;obtain⟨vs,hp,r⟩:=h1.cell k _ hc;exact⟨.inl ⟨rfl,_,SqL.of hp⟩,_,vs,rfl,rfl,hp,xw (c:=.l []) (R.gro h1 g1) hk hp id ⟨[],zb,rfl⟩ q1⟩
  .exact q1.elim
 .exact q1.elim
def f6(mo mk mv:HME):HMS:=λρ G=>(mv ρ G).fw λy G1=>(mo ρ G1).fw λx G2=>(mk ρ G2).fw λz G3=>match x,z with
 |.g k,.v z=>match G3[k]?,pk z with
  |some (.d kvs),some q=>if kvs.length<sizeLine then .nx ρ (G3.set k (.d (dput kvs q y)))else .wall
  |_,_=>.wall
 |_,_=>.wall
def dM(hu:X.A.units+1<cLine)(ho:HE X W E o m)(hk:HE X W E a m1)(hv:HE X W E e m2)(hs:swapsWith e (some (.Subscript o a pos')) pos.line X.env=pure false:=by rfl):
  HS X W E (.Assign [.Subscript o a pos'] e pos) (f6 m m1 m2):=λhK=>by
 obtain⟨to,o1,o2⟩:=ho hK;obtain⟨ta,a1,a2⟩:=hk hK;obtain⟨tv,b1,b2⟩:=hv hK;refine⟨_,cj hu o1 a1 b1 hs,λZ hZ A H σ ρ G R D q=>b2 Z hZ A H σ ρ G R _ (HPs.bind q λy A1 H1 G1 h1 g1 q1 v ry=>?_)⟩;have R1:=R.gro h1 g1;refine o2 Z hZ A1 H1 σ ρ G1 R1 _ (HPs.bind q1 λx A2 H2 G2 h2 g2 q2 w rx=>?_);have R2:=R1.gro h2 g2;refine a2 Z hZ A2 H2 σ ρ G2 R2 _ (HPs.bind q2 λz A3 H3 G3 h3 g3 q3 u rz=>?_);split at q3
 .rename_i k z;obtain⟨hk,rfl⟩:=rx;split at q3
  .rename_i kvs q hc hq;split at q3
   .rename_i hl;obtain⟨es,hp,r⟩:=h3.cell k _ hc;have hk3:k<G3.length:=D0 hk g3.le;have g4:=h3.frw (o:=.dK (putK es q v)) hk3 hp id;rw[<- g3.agr k hk];refine⟨_,_,rfl,by rw[ba (zT.iff.mpr (show Rep Z.W _ H3 z u from rz)) hq];exact pZ.k hp (by rw[r.len];exact hl),xw (c:=.d (dput kvs q y)) (R2.gro h3 g3) hk3 hp id ⟨_,zb,?_⟩ q3⟩;exact(r.put ((ry.gro g2).gro g3)).imp λ_ _ h=>h.gro g4
   .exact q3.elim
  .exact q3.elim
 .exact q3.elim
def g7(mo mk mv:HME):HMS:=λρ G=>(mv ρ G).fw λy G1=>(mo ρ G1).fw λx G2=>(mk ρ G2).fw λz G3=>match x,z with
 |.g k,.v (.i j)=>match G3[k]? with
  |some (.l xs)=>match ixN xs.length j with
   |some t=>.nx ρ (G3.set k (.l (xs.set t y)))
   |none=>.wall
  |_=>.wall
 |_,_=>.wall
def oF(ho:HE X W E o m)(hk:HE X W E a m1)(hv:HE X W E e m2)
  (ha:∀v,assign (.Subscript o a p) X.env v=(do
   let ov<-holding [v] (eval o X.env)
   let iv<-holding [v,ov] (eval a X.env)
   standAt p
   holding [v,ov,iv] (setItem ov iv v)
   release [v,ov,iv] []):=by intro _;rfl)
  (hs:swapsWithSole [.Subscript o a p] e pos.line X.env=pure false:=by rfl) (hw:swappedStores [.Subscript o a p] e X.env=pure none:=by rfl) (h1:(assignEach [.Subscript o a p] X.env).map (·.2)=[assign (.Subscript o a p) X.env]:=by rfl):
  HS X W E (.Assign [.Subscript o a p] e pos) (g7 m m1 m2):=λhK=>by
 obtain⟨to,o1,o2⟩:=ho hK;obtain⟨ta,a1,a2⟩:=hk hK;obtain⟨tv,b1,b2⟩:=hv hK;refine⟨_,rH b1 (rG o1 a1 set_list ha) hs hw h1,λZ hZ A H σ ρ G R D q=>b2 Z hZ A H σ ρ G R _ (HPs.bind q λy A1 H1 G1 h1 g1 q1 v ry=>?_)⟩;have R1:=R.gro h1 g1;refine o2 Z hZ A1 H1 σ ρ G1 R1 _ (HPs.bind q1 λx A2 H2 G2 h2 g2 q2 w rx=>?_);have R2:=R1.gro h2 g2;refine a2 Z hZ A2 H2 σ ρ G2 R2 _ (HPs.bind q2 λz A3 H3 G3 h3 g3 q3 u rz=>?_);split at q3
 .rename_i k j;obtain⟨hk,rfl⟩:=rx;split at q3
  .rename_i xs hc;split at q3
   .rename_i t ht;obtain⟨vs,hp,r⟩:=h3.cell k _ hc;have hk3:k<G3.length:=D0 hk g3.le;have g4:=h3.frw (o:=.lst (vs.set t v)) hk3 hp id;rw[<- g3.agr k hk];exact⟨_,vs,j,t,rfl,rz,hp,by rw[r.len];exact ht,xw (c:=.l (xs.set t y)) (R2.gro h3 g3) hk3 hp id ⟨_,zb,(zK.set ((ry.gro g2).gro g3) t r).gro g4⟩ q3⟩
   .exact q3.elim
  .exact q3.elim
 .exact q3.elim
end
abbrev HMG:=HV->kA->Option kA
def HG(X:Cx)(W:RC)(tg:Co)(mg:HMG):Prop:=X.K=W.K->∃g,PG X tg g/\∀(Z:HC),Z.W=W->∀A H σ ρ G x v,HR Z A H σ ρ G->qL Z.W (HM Z A G.length) A G.length H x v->∀Q:St->Hp->Prop,(∃ρ',mg x ρ=some ρ'/\∀σ',HR Z A H σ' ρ' G->Q σ' H)->g v σ H Q
abbrev BZ:=List HV->kA->Option kA
def hgN(i:Nat):HMG:=λx ρ=>some (ρ.set i (some x))
def Y7(hN:X.N.Nodup)(hi:X.N[i]?=some x)(hx:Loc X.env.scope x)(hf:X.fn x=true\/X.env.scope.names.lookup x=some .local:=by first|exact .inl rfl|exact .inr rfl|assumption):HG X W (.Name x pos) (hgN i):=
 λ_=>⟨_,bS hN hi hx hf,λZ hZ A H σ ρ G x v R r Q ⟨ρ',e,k⟩=>by cases e;exact k _ (R.set r)⟩
def Zh(g:HMG)(b:HMS):List HV->kA->AH->HFw
 |[],ρ,G=>.nx ρ G
 |x::xs,ρ,G=>match g x ρ with
  |none=>.wall
  |some ρ1=>match b ρ1 G with
   |.nx ρ2 G2=>Zh g b xs ρ2 G2
   |.ct ρ2 G2=>Zh g b xs ρ2 G2
   |.bk ρ2 G2=>.nx ρ2 G2
   |.rt v G2=>.rt v G2
   |.exc c fs G2=>.exc c fs G2
   |.wall=>.wall
def isZ:Cell->Bool
 |.z _=>true
 |_=>false
def g8(A:Cm)(G:AH)(a:Addr):Prop:=∃k c,G[k]?=some c/\isZ c=false/\A k=a
section
variable {X:Cx}{W:RC}{E:XK}{Z:HC}{A A':Cm}{H H':Hp}{G G':AH}{σ:St}{ρ:kA}{D:Ends}
def KN.live{M:Cd}{n:Nat}{p:Addr}:∀{c:Cell},KN W M A n H p c->isZ c=false->∃o,H p=Option.some o/\¬Imm o
 |.l _,⟨_,e,_⟩,_=>⟨_,e,id⟩
 |.d _,⟨_,e,_⟩,_=>⟨_,e,id⟩
 |.z _,_,h=>by cases h
 |.o _ _,⟨_,_,e,_⟩,_=>⟨_,e,id⟩
 |.y _,⟨_,_,e,_⟩,_=>⟨_,e,id⟩
def KN.zed{M:Cd}{n:Nat}{p:Addr}:∀{c:Cell},KN W M A n H p c->isZ c=true->∃o,H p=Option.some o/\Imm o
 |.l _,_,h=>by cases h
 |.d _,_,h=>by cases h
 |.z _,⟨_,_,e,_⟩,_=>⟨_,e,trivial⟩
 |.o _ _,_,h=>by cases h
 |.y _,_,h=>by cases h
def Gro.rest(h:HH Z A H G)(h':HH Z A' H' G')(g:Gro Z A G.length H A' G'.length H'):Fr (λa=>¬g8 A G a) H H':=λa o e m=>by
 rcases m with m|m
 .by_cases hc:∃k,k<G.length/\A k=a
  .obtain⟨k,hk,rfl⟩:=hc;have hq:=B9 hk;have hz:isZ G[k]=true:=by
    cases z:isZ G[k]with
    |true=>rfl
    |false=>exact absurd ⟨k,_,hq,z,rfl⟩ m
   obtain⟨o',e',i⟩:=(h.cell k _ hq).zed hz;rw[e']at e;cases e;exact g.fr _ _ e' (.inr i)
  .cases q:Z.H0 a with
   |none=>exact g.fr a o e (.inl ⟨.inr q,λk hk z=>hc ⟨k,hk,z⟩⟩)
   |some u=>have:=h.same a u q;rw[e]at this;cases this;exact h'.same a _ q
 .exact g.fr a o e (.inr m)
open Classical in
def bsH(Z:HC)(A:Cm)(H:Hp)(G:AH):Bs:=⟨λa=>if g8 A G a then none else H a,HM Z A G.length,λ_=>False,λ_ h=>h.elim,none,g8 A G⟩
def Az(R:HR Z A H σ ρ G)(e:ZN bs ρ=some r)(hS:S.all (·==0)=true):Rel Z.W (bsH Z A H G) S (λ_=>0) H σ r:=by
 have n2:∀{k:Nat},S[k]?=some 2->False:=λ{k} h=>by have:=uh hS h;omega
 have n1:∀{k:Nat},S[k]?=some 1->False:=λ{k} h=>by have:=uh hS h;omega
 refine⟨λa o h=>?_,R.len.trans (Yh e).symm,λi x hx=>?_,λi hi=>(n2 hi).elim,λi j hi=>(n2 hi).elim,λhi=>(n2 hi).elim,λa h=>?_,λi hi=>(n2 hi).elim⟩
 .unfold bsH at h;dsimp only at h;split at h
  .cases h
  .exact h
 .obtain⟨v,h1,h2⟩:=R.var i _ (Yg e hx);refine⟨v,h1,λz=>(n2 z).elim,λz=>(n1 z).elim,λ_ _=>(show Rep Z.W _ H x v from h2).sub λa m _=>⟨⟨.inl m,λ⟨k,c,hk,_,ea⟩=>m.2 k (C4.mp hk).1 ea⟩,λi hi=>(n2 hi).elim⟩⟩
 .obtain⟨k,c,hk,hz,rfl⟩:=h;obtain⟨o,ho,ni⟩:=(R.toHH.cell k c hk).live hz;exact⟨o,ho,ni,by unfold bsH;dsimp only;rw[if_pos ⟨k,c,hk,hz,rfl⟩]⟩
def Ja(hZ:Z.W=W)
  (hi:∀R:It->Hp->Prop,(∀J H2,zl H H2->p5 Z.W (HM Z A G.length) (λa=>¬g8 A G a) H2 J xs->R J H2)->wi σ H R)
  (hg:∀(Z:HC),Z.W=W->∀A H σ ρ G x v,HR Z A H σ ρ G->qL Z.W (HM Z A G.length) A G.length H x v->∀Q:St->Hp->Prop,(∃ρ',mg x ρ=some ρ'/\∀σ',HR Z A H σ' ρ' G->Q σ' H)->g v σ H Q) (hb:LHS W E tb mb) (R:HR Z A H σ ρ G) (q:HPs Z E A G.length H D (Zh mg mb (xs.map .v) ρ G)):pX wi g tb D σ H:=by
 refine hi _ λJ H2 s2 io=>?_;have R2:=R.keep s2;have q2:=HPs.gro q (Gro.same s2);refine⟨λi n σ' H'=>n=xs.length-i/\i<=xs.length/\∃ρ' A' G',HR Z A' H' σ' ρ' G'/\Gro Z A G.length H2 A' G'.length H'/\HPs Z E A' G'.length H' D (Zh mg mb ((xs.drop i).map .v) ρ' G'),⟨_,rfl,F7 _,ρ,A,G,R2,Gro.refl,q2⟩,?_⟩
 rintro i n σ' H' ⟨rfl,hle,ρ',A',G',R',g',q'⟩
 have io':=io H' (Gro.rest R2.toHH R'.toHH g');by_cases hlt:i<xs.length
 .have hx:xs[i]?=some xs[i]:=B9 hlt;obtain⟨go,yl⟩:=io'.1 i _ hx;refine .inr ⟨go,λσ2 H2'=>i+1<=xs.length/\∃ρ' A' G',HR Z A' H2' σ2 ρ' G'/\Gro Z A G.length H2 A' G'.length H2'/\HPs Z E A' G'.length H2' D (Zh mg mb ((xs.drop (i+1)).map .v) ρ' G'),λσ2 H2' h=>⟨xs.length-(i+1),by omega,rfl,h.1,h.2⟩,λv H'' hy=>?_⟩;obtain⟨sy,ry⟩:=yl v H'' hy;have Ry:=R'.keep sy;have gy:Gro Z A G.length H2 A' G'.length H'':=g'.trans (Gro.same sy);have rx:Rep Z.W (HM Z A' G'.length) H'' xs[i] v:=ry _ λa m hn=>gy.sM a m hn;rw[O7 hlt,C8]at q';unfold Zh at q';split at q'
  .exact q'.elim
  .rename_i ρ1 hρ;refine hg Z hZ A' H'' σ' ρ' G' _ v Ry (show qL Z.W _ _ _ H'' (.v xs[i]) v from rx) _ ⟨ρ1,hρ,λσ1 R1=>hb Z hZ A' H'' σ1 ρ1 G' R1 _ ?_⟩;have q':=HPs.gro q' (Gro.same sy);revert q';cases mb ρ1 G' with
   |wall=>exact id
   |exc c fs G2=>exact id
   |nx ρ2 G2=>exact λq' A3 H3 σ3 R3 g3=>⟨hlt,ρ2,A3,G2,R3,gy.trans g3,HPs.gro (o:=Zh mg mb ((xs.drop (i+1)).map .v) ρ2 G2) q' g3⟩
   |ct ρ2 G2=>exact λq' A3 H3 σ3 R3 g3=>⟨hlt,ρ2,A3,G2,R3,gy.trans g3,HPs.gro (o:=Zh mg mb ((xs.drop (i+1)).map .v) ρ2 G2) q' g3⟩
   |bk ρ2 G2=>exact id
   |rt x G2=>exact id
 .have e:i=xs.length:=by omega
  subst e;rw[a0A]at q';exact .inl ⟨io'.2,q' A' H' σ' R' Gro.refl⟩
end
def g9(bs:Cj)(mi:MI)(g:HMG)(b:HMS):HMS:=λρ G=>match ZN bs ρ with
 |some r=>match mi r with
  |.ok xs=>Zh g b (xs.map .v) ρ G
  |_=>.wall
 |none=>.wall
section
variable {X:Cx}{W:RC}{E:XK}{fr:Bool}{S:Cb}{tg yM:Co}{body:CQ}{mi:MI}{mg:HMG}{mb:HMS}{pos:Pos}
def oG(bs:Cj)(hp:PassesOwn (Du X) X.A X.env X.xe)(hc:X.calm=true)(hi:IM X ⟨W,E,fr⟩ S false tg yM mi)(hg:HG X W tg mg)(hb:HSs X W E body mb)(hS:S.all (·==0)=true:=by rfl)(hs:∀x,foldedSetIterable yM X.env x=pure x:=by intro _;rfl):
  HS X W E (.For tg yM body [] pos) (g9 bs mi mg mb):=λhK=>by
 obtain⟨wi,a1,a2⟩:=hi hK;obtain⟨g,b1,b2⟩:=hg hK;obtain⟨tb,c1,c2⟩:=hb hK;refine⟨_,Kz hp hc a1 b1 c1 hs,λZ hZ A H σ ρ G R D q=>?_⟩;unfold g9 at q;split at q
 .rename_i r hr;split at q
  .rename_i xs hx;subst hZ;refine Ja rfl (λR' k=>?_) b2 c2 R q;refine a2 _ _ H σ r (Az R hr hS) R' ?_;rw[hx];intro J H2 s io;refine k J H2 s λH' f=>?_;have n2:∀{k:Nat},S[k]?=some 2->False:=λ{k} h=>by have:=uh hS h;omega
   obtain⟨i1,i2⟩:=io H' λa o h m=>f a o h (m.imp (λm z=>m.1 z) id);refine⟨λi x hx=>⟨(i1 i x hx).1,λv H'' hy=>⟨((i1 i x hx).2 v H'' hy).1,λM' sM=>((i1 i x hx).2 v H'' hy).2 M' λa m hn=>sM a ?_ hn⟩⟩,i2⟩;have m1:HM Z A G.length a\/(bsH Z A H G).H0 a=none:=m.1.1;rcases m1 with m1|m1
   .exact m1
   .unfold bsH at m1;dsimp only at m1;split at m1
    .rename_i hl;exact absurd hl m.1.2
    .exact R.toHH.new a m1
  .exact q.elim
 .exact q.elim
end
def ux(G:AH)(x y:HV)(f:Di):HX HV:=match qV G 8 x,qV G 8 y with
 |some x,some y=>match f x y with
  |.ok z=>if imm z=true then .ok (.v z) G else .wall
  |_=>.wall
 |_,_=>.wall
def hOp(p:Di)(m1 m2:HME):HME:=λρ G=>(m1 ρ G).bind λx G1=>(m2 ρ G1).bind λy G2=>ux G2 x y p
def hB(p:Cw)(ms:HMA):HME:=λρ G=>(ms ρ G).bind λxs G1=>match Q7 (qV G1 8) xs with
 |some ys=>match p ys with
  |.ok z=>if imm z=true then .ok (.v z) G1 else .wall
  |_=>.wall
 |none=>.wall
def uy(L:Lf2 Z.W r f)(h:HH Z A H G)(rx:qL Z.W (HM Z A G.length) A G.length H x v)(ry:qL Z.W (HM Z A G.length) A G.length H y u)(q:HPx Z E A G.length H (KV' Z Q) (ux G x y f)):r v u H Q:=by
 unfold ux at q;split at q
 .rename_i x' y' hx hy;refine L (λ_=>True) ⟨Z.W,E0,false⟩ (c_ H λ_=>True) H x' y' v u Q (λ_ _=>trivial) (Rep.weak (kU h _ _ _ _ rx hx)) (Rep.weak (kU h _ _ _ _ ry hy)) ?_;split at q
  .rename_i z hz;rw[hz];intro w H3 s rz;split at q
   .rename_i hi;exact q A H3 (h.keep s) (Gro.same s) w (Y6 hi rz)
   .exact q.elim
  .exact q.elim
 .exact q.elim
def AA(L:Lf2 W r f)(a2:∀(Z:HC),Z.W=W->∀A H σ ρ G,HR Z A H σ ρ G->∀Q,HPx Z E A G.length H (KV' Z Q) (m1 ρ G)->ta σ H Q)(b2:∀(Z:HC),Z.W=W->∀A H σ ρ G,HR Z A H σ ρ G->∀Q,HPx Z E A G.length H (KV' Z Q) (m2 ρ G)->tb σ H Q):
  ∀(Z:HC),Z.W=W->∀A H σ ρ G,HR Z A H σ ρ G->∀Q,HPx Z E A G.length H (KV' Z Q) (hOp f m1 m2 ρ G)->tOp r ta tb σ H Q:=λZ hZ A H σ ρ G R Q q=>
 a2 Z hZ A H σ ρ G R _ (HPx.bind q λx A1 H1 G1 h1 g1 q1 v rx=>b2 Z hZ A1 H1 σ ρ G1 (R.gro h1 g1) _ (HPx.bind q1 λy A2 H2 G2 h2 g2 q2 u ry=>by subst hZ;exact uy L h2 (rx.gro g2) ry q2))
def uz(a2:∀(Z:HC),Z.W=W->∀A H σ ρ G,HR Z A H σ ρ G->∀Q,HPx Z E A G.length H (KV' Z Q) (m ρ G)->te σ H Q):∀(Z:HC),Z.W=W->∀A H σ ρ G,HR Z A H σ ρ G->∀Q,HPx Z E A G.length H (KT' Q) (fZ m ρ G)->m4 te σ H Q:=λZ hZ A H σ ρ G R Q q=>
 a2 Z hZ A H σ ρ G R _ (HPx.bind q λx A1 H1 G1 h1 g1 q1 v rx=>by
  split at q1
  .rename_i c;exact⟨c,(show v=.bl c from rx),q1 A1 H1 h1 Gro.refl⟩
  .exact q1.elim)
def uA(o:OpR X (compareOp op) r)(L:Lf2 W r f)(h1:HE X W E a m1)(h2:HE X W E b m2)(hm:behindInMarks op b=false):HT X W E (.Compare a [op] [b] pos) (fZ (hOp f m1 m2)):=λhK=>by obtain⟨ta,a1,a2⟩:=h1 hK;obtain⟨tb,b1,b2⟩:=h2 hK;exact⟨_,Xq o a1 b1 hm,uz (AA L a2 b2)⟩
section
variable {X:Cx}{W:RC}{E:XK}{fr:Bool}{S S' Sb Sc:Cb}{st:CV}{s1:MS}
end
def f7(n:Nat)(ms:HMS)(xs:List HV)(G:AH):HX HV:=match ms (xs.map some++List.replicate (n-xs.length) none) G with
 |.nx _ G'=>.ok (.v .n) G'
 |.rt x G'=>.ok x G'
 |.exc c fs G'=>.exc c fs G'
 |_=>.wall
def bo{xs:List HV}{n k:Nat}{x:HV}(h:(xs.map some++List.replicate (n-xs.length) none)[k]?=some (some x)):xs[k]?=some x:=by
 rw[a0L]at h;split at h
 .rw[D5]at h;obtain⟨y,hy,e⟩:=v4.mp h;cases e;exact hy
 .rw[T6]at h;split at h<;>cases h
def U2(h:HH Z A H G)(r:zK Z.W (HM Z A G.length) A G.length H xs vs):HR Z A H (start N vs) (xs.map some++List.replicate (N.length-xs.length) none) G:=by
 refine⟨h,?_,λi x e=>?_⟩
 .unfold start;rw[B5,B5,u8,u8,R8,R8,r.len]
 .obtain⟨v,hv,rv⟩:=r.get (bo e);have hk:i<vs.length:=(C4.mp hv).1;refine⟨v,?_,rv⟩;unfold start;rw[F2 (by rw[u8];exact hk),D5,hv];rfl
section
variable {P:Cq}{w:Cv}{K:CO}{mg:Cc}{base:Heap}
def WG{x qual:Str}{st:CV}{f:Addr}{fd:CA}{N ps:Cn}{k n l:Nat}{W:RC}{ms:HMS}(F:Fun K x qual st f fd)(S:zr N ps (zg st))(hW:K=W.K)(hl:ps.length=l)(hN:N.length=n)
  (h:∀(cdv:Value)(A:Cz)(outer:List Env)(s:Ce)(H:Hp)(E:XK),jd k (A.deeper (envOfC qual (zg st) s.heap.objs.size f cdv))->HSs (thr (aT (CXe P w) P w K mg base N qual (zg st) f cdv A outer s H E) E) W E (kO st) ms):
  qQ P w K mg base (CXe P w) (k+1) f fd ps (hsp W l (f7 n ms)):=by
 subst hN hl;refine F.okX S X3 λcdv A outer s H vs Q E hr ⟨Z,A',G,xs,hZ,hl,hh,r,q⟩=>?_;obtain⟨ts,t1,t2⟩:=h cdv A outer s H E hr hW;refine⟨ts,t1,t2 Z hZ A' H _ _ G (U2 hh r) _ ?_⟩;unfold f7 at q;revert q;cases ms (xs.map some++List.replicate (N.length-xs.length) none) G with
 |exc c fs G'=>exact id
 |wall=>exact id
 |nx ρ' G'=>exact λq A2 H2 σ2 R2 g2=>q A2 H2 R2.toHH g2 .non rfl
 |rt y G'=>exact λq A2 H2 v h2 g2 rv=>q A2 H2 h2 g2 v rv
 |bk ρ' G'=>exact λq=>q.elim
 |ct ρ' G'=>exact λq=>q.elim
end
def Zf(Z:HC)(a:Addr)(u:HO):HC:=⟨Z.W,λb=>if b=a then(match Z.H0 a with|none=>none|some _=>some u)else Z.H0 b,Z.M0⟩
section
variable {Z:HC}{E:XK}{A A':Cm}{n n':Nat}{H H':Hp}{G G':AH}{σ σ':St}{ρ ρ':kA}{a:Addr}{es:Cf}{u u':HO}{W:RC}{M:Cd}{D:Ends}
def dN:(Zf Z a u).H0 b=none↔Z.H0 b=none:=by
 show(if b=a then _ else _)=none↔_;by_cases e:b=a
 .subst e;rw[if_pos rfl];cases Z.H0 b with
  |none=>exact a1h
  |some x=>exact⟨(λz=>by cases z),(λz=>by cases z)⟩
 .rw[if_neg e]
def Vs:HM (Zf Z a u) A n=HM Z A n:=funext λb=>propext (and_congr (or_congr a1h dN) a1h)
def uB(h:Z.H0 a=none\/Z.H0 a=some u'):Zf (Zf Z a u) a u'=Z:=by
 unfold Zf;cases Z with
 |mk W H0 M0=>
  dsimp only at h ⊢;congr 1
  funext b
  by_cases e:b=a
  .subst e;rw[if_pos rfl,if_pos rfl];rcases h with h|h<;>rw[h]
  .rw[if_neg e,if_neg e]
mutual
def qL.sw(h1:Rd H a (.dK es))(h2:Rd H' a (.dK es))(hne:∀b,b≠a->H' b=H b):∀{x:HV}{v:V},qL W M A n H x v->qL W M A n H' x v
 |.v x,v,h=>Rep.sw h1 h2 hne h
 |.g k,v,h=>h
 |.t xs,v,h=>by unfold qL at h ⊢;obtain⟨p,vs,e,r,q⟩:=h;exact⟨p,vs,e,r.elim (λz=>.inl (wM h1 hne z (λ_=>by nofun) λ_ _=>by nofun)) .inr,zK.sw h1 h2 hne q⟩
def zK.sw(h1:Rd H a (.dK es))(h2:Rd H' a (.dK es))(hne:∀b,b≠a->H' b=H b):∀{x:List HV}{v:Ck},zK W M A n H x v->zK W M A n H' x v
 |[],v,h=>h
 |x::xs,vs,h=>by unfold zK at h ⊢;obtain⟨v,r,e,q1,q2⟩:=h;exact⟨v,r,e,qL.sw h1 h2 hne q1,zK.sw h1 h2 hne q2⟩
end
def KN.sw{p:Addr}(hp:p≠a)(h1:Rd H a (.dK es))(h2:Rd H' a (.dK es))(hne:∀b,b≠a->H' b=H b):∀{c:Cell},KN W M A n H p c->KN W M A n H' p c
 |.l _,⟨vs,e,q⟩=>⟨vs,(hne p hp).trans e,q.sw h1 h2 hne⟩
 |.d _,⟨vs,e,q⟩=>⟨vs,(hne p hp).trans e,q.imp λ_ _=>qL.sw h1 h2 hne⟩
 |.z _,⟨o,vs,e,q⟩=>⟨o,vs,(hne p hp).trans e,q.imp λ_ _=>qL.sw h1 h2 hne⟩
 |.o _ _,⟨dx,vs,e,q⟩=>⟨dx,vs,(hne p hp).trans e,q.imp λ_ _=>qL.sw h1 h2 hne⟩
 |.y _,⟨e1,ps,e,q⟩=>⟨e1,ps,(hne p hp).trans e,q⟩
def HH.sw(h:HH Z A H G)(m:HM Z A G.length a)(ha:H a=some u)(du:DU es u)(du':DU es u'):HH (Zf Z a u') A (upd H a u') G:=by
 have h1:Rd H a (.dK es):=du.rd ha;have h2:Rd (upd H a u') a (.dK es):=du'.rd zb;have hne:∀b,b≠a->upd H a u' b=H b:=λb z=>zc z;refine⟨λb o e=>?_,λk c e=>?_,h.inj,λk hk=>dN.mpr (h.own k hk)⟩
 .have e:(if b=a then(match Z.H0 a with|none=>none|some _=>some u')else Z.H0 b)=some o:=e;by_cases z:b=a
  .subst z;rw[if_pos rfl]at e;rw[zb];cases q:Z.H0 b with
   |none=>rw[q]at e;cases e
   |some x=>rw[q]at e;exact e
  .rw[if_neg z]at e;rw[zc z];exact h.same b o e
 .rw[Vs];exact(h.cell k c e).sw (λz=>m.2 k (C4.mp e).1 z) h1 h2 hne
def HR.sw(R:HR Z A H σ ρ G)(m:HM Z A G.length a)(ha:H a=some u)(du:DU es u)(du':DU es u'):HR (Zf Z a u') A (upd H a u') σ ρ G:=
 ⟨R.toHH.sw m ha du du',R.len,λi x e=>by
  obtain⟨v,q1,q2⟩:=R.var i x e;rw[Vs];exact⟨v,q1,q2.sw (du.rd ha) (du'.rd zb) λb z=>zc z⟩⟩
def Gro.back(ha:H a=some (.dK es))(g:Gro (Zf Z a (.frz o (.dK es))) A n (upd H a (.frz o (.dK es))) A' n' H'):Gro Z A n H A' n' (upd H' a (.dK es)):=by
 have hm:HM (Zf Z a (.frz o (.dK es))) A n=HM Z A n:=Vs;refine⟨g.le,g.agr,λk h1 h2=>?_,λb q e m=>?_,λb e=>?_⟩
 .have:=g.fresh k h1 h2;have ne:A' k≠a:=λz=>by rw[z,zb]at this;cases this
  rwa [zc ne]at this
 .by_cases z:b=a
  .subst z;rw[ha]at e;rw[zb];exact e
  .rw[zc z];exact g.fr b q (by rw[zc z];exact e) (by rw[hm];exact m)
 .have z:b≠a:=λz=>by rw[z,zb]at e;cases e
  rw[zc z]at e;have:=g.dom b e
  rwa [zc z]at this
def uC(h:HH Z A H G)(m:HM Z A G.length a)(ha:H a=some (.dK es))(q:HPs Z E A G.length H D out):HPs (Zf Z a (.frz o (.dK es))) (Ef a es E) A G.length (upd H a (.frz o (.dK es))) (Df a es D) out:=by
 have du:DU es (.dK es):=.inl rfl;have du':DU es (.frz o (.dK es)):=.inr ⟨o,rfl⟩;have hz:Z.H0 a=none\/Z.H0 a=some (.dK es):=by
  cases q:Z.H0 a with
  |none=>exact .inl rfl
  |some x=>have:=h.same a x q;rw[ha]at this;cases this;exact .inr rfl
 have fz:∀{A' n' H'},Gro (Zf Z a (.frz o (.dK es))) A G.length (upd H a (.frz o (.dK es))) A' n' H'->H' a=some (.frz o (.dK es))/\HM Z A' n' a:=λg=>⟨g.fr a _ zb (.inr trivial),by
  have:=g.sM a (by rw[Vs];exact m) (by rw[zb];exact λz=>by cases z)
  rwa [Vs]at this⟩
 have bk:∀{A' H' σ' ρ' G'},HR (Zf Z a (.frz o (.dK es))) A' H' σ' ρ' G'->Gro (Zf Z a (.frz o (.dK es))) A G.length (upd H a (.frz o (.dK es))) A' G'.length H'->HR Z A' (upd H' a (.dK es)) σ' ρ' G':=λR' g'=>by
  have:=R'.sw (u':=.dK es) (by rw[Vs];exact(fz g').2) (fz g').1 du' du
  rwa [uB hz]at this
 have bh:∀{A' H' G'},HH (Zf Z a (.frz o (.dK es))) A' H' G'->Gro (Zf Z a (.frz o (.dK es))) A G.length (upd H a (.frz o (.dK es))) A' G'.length H'->HH Z A' (upd H' a (.dK es)) G':=λR' g'=>by
  have:=R'.sw (u':=.dK es) (by rw[Vs];exact(fz g').2) (fz g').1 du' du
  rwa [uB hz]at this
 cases out with
 |wall=>exact q
 |nx ρ' G'=>exact λA' H' σ' R' g'=>⟨⟨o,(fz g').1⟩,q A' _ σ' (bk R' g') (Gro.back ha g')⟩
 |bk ρ' G'=>exact λA' H' σ' R' g'=>⟨⟨o,(fz g').1⟩,q A' _ σ' (bk R' g') (Gro.back ha g')⟩
 |ct ρ' G'=>exact λA' H' σ' R' g'=>⟨⟨o,(fz g').1⟩,q A' _ σ' (bk R' g') (Gro.back ha g')⟩
 |rt x G'=>intro A' H' v h' g' rv;refine⟨⟨o,(fz g').1⟩,q A' _ v (bh h' g') (Gro.back ha g') ?_⟩;rw[Vs]at rv;exact rv.sw (du'.rd (fz g').1) (du.rd zb) λb z=>zc z
 |exc c fs G'=>
  intro A' H' e dx xs h' g' e1 e2 e3;have w1:Rd H' a (.dK es):=du'.rd (fz g').1;have ne1:e≠a:=QW w1 e1 (λ_=>by nofun) λ_ _=>by nofun
  have ne2:dx≠a:=QW w1 e2 (λ_=>by nofun) λ_ _=>by nofun
  rw[Vs]at e3;exact⟨⟨o,(fz g').1⟩,q A' _ e dx xs (bh h' g') (Gro.back ha g') ((zc ne1).trans e1) ((zc ne2).trans e2) (e3.sw w1 (du.rd zb) λb z=>zc z)⟩
end
def WH(i:Nat)(g:HMG)(b:HMS):HMS:=λρ G=>match ρ[i]? with
 |some (some (.v (.d kvs)))=>Zh g b ((kvs.map λkx=>kP kx.1).map .v) ρ G
 |_=>.wall
def dO(hc:X.calm=true)(own:Own X)(hv:∀E',PE (thr X E') yM (V2 i))(hg:∀E',HG (thr X E') W tg mg)(hb:∀E',HSs (thr X E') W E' body mb)(hs:∀x,foldedSetIterable yM X.env x=pure x:=by intro _;rfl):
  HS (thr X E) W E (.For tg yM body [] pos) (WH i mg mb):=λhK=>by
 refine⟨tFz (λE' D σ H=>∃g tb,PG (thr X E') tg g/\PSs (thr X E') body tb/\pX (Wy (V2 i)) g tb D σ H) E,ub λE' pins s σ H D I ⟨g,tb,p1,p2,q⟩=>Kz (X:=thr X E') (zx own) hc (Q5 (hv E')) p1 p2 hs pins s σ H D I q,λZ hZ A H σ ρ G R D q=>?_⟩;unfold WH at q;split at q
 .rename_i kvs hx;obtain⟨v,hσ,a,es,rfl,m,hrd,rk⟩:=R.var i _ hx;have hk:es.map (·.1)=kvs.map (·.1):=(yE.iff.mp rk).1;subst hZ;rcases hrd with ha|⟨o,ha⟩
  .refine .inl ⟨a,es,ha,λo=>?_⟩;obtain⟨g,p1,lg⟩:=hg (Ef a es E) hK;obtain⟨tb,p2,lb⟩:=hb (Ef a es E) hK;have Rf:=R.sw (u':=.frz o (.dK es)) m ha (.inl rfl) (.inr ⟨o,rfl⟩);refine⟨g,tb,p1,p2,Ja (W:=Z.W) (Z:=Zf Z a (.frz o (.dK es))) (xs:=kvs.map λkx=>kP kx.1) rfl (λRr qq=>?_) lg lb Rf (uC R.toHH m ha q)⟩;exact⟨.ref a,hσ,a,o,es,rfl,zb,qq _ _ (zl.refl _) (vJ zb hk)⟩
  .obtain⟨g,p1,lg⟩:=hg E hK;obtain⟨tb,p2,lb⟩:=hb E hK;refine .inr ⟨g,tb,p1,p2,Ja (W:=Z.W) (xs:=kvs.map λkx=>kP kx.1) rfl (λRr qq=>?_) lg lb R q⟩;exact⟨.ref a,hσ,a,o,es,rfl,ha,qq _ _ (zl.refl _) (vJ ha hk)⟩
 .exact q.elim
section
variable {X:Cx}{W:RC}{E:XK}{fr':Bool}{S:Cb}{yM tg elt:Co}{ifs:Ci}{me:ME}{mc:MT}{mg:MG}{mi:MI}{pos bL py:Pos}{i j:Nat}{scope:Scope}{y:Str}
end
def oH{P:Cq}{w:Cv}{K:CO}{mg:Cc}{base:Heap}{CX:CXT}{k n:Nat}{f:Addr}{fd:CA}{ps:Cn}{W:RC}(hl:ps.length=n):qQ P w K mg base CX k f fd ps (hsp W n λ_ _=>.wall):=
 ⟨λvs H Q E h=>(X3 vs H Q E h).trans hl.symm,λ_ _ _ _ _ _ _ _ _ _ _ _ _ h=>h.choose_spec.choose_spec.choose_spec.choose_spec.2.2.2.2.elim⟩
section
variable {X:Cx}{W:RC}{E:XK}{a o:Co}{pos ky Zd:Pos}{m m1:HME}
end
def X7{κ:Type}:List (κ×HV)->Option (List (κ×PV))
 |[]=>some []
 | (k,.v x)::xs=>(X7 xs).map ((k,x)::·)
 |_::_=>none
def g_:Cell->Option PV
 |.l xs=>(oE xs).map .l
 |.d kvs=>(X7 kvs).map .d
 |.z kvs=>(X7 kvs).map .d
 |.o c fs=>(X7 fs).map (.o c)
 |.y _=>none
def sres(G:AH):HV->Option PV
 |.v x=>some x
 |.t xs=>(oE xs).map .t
 |.g k=>(G[k]?).bind g_
def WI(G:AH):List Bool->kA->Option Sto
 |_,[]=>some []
 |[],_::ρ=>(WI G [] ρ).map (none::·)
 |false::bs,_::ρ=>(WI G bs ρ).map (none::·)
 |true::bs,some x::ρ=>(sres G x).bind λy=>(WI G bs ρ).map (some y::·)
 |true::_,none::_=>none
def hW(bs:Cj)(m:ME):HME:=λρ G=>match WI G bs ρ with
 |some r=>match m r with
  |.ok x=>.ok (.v x) G
  |.exc c fs=>.exc c fs G
  |.wall=>.wall
 |none=>.wall
section
variable {Z:HC}{A:Cm}{H:Hp}{G:AH}{σ:St}{ρ:kA}
def Vt{W:RC}{M:Cd}{n:Nat}:∀{xs:List (Key×HV)}{ys:Cu}{vs:Cf},X7 xs=some ys->jo (qL W M A n H) xs vs->yE W M H ys vs
 |[],_,_,e,h=>by cases e;exact h
 | (k,.v x)::xs,ys,_,e,h=>by unfold X7 at e;obtain⟨zs,e1,rfl⟩:=v4.mp e;obtain⟨v,r,rfl,h1,h2⟩:=h;exact⟨v,r,rfl,h1,Vt e1 h2⟩
 | (_,.g _)::_,_,_,e,_=>by cases e
 | (_,.t _)::_,_,_,e,_=>by cases e
def U3{W:RC}{M:Cd}{n:Nat}:∀{xs:List (Str×HV)}{ys:CD}{vs:CP},X7 xs=some ys->jo (qL W M A n H) xs vs->vo W M H ys vs
 |[],_,_,e,h=>by cases e;exact h
 | (k,.v x)::xs,ys,_,e,h=>by unfold X7 at e;obtain⟨zs,e1,rfl⟩:=v4.mp e;obtain⟨v,r,rfl,h1,h2⟩:=h;exact⟨v,r,rfl,h1,U3 e1 h2⟩
 | (_,.g _)::_,_,_,e,_=>by cases e
 | (_,.t _)::_,_,_,e,_=>by cases e
def hG(h:HH Z A H G)(r:qL Z.W (HM Z A G.length) A G.length H x v)(e:sres G x=some y):zT Z.W (λa=>H a≠none) (HM Z A G.length) H y v:=by
 cases x with
 |v z=>have e:some z=some y:=e;cases e;exact zT.sub (zT.iff.mpr (show Rep Z.W _ H y v from r)) (λ_ _ n=>n) λ_ m _=>m
 |t xs=>obtain⟨ys,e1,rfl⟩:=v4.mp (show(oE xs).map PV.t=some y from e);obtain⟨p,vs,rfl,s,q⟩:=r;exact⟨p,vs,rfl,s,Vr e1 q⟩
 |g k=>
  obtain⟨hk,rfl⟩:=r;obtain⟨c,hc,e⟩:=E6.mp (show(G[k]?).bind g_=some y from e);cases c with
  |y b=>cases e
  |l xs=>obtain⟨ys,e1,rfl⟩:=v4.mp (show(oE xs).map PV.l=some y from e);obtain⟨vs,h1,q⟩:=h.cell k _ hc;exact⟨A k,vs,rfl,(show H (A k)≠none from λz=>by(rw[h1]at z;cases z)),h1,Vr e1 q⟩
  |d xs=>obtain⟨ys,e1,rfl⟩:=v4.mp (show(X7 xs).map PV.d=some y from e);obtain⟨vs,h1,q⟩:=h.cell k _ hc;exact⟨A k,vs,rfl,(show H (A k)≠none from λz=>by(rw[h1]at z;cases z)),.inl h1,Vt e1 q⟩
  |z xs=>obtain⟨ys,e1,rfl⟩:=v4.mp (show(X7 xs).map PV.d=some y from e);obtain⟨o,vs,h1,q⟩:=h.cell k _ hc;exact⟨A k,vs,rfl,(show H (A k)≠none from λz=>by(rw[h1]at z;cases z)),.inr ⟨o,h1⟩,Vt e1 q⟩
  |o c xs=>obtain⟨ys,e1,rfl⟩:=v4.mp (show(X7 xs).map (PV.o c)=some y from e);obtain⟨dx,vs,h1,q⟩:=h.cell k _ hc;exact⟨A k,dx,vs,rfl,(show H (A k)≠none from λz=>by(rw[h1]at z;cases z)),h1,U3 e1 q⟩
def wR:∀{bs:Cj}{ρ:kA}{r:Sto}{i:Nat}{x:PV},WI G bs ρ=some r->r[i]?=some (some x)->i<bs.length/\∃y,ρ[i]?=some (some y)/\sres G y=some x
 |_,[],r,i,x,e,h=>by unfold WI at e;cases e;simp at h
 |[],_::ρ,r,i,x,e,h=>by
  unfold WI at e;obtain⟨r',e1,rfl⟩:=v4.mp e;cases i with
  |zero=>cases h
  |succ i=>rw[E8]at h;exact absurd (wR e1 h).1 (S0 _)
 |false::bs,_::ρ,r,i,x,e,h=>by
  unfold WI at e;obtain⟨r',e1,rfl⟩:=v4.mp e;cases i with
  |zero=>cases h
  |succ i=>rw[E8]at h ⊢;exact⟨a1q (wR e1 h).1,(wR e1 h).2⟩
 |true::bs,some y::ρ,r,i,x,e,h=>by
  unfold WI at e;obtain⟨z,e0,e⟩:=E6.mp e;obtain⟨r',e1,rfl⟩:=v4.mp e;cases i with
  |zero=>cases h;exact⟨Nat.zero_lt_succ _,y,rfl,e0⟩
  |succ i=>rw[E8]at h ⊢;exact⟨a1q (wR e1 h).1,(wR e1 h).2⟩
 |true::bs,none::ρ,r,i,x,e,h=>by cases e
def Jb:∀{bs:Cj}{ρ:kA}{r:Sto},WI G bs ρ=some r->r.length=ρ.length
 |_,[],r,e=>by unfold WI at e;cases e;rfl
 |[],_::ρ,r,e=>by unfold WI at e;obtain⟨r',e1,rfl⟩:=v4.mp e;rw[B0,B0,Jb e1]
 |false::bs,_::ρ,r,e=>by unfold WI at e;obtain⟨r',e1,rfl⟩:=v4.mp e;rw[B0,B0,Jb e1]
 |true::bs,some y::ρ,r,e=>by unfold WI at e;obtain⟨z,e0,e⟩:=E6.mp e;obtain⟨r',e1,rfl⟩:=v4.mp e;rw[B0,B0,Jb e1]
 |true::bs,none::ρ,r,e=>by cases e
def uD(R:HR Z A H σ ρ G)(e:WI G bs ρ=some r)(hS:S.all (·==1)=true)(hb:bs.length<=S.length):Rel Z.W (c_ H (HM Z A G.length)) S (λ_=>0) H σ r:=by
 have one:∀{k c:Nat},S[k]?=some c->c=1:=λ{k c} h=>by have:=P5.mp hS c (O8 h);simpa using this
 have n2:∀{k:Nat},S[k]?=some 2->False:=λ{k} h=>by have:=one h;omega
 refine⟨zl.refl _,R.len.trans (Jb e).symm,λi x h=>?_,λi hi=>(n2 hi).elim,λi j hi=>(n2 hi).elim,λhi=>(n2 hi).elim,λa h=>h.elim,λi hi=>(n2 hi).elim⟩;obtain⟨hi,y,h1,h2⟩:=wR e h;obtain⟨v,h3,h4⟩:=R.var i y h1;have h1':S[i]?=some 1:=by have hl:i<S.length:=D0 hi hb;have:=B9 hl;rw[this,one this]
 exact⟨v,h3,λz=>(n2 z).elim,λ_=>zT.sub (hG R.toHH h4 h2) (λ_ n _=>n) λa m _=>⟨⟨.inl m,id⟩,λi hi=>(n2 hi).elim⟩,λ_ z=>absurd h1' z⟩
end
section
variable {X:Cx}{W:RC}{E:XK}{fr:Bool}{S:Cb}{e:Co}{m:ME}
def Bl(bs:Cj)(h:EM X ⟨W,E,fr⟩ S false e m)(hS:S.all (·==1)=true:=by rfl)(hb:bs.length<=S.length:=by decide):HE X W E e (hW bs m):=λhK=>by
 obtain⟨te,a1,a2⟩:=h hK;refine⟨te,a1,λZ hZ A H σ ρ G R Q q=>?_⟩;subst hZ;unfold hW at q;split at q
 .rename_i r hr;refine a2 _ _ H σ r (uD R hr hS hb) Q ?_;revert q;cases m r with
  |ok x=>exact λq v H2 s rx=>q A H2 (R.toHH.keep s) (Gro.same s) v (rx.rep.sub λa m _=>oB R.toHH a m)
  |exc c fs=>exact λq=>XZ R.toHH q λH2 es h=>h.sub λa m _=>m.elim id λn=>R.toHH.new a n
  |wall=>exact id
 .exact q.elim
end
section
variable {X:Cx}{C:LC}{S:Cb}{a b:Co}{w1 w2:Bool}{m1 m2:ME}{pos:Pos}
end
def Kn(G:AH):Nat->HV->Option PV
 |0,_=>none
 |_+1,.v x=>if imm x=true then some x else none
 |n+1,.t xs=>(Q7 (Kn G n) xs).map .t
 |n+1,.g k=>match G[k]? with
  |some (.l xs)=>(Q7 (Kn G n) xs).map .l
  |some (.d kvs)=>(XY (Kn G n) kvs).map .d
  |_=>none
def WJ(f:List HV->AH->HX HV)(ms:HMA):HME:=λρ G=>(ms ρ G).bind λxs G1=>match Q7 (qV G1 8) xs with
 |some ys=>match f (ys.map .v) []with
  |.ok y X=>match Kn X 8 y with
   |some z=>.ok (.v z) G1
   |none=>.wall
  |.exc c fs _=>if dH fs=true then .exc c fs G1 else .wall
  |.wall=>.wall
 |none=>.wall
def U4{f:HV->Option PV}:∀{xs:List HV}{ys:Cy},Q7 f xs=some ys->ys.length=xs.length
 |[],_,e=>by cases e;rfl
 |x::xs,ys,e=>by unfold Q7 at e;obtain⟨y,_,e⟩:=E6.mp e;obtain⟨zs,e2,rfl⟩:=v4.mp e;rw[B0,B0,U4 e2]
section
variable {Z:HC}{A:Cm}{H:Hp}{G:AH}
def Jc{N:Cd}(h:HH Z A H G)(hN:∀k,k<G.length->N (A k)):∀(n:Nat)(x:HV)(v:V)(y:PV),qL Z.W (HM Z A G.length) A G.length H x v->Kn G n x=some y->Rep Z.W N H y v
 |0,_,_,_,_,e=>by cases e
 |n+1,.v x,v,y,r,e=>by
  unfold Kn at e;split at e
  .rename_i hi;cases e;exact Y6 hi r
  .cases e
 |n+1,.t xs,v,y,r,e=>by unfold Kn at e;obtain⟨ys,e1,rfl⟩:=v4.mp e;unfold qL at r;obtain⟨p,vs,rfl,s,q⟩:=r;exact⟨p,vs,rfl,s,wO (Jc h hN n) q e1⟩
 |n+1,.g k,v,y,r,e=>by
  obtain⟨hk,rfl⟩:=r;unfold Kn at e;split at e
  .rename_i xs hc;obtain⟨ys,e1,rfl⟩:=v4.mp e;obtain⟨vs,h1,q⟩:=h.cell k _ hc;exact⟨A k,vs,rfl,hN k hk,h1,wO (Jc h hN n) q e1⟩
  .rename_i xs hc;obtain⟨ys,e1,rfl⟩:=v4.mp e;obtain⟨vs,h1,q⟩:=h.cell k _ hc;exact⟨A k,vs,rfl,hN k hk,.inl h1,Q8 (Jc h hN n) q e1⟩
  .cases e
def l_{W:RC}{N M:Cd}{n:Nat}(hN:∀a,N a->M a):∀{ys:Cy}{vs:Ck},zy W N H ys vs->zK W M A n H (ys.map .v) vs
 |[],_,h=>h
 |y::ys,_,⟨v,r,e,h1,h2⟩=>⟨v,r,e,Rep.sub h1 λa m _=>hN a m,l_ hN h2⟩
def hX:HH ⟨Z.W,H,λ_=>True⟩ A H []:=⟨zl.refl _,λk c e=>(by cases e),λj k hj=>absurd hj (S0 _),λk hk=>absurd hk (S0 _)⟩
def Y8(g:Gro ⟨Z.W,H,λ_=>True⟩ A 0 H A' n H'):zl H H':=λa o e=>g.fr a o e (.inl ⟨.inl trivial,λk hk=>absurd hk (S0 _)⟩)
end
def h8(F:qQ X.prog X.w X.K X.mg X.base (CXe X.prog X.w) k f fd ps (hsp W n g))(hr:jd k X.A)(hg:Gl X x)(hm:X.mg x=some (.ref f))(hk:keepIn X.K (.ref f)=true)(hb:Binds X.K fd ps [])(hx:Passes (CXe X.prog X.w) X E)(ha:HA X W E (e::es) ms)(hn:∀ρ G xs G',ms ρ G=.ok xs G'->xs.length=n)
  (hdb:(x==("__debug__":Str))=false:=by decide) (he:starEach (e::es) X.env=(false,eval e X.env)::starEach es X.env:=by rfl) (hpl:(backTo pos (starEach es X.env)).any (·.1)=false:=by rfl):HE X W E (.Call (.Name x p) (e::es) [] pos) (WJ g ms):=λhK=>by
 obtain⟨ta,a1,a2⟩:=ha hK;refine⟨_,K6 F hr hg hm hk hb .nil hx a1 hdb he hpl,λZ hZ A H σ ρ G R Q q=>a2 Z hZ A H σ ρ G R _ ?_⟩;unfold WJ at q;revert q;cases hq:ms ρ G with
 |wall=>exact id
 |exc c fs G'=>exact id
 |ok xs G1=>
  intro q A1 H1 h1 g1 vs rs;rw[F0];have q:HPx Z E A G.length H (KV' Z Q) (match Q7 (qV G1 8) xs with
   |some ys=>match g (ys.map .v) []with
    |.ok y X=>match Kn X 8 y with
     |some z=>.ok (.v z) G1
     |none=>.wall
    |.exc c fs _=>if dH fs=true then .exc c fs G1 else .wall
    |.wall=>.wall
   |none=>.wall):=q
  split at q
  .rename_i ys hy;have hl:ys.length=xs.length:=U4 hy;have rr:zy Z.W (λ_=>True) H1 ys vs:=wO (kU h1 8) rs hy;refine⟨⟨Z.W,H1,λ_=>True⟩,A1,[],ys.map .v,hZ,by rw[u8,hl];exact hn _ _ _ _ hq,hX,l_ (λa _=>⟨.inl trivial,λk hk=>absurd hk (S0 _)⟩) rr,?_⟩;revert q;cases hf:g (ys.map .v) []with
   |wall=>exact λq=>q.elim
   |exc c fs X'=>
    intro q;dsimp only at q;split at q
    .rename_i hi;have q:=gY.gro q g1;exact λA2 H2 e dx es h2 g2 he hd rf=>q A1 H2 e dx es (h1.keep (Y8 g2)) (Gro.same (Y8 g2)) he hd (wN hi rf)
    .exact q.elim
   |ok y X'=>
    intro q;dsimp only at q;split at q
    .rename_i z hz;intro A2 H2 h2 g2 v rv;have s:=Y8 g2;exact q A1 H2 (h1.keep s) (g1.trans (Gro.same s)) v (show Rep Z.W _ H2 z v from Jc h2 (λk hk=>h1.new _ (g2.fresh k (F7 _) hk)) 8 y v z rv hz)
    .exact q.elim
  .exact q.elim
section
variable {X:Cx}{C:LC}{S S' S1 S2 Sb Sc:Cb}{e:Co}{es:Ci}{ws:Cj}{ms:MA}{pos p pos':Pos}{x y:Str}{k i j:Nat}{f:Addr}{fd:CA}{ps:Cn}{fr:Bool}{g:Cw}{m1 m2:MS}
end
section
variable {X:Cx}{C:LC}{S:Cb}{tg e:Co}{p pos:Pos}{m:ME}{cc:Bool}
end
section
variable {X:Cx}{W:RC}{E:XK}{o:Co}{pos ky p:Pos}{m1:HME}
end
section
variable {X:Cx}{C:LC}{S Sb Sc:Cb}{yM tg elt:Co}{ifs:Ci}{me:ME}{mc:MT}{mg:MG}{pos bL py:Pos}{i j:Nat}{scope:Scope}{y:Str}
end
section
variable {X:Cx}
end
section
variable {X:Cx}{C:LC}{S Sb Sc:Cb}{o e a:Co}{es:Ci}{w w1 w2:Bool}{ws:Cj}{m m1 m2:ME}{ms:MA}{pos p Zd ky:Pos}{i:Nat}{cc:Bool}{y:Str}{py:Pos}
end
section
variable {X:Cx}{C:LC}{S:Cb}{e:Co}{ws:Cj}{ms:MA}{pos p:Pos}{m:ME}{w cc:Bool}{y:Str}{py:Pos}
end
section
variable {X:Cx}{W:RC}{E:XK}{fr:Bool}{S:Cb}{e:Co}{m:ME}
end
section
variable {X:Cx}{C:LC}{S S' Sb Sc:Cb}{o a:Co}{w1 w2:Bool}{m1 m2:ME}{to ta:TE}{y z:Str}{n:Int}{ky Zd py pz pi pos rp cp kp:Pos}{jy jz ji j:Nat}
end
def Y9(k:Nat)(g:HMG)(b:HMS):Nat->Nat->kA->AH->HFw
 |r,i,ρ,G=>match G[k]? with
  |some (.l xs)=>match xs[i]? with
   |none=>.nx ρ G
   |some x=>match r with
    |0=>.wall
    |r+1=>match g x ρ with
     |none=>.wall
     |some ρ1=>match b ρ1 G with
      |.nx ρ2 G2=>Y9 k g b r (i+1) ρ2 G2
      |.ct ρ2 G2=>Y9 k g b r (i+1) ρ2 G2
      |.bk ρ2 G2=>.nx ρ2 G2
      |.rt v G2=>.rt v G2
      |.exc c fs G2=>.exc c fs G2
      |.wall=>.wall
  |_=>.wall
def X8(m:HME)(g:HMG)(b:HMS):HMS:=λρ G=>(m ρ G).fw λx G1=>match x with
 |.g k=>match G1[k]? with
  |some (.l xs)=>Y9 k g b xs.length 0 ρ G1
  |_=>.wall
 |_=>.wall
def dP(hp:PassesOwn (Du X) X.A X.env X.xe)(hc:X.calm=true)(hi:HE X W E yM m)(hg:HG X W tg mg)(hb:HSs X W E body mb)(hs:∀x,foldedSetIterable yM X.env x=pure x:=by intro _;rfl):
  HS X W E (.For tg yM body [] pos) (X8 m mg mb):=λhK=>by
 obtain⟨te,a1,a2⟩:=hi hK;obtain⟨g,b1,b2⟩:=hg hK;obtain⟨tb,c1,c2⟩:=hb hK;refine⟨_,Kz hp hc (cY a1) b1 c1 hs,λZ hZ A H σ ρ G R D q=>a2 Z hZ A H σ ρ G R _ (HPs.bind q λx A1 H1 G1 h1 g1 q1 v rx=>?_)⟩;split at q1
 .rename_i k;obtain⟨hk,rfl⟩:=(show _/\_ from rx);split at q1
  .rename_i xs hx;have R1:=R.gro h1 g1;obtain⟨vs,hl,rs⟩:=h1.cell k _ hx;refine .inl ⟨A1 k,rfl,⟨vs,SqL.of hl⟩,?_⟩;refine⟨λi n σ' H'=>∃ρ' A' G',HR Z A' H' σ' ρ' G'/\Gro Z A1 G1.length H1 A' G'.length H'/\HPs Z E A' G'.length H' D (Y9 k mg mb n i ρ' G'),⟨xs.length,ρ,A1,G1,R1,Gro.refl,q1⟩,?_⟩
   rintro i n σ' H' ⟨ρ',A',G',R',g',q'⟩
   have ak:A' k=A1 k:=g'.agr k hk;unfold Y9 at q';split at q'
   .rename_i ys hy;obtain⟨us,hu,ru⟩:=R'.toHH.cell k _ hy;rw[ak]at hu;split at q'
    .rename_i hn;refine .inl ⟨⟨us,SqL.of hu,?_⟩,q' A' H' σ' R' Gro.refl⟩;rw[ru.len];exact a0n.mp hn
    .rename_i y hyi;obtain⟨u,hui,rui⟩:=ru.get hyi;split at q'
     .exact q'.elim
     .rename_i r;refine .inr ⟨⟨us,u,SqL.of hu,hui⟩,λσ2 H2'=>∃ρ' A' G',HR Z A' H2' σ2 ρ' G'/\Gro Z A1 G1.length H1 A' G'.length H2'/\HPs Z E A' G'.length H2' D (Y9 k mg mb r (i+1) ρ' G'),λσ2 H2' h=>⟨r,P6 _,h⟩,λv' H'' hv=>?_⟩;obtain⟨rfl,hv⟩:=hv;have:=hv us (SqL.of hu);rw[hui]at this;cases this;split at q'
      .exact q'.elim
      .rename_i ρ1 hρ;refine b2 Z hZ A' H'' σ' ρ' G' y u R' rui _ ⟨ρ1,hρ,λσ1 R1=>c2 Z hZ A' H'' σ1 ρ1 G' R1 _ ?_⟩;revert q';cases mb ρ1 G' with
       |wall=>exact id
       |exc c fs G2=>exact id
       |nx ρ2 G2=>exact λq' A3 H3 σ3 R3 g3=>⟨ρ2,A3,G2,R3,g'.trans g3,HPs.gro (o:=Y9 k mg mb r (i+1) ρ2 G2) q' g3⟩
       |ct ρ2 G2=>exact λq' A3 H3 σ3 R3 g3=>⟨ρ2,A3,G2,R3,g'.trans g3,HPs.gro (o:=Y9 k mg mb r (i+1) ρ2 G2) q' g3⟩
       |bk ρ2 G2=>exact id
       |rt x G2=>exact id
   .exact q'.elim
  .exact q1.elim
 .exact q1.elim
section
variable {X:Cx}{W:RC}{E:XK}{e:Co}{es:Ci}{ms:HMA}{ws:Cj}{g:Cw}{k:Nat}{f:Addr}{fd:CA}{ps:Cn}{x:Str}{p pos:Pos}
end
section
variable {X:Cx}{C:LC}{S:Cb}{mi:MI}{mg:MG}{mc:MT}{me:ME}
end
open Classical in
def hide(H:Hp)(R:CM):Hp:=λa=>if a∈R then none else H a
def X9(h:a∈R):hide H R a=none:=if_pos h
def kW(h:a∉R):hide H R a=H a:=if_neg h
def h9:hide H []=H:=funext λa=>kW (by simp)
def WK:zl (hide H (p::R)) (hide H R):=λa o h=>by
 by_cases m:a∈p::R
 .rw[X9 m]at h;cases h
 .rw[kW m]at h;rw[kW λz=>m (B4 _ z)];exact h
def U5{W:RC}{M:Cd}{A:Cm}{n:Nat}{H:Hp}:∀{ps:CM}{js:Cb},js.length=ps.length->(∀(i:Nat) j p,js[i]?=some j->ps[i]?=some p->j<n/\A j=p)->zK W M A n H (js.map .g) (ps.map .ref)
 |[],[],_,_=>by rw[a0b,a0b];unfold zK;rfl
 |p::ps,j::js,hl,h=>by rw[C8,C8];unfold zK;refine⟨_,_,rfl,?_,U5 (Nat.succ.inj hl) λi j p h1 h2=>h (i+1) j p h1 h2⟩;unfold qL;obtain⟨h1,h2⟩:=h 0 j p rfl rfl;exact⟨h1,by rw[h2]⟩
 |[],_::_,hl,_=>by cases hl
 |_::_,[],hl,_=>by cases hl
def dQ{ι:Type}{Y:ι->Cx}(h:∀z,FM (Y z) C S e m)(hK:∀z,(Y z).K=C.W.K):∃te,(∀z,PE (Y z) e te)/\LFr C S te m:=
 ⟨λσ H Q=>∀z,(Classical.choose (h z (hK z))) σ H Q,λz pins s σ H Q I q=>(L9 (h z (hK z))).1 pins s σ H Q I (q z),λB P H σ ρ R Q q z=>(L9 (h z (hK z))).2 B P H σ ρ R Q q⟩
section
variable {X:Cx}{C:LC}{S:Cb}{o e:Co}{w1 w2:Bool}{m1 m2:ME}{Zd ky:Pos}
end
section
variable {X:Cx}{W:RC}{E:XK}{o a:Co}{m1 m2:HME}{pos ky Zd:Pos}
end
section
variable {X:Cx}{W:RC}{E:XK}{fr:Bool}{S S1 Sb Sc:Cb}{tg a0 b0:Co}{body:CQ}{mg:MG}{mb:MS}{pos ipos:Pos}{i j:Nat}
end
def dR(s:zl H H')(h:Rd H p u):Rd H' p u:=(zl.fr (M:=λ_=>True) s).rd h trivial
section
variable {X:Cx}{C:LC}{S S' Sb Sc:Cb}{e a b o:Co}{es:Ci}{w w1 w2:Bool}{ws:Cj}{m m1 m2:ME}{ms:MA}{pos p pos':Pos}{i x1:Nat}
end
section
variable {X:Cx}{W:RC}{E:XK}{o e:Co}{es:Ci}{m:HME}{ms:HMA}{pos ky:Pos}{mn:Str}{n:Nat}
end
section
variable {X:Cx}{k:Nat}{f C:Addr}{fd:CA}{ps:Cn}{sp:Sp}{x m:Str}{p pos ky:Pos}{e o:Co}{es:Ci}{ta te:TE}{t:TA}{alts:Addr->Sp->Prop}
end
section
variable {X:Cx}{C:LC}{S S' S1 S2 Sb Sc:Cb}{e o:Co}{es:Ci}{ws:Cj}{m:ME}{ms:MA}{pos p pos' ky:Pos}{x y mn:Str}{k i j:Nat}{f:Addr}{fd:CA}{ps:Cn}{fr w:Bool}{g:Cw}{m1 m2:MS}
end
end L2
namespace L2
open PySem PySem.W PyProof.Rows
def Qw{α:Type}(P:Dl)(f:C_):KasT α->(α->Prop)->Prop
 |.ret a,Q=>Q a
 |.ask i j k,Q=>P i/\P j/\Qw P f (k (f i j)) Q
def kE{α β:Type}{P:Dl}{f:C_}{g:α->KasT β}{Q:β->Prop}:∀{t:KasT α},Qw P f t (λa=>Qw P f (g a) Q)->Qw P f (t.bind g) Q
 |.ret _,h=>h
 |.ask _ _ _,h=>⟨h.1,h.2.1,kE h.2.2⟩
def yo{α:Type}{P:Dl}{f:C_}{Q Q':α->Prop}(hq:∀a,Q a->Q' a):∀{t:KasT α},Qw P f t Q->Qw P f t Q'
 |.ret _,h=>hq _ h
 |.ask _ _ _,h=>⟨h.1,h.2.1,yo hq h.2.2⟩
def dS{α:Type}{P:Dl}{f:C_}{cmp:Nat->Nat->(Bool->Shared->Prop)->Shared->Prop}{J:Shared->Prop}(hc:∀i j C s,P i->P j->J s->(∀s',J s'->C (f i j) s')->cmp i j C s){Q:α->Prop}{R:α->Shared->Prop}(hq:∀a s,Q a->J s->R a s):∀{t:KasT α}{s:Ce},J s->Qw P f t Q->t.kasWp cmp R s
 |.ret a,s,hs,h=>hq a s h hs
 |.ask i j k,s,hs,h=>hc i j _ s h.1 h.2.1 hs λs' hs'=>dS hc hq hs' h.2.2
abbrev at0(p:CY)(k:Nat):Nat:=p.getD k 0
def Yj:at0 p k=(p[k]?).getD 0:=by
 unfold at0;by_cases h:k<p.size
 .simp[Array.getD,h]
 .simp[Array.getD,h]
def Vu(hj:j<=p.size)(k:Nat):at0 (kas_rev p i j) k=if i<=k/\k<j then at0 p (i+j-1-k)else at0 p k:=by rw[Yj,Yj,Yj];unfold kas_rev;rw[getElem?_mirror_all hj];split<;>rfl
def KO(hk:k<p.size)(hl:l<=k)(i:Nat):at0 (bubble p k (k-l)) i=if i=l then at0 p k else if l<i/\i<=k then at0 p (i-1)else at0 p i:=by
 rw[Yj,Yj,Yj,Yj,getElem?_bubble hk (k-l) (by omega),show k-(k-l)=l by omega];split
 .rfl
 .split<;>rfl
section
variable {O:KeyOrd}{key:Nat->O.α}{n:Nat}
abbrev kk(key:Nat->O.α)(p:CY)(i:Nat):O.α:=key (at0 p i)
abbrev ans(key:Nat->O.α)(i j:Nat):Bool:=O.blt (key i) (key j)
structure Pm(n:Nat)(p:CY):Prop where
 perm:p.toList.Perm (List.range n)
 size:p.size=n
def Pm.rev(h:Pm n p):Pm n (kas_rev p i j):=⟨(a06.mp (mirror_perm p i j _)).trans h.perm,(kas_rev_size i j).trans h.size⟩
def Pm.bub(h:Pm n p):Pm n (bubble p i j):=⟨(a06.mp (bubble_perm p i j)).trans h.perm,(bubble_size p i j).trans h.size⟩
def Pm.lt(h:Pm n p)(h0:0<n)(k:Nat):at0 p k<n:=by
 rw[Yj];by_cases hk:k<p.size
 .rw[getElem?_pos p k hk];have:p[k]∈p.toList:=by simp
  exact F6.mp (h.perm.mem_iff.mp this)
 .rw[getElem?_neg p k hk];exact h0
def Up(key:Nat->O.α)(p:CY)(m:Nat):Prop:=∀i j,i<=j->j<m->O.kle (kk key p i) (kk key p j)
def Dn(key:Nat->O.α)(p:CY)(m:Nat):Prop:=∀i j,i<=j->j<m->O.kle (kk key p j) (kk key p i)
def dU{p:CY}(hp:Pm n p)(h0:0<n):∀{f m:Nat},1<=m->m+f<=n->Up key p m->Qw (·<n) (ans key) (kas_asc p f m) λr=>m<=r/\r<=m+f/\Up key p r/\(r<m+f->O.klt (kk key p r) (kk key p (r-1)))
 |0,m,_,_,hu=>⟨B7 _,B7 _,hu,λh=>absurd h (by omega)⟩
 |f+1,m,h1,hm,hu=>by
  refine⟨hp.lt h0 _,hp.lt h0 _,?_⟩;show Qw _ _ (if O.blt (kk key p m) (kk key p (m-1))=true then _ else _) _;cases hc:O.blt (kk key p m) (kk key p (m-1))with
  |true=>exact⟨B7 _,by omega,hu,λ_=>hc⟩
  |false=>
   have hu':Up key p (m+1):=λi j hij hj=>by
    by_cases c:j=m
    .subst c;by_cases c2:i=j
     .subst c2;exact O.irrefl _
     .exact a1r (hu i (j-1) (by omega) (by omega)) hc
    .exact hu i j hij (by omega)
   exact yo (λr ⟨a,b,c,d⟩=>⟨by omega,by omega,c,λh=>d (by omega)⟩) (dU hp h0 (f:=f) (m:=m+1) (by omega) (by omega) hu')
structure p8(key:Nat->O.α)(n:Nat)(p:CY)(m q:Nat):Prop where
 pm:Pm n p
 dn:Dn key p m
 le:m<=n
 qm:q+1<=m
 eq:∀k,m-(q+1)<=k->k<m->kk key p k=kk key p (m-1)
def p8.alike(h:p8 key n p m q)(k:Nat):kk key (kas_rev p (m-(q+1)) m) k=kk key p k:=by
 have hm:=h.le;have hs:=h.pm.size;have hq:=h.qm;unfold kk;rw[Vu (by omega)];split
 .rename_i c;have e1:=h.eq (m-(q+1)+m-1-k) (by omega) (by omega);have e2:=h.eq k c.1 c.2;exact e1.trans e2.symm
 .rfl
def X_(h0:0<n):∀{f m q:Nat}{p:CY},m+f<=n->p8 key n p m q->Qw (·<n) (ans key) (kas_desc f p m q) λr=>m<=r.2.1/\r.2.1<=m+f/\p8 key n r.1 r.2.1 r.2.2
 |0,m,q,p,_,h=>⟨B7 _,B7 _,h⟩
 |f+1,m,q,p,hm,h=>by
  have hq:=h.qm;refine⟨h.pm.lt h0 _,h.pm.lt h0 _,?_⟩;show Qw _ _ (if O.blt (kk key p m) (kk key p (m-1))=true then _ else _) _;have dn1:∀{p':CY},(∀k,kk key p' k=kk key p k)->O.kle (kk key p m) (kk key p (m-1))->Dn key p' (m+1):=λ{p'} he hk i j hij hj=>by
   rw[he,he];by_cases c:j=m
   .subst c;by_cases c2:i=j
    .subst c2;exact O.irrefl _
    .exact a1r hk (h.dn i (j-1) (by omega) (by omega))
   .exact h.dn i j hij (by omega)
  cases hc:O.blt (kk key p m) (kk key p (m-1))with
  |true=>
   have hk:O.kle (kk key p m) (kk key p (m-1)):=a1s hc;have go:∀{p':CY},Pm n p'->(∀k,kk key p' k=kk key p k)->Qw (·<n) (ans key) (kas_desc f p' (m+1) 0) λr=>m<=r.2.1/\r.2.1<=m+(f+1)/\p8 key n r.1 r.2.1 r.2.2:=λ{p'} hp he=>
    yo (λr ⟨a,b,c⟩=>⟨by omega,by omega,c⟩) (X_ h0 (f:=f) (m:=m+1) (q:=0) (p:=p') (by omega) ⟨hp,dn1 he hk,by omega,by omega,λk k1 k2=>by rw[show k=m+1-1 by omega]⟩)
   show Qw _ _ (if q>0 then kas_desc f (kas_rev p (m-(q+1)) m) (m+1) 0 else kas_desc f p (m+1) 0) _;by_cases c:q>0
   .rw[if_pos c];exact go h.pm.rev h.alike
   .rw[if_neg c];exact go h.pm λ_=>rfl
  |false=>
   refine⟨h.pm.lt h0 _,h.pm.lt h0 _,?_⟩;show Qw _ _ (if O.blt (kk key p (m-1)) (kk key p m)=true then _ else _) _;cases hd:O.blt (kk key p (m-1)) (kk key p m)with
   |true=>exact⟨B7 _,by show m<=m+(f+1);omega,h⟩
   |false=>
    have e:kk key p m=kk key p (m-1):=O.total _ _ hc hd;refine yo (λr ⟨a,b,c⟩=>⟨by omega,by omega,c⟩) (X_ h0 (f:=f) (m:=m+1) (q:=q+1) (p:=p) (by omega) ⟨h.pm,dn1 (λ_=>rfl) hd,by omega,by omega,λk k1 k2=>?_⟩);by_cases c:k=m
    .rw[c];rfl
    .rw[show m+1-1=m by omega,e];exact h.eq k (by omega) (by omega)
abbrev AB(key:Nat->O.α)(n:Nat):Nat×Array Nat->Prop:=λr=>Pm n r.2/\1<=r.1/\r.1<=n/\Up key r.2 r.1
def U6(h0:0<n)(hp:Pm n p)(h1:1<=m)(hm:m<=n)(hd:Dn key p m):Qw (·<n) (ans key) (kas_tail3 m n p) (AB key n):=by
 have hs:=hp.size;have hu:Up key (kas_rev p 0 m) m:=λi j hij hj=>by unfold kk;rw[Vu (by omega),Vu (by omega),if_pos ⟨by omega,by omega⟩,if_pos ⟨by omega,by omega⟩];exact hd (0+m-1-j) (0+m-1-i) (by omega) (by omega)
 refine kE (yo (λr ⟨a,b,c,_⟩=>?_) (dU hp.rev h0 (f:=n-m) (m:=m) h1 (by omega) hu));exact⟨hp.rev,by show 1<=r;omega,by show r<=n;omega,c⟩
def JN(h0:0<n)(hp:Pm n p)(h1:1<=m)(hm:m+1<=n)(he:∀k,k<m->kk key p k=kk key p (m-1))(hl:O.klt (kk key p m) (kk key p (m-1))):Qw (·<n) (ans key) (kas_descPart m n p) (AB key n):=by
 have hs:=hp.size;have hf:p8 key n p (m+1) 0:=⟨hp,λi j hij hj=>by
  by_cases c:j=m
  .subst c;by_cases c2:i=j
   .subst c2;exact O.irrefl _
   .rw[he i (by omega)];exact a1s hl
  .rw[he i (by omega),he j (by omega)];exact O.irrefl _,by omega,by omega,λk k1 k2=>by rw[show k=m+1-1 by omega]⟩
 refine kE (yo (λr ⟨a,b,c⟩=>?_) (X_ h0 (f:=n-(m+1)) (m:=m+1) (q:=0) (p:=p) (by omega) hf));have cm:=c.qm;by_cases hq:r.2.2>0
 .rw[if_pos hq];exact U6 h0 c.pm.rev (by omega) c.le λi j hij hj=>by rw[c.alike,c.alike];exact c.dn i j hij hj
 .rw[if_neg hq];exact U6 h0 c.pm (by omega) c.le c.dn
def h_(h0:0<n)(hp:Pm n p):Qw (·<n) (ans key) (kas_count n p) (AB key n):=by
 have hs:=hp.size;refine kE (yo (λm ⟨a,b,c,d⟩=>?_) (dU (key:=key) hp h0 (f:=n-1) (m:=1) (B7 _) (by omega) λi j hij hj=>by rw[show i=j by omega];exact O.irrefl _));by_cases e1:(m==n)=true
 .rw[if_pos e1];exact⟨hp,a,by show m<=n;omega,c⟩
 .rw[if_neg e1];have hmn:m<n:=by have:m≠n:=λq=>e1 (by rw[q];exact P7 _);omega
  have hl:=d (by omega);by_cases e2:m>1
  .rw[if_pos e2];refine⟨hp.lt h0 _,hp.lt h0 _,?_⟩;show Qw _ _ (if O.blt (kk key p 0) (kk key p (m-1))=true then _ else _) _;cases hc:O.blt (kk key p 0) (kk key p (m-1))with
   |true=>exact⟨hp,a,by show m<=n;omega,c⟩
   |false=>
    have e:kk key p 0=kk key p (m-1):=O.total _ _ hc (c 0 (m-1) (by omega) (by omega));have al:∀k,k<m->kk key p k=kk key p (m-1):=λk hk=>O.total _ _ (by rw[<- e];exact c 0 k (by omega) hk) (c k (m-1) (by omega) (by omega));have rv:∀k,kk key (kas_rev p 0 m) k=kk key p k:=λk=>by
     unfold kk;rw[Vu (by omega)];split
     .rename_i z;exact(al (0+m-1-k) (by omega)).trans (al k z.2).symm
     .rfl
    exact JN h0 hp.rev a hmn (λk hk=>by rw[rv,rv];exact al k hk) (by rw[rv,rv];exact hl)
  .rw[if_neg e2];exact JN h0 hp a hmn (λk hk=>by rw[show k=m-1 by omega]) hl
def Vv{p:CY}(hp:Pm n p)(h0:0<n){k:Nat}(hu:Up key p k):∀{f l r:Nat},l<=r->r<=k->r-l<=f->(∀i,i<l->O.kle (kk key p i) (kk key p k))->(∀i,r<=i->i<k->O.klt (kk key p k) (kk key p i))->
  Qw (·<n) (ans key) (kas_place p k f l r) λl=>l<=k/\(∀i,i<l->O.kle (kk key p i) (kk key p k))/\∀i,l<=i->i<k->O.klt (kk key p k) (kk key p i)
 |0,l,r,lr,rk,hf,h1,h2=>⟨by omega,h1,λi hi=>h2 i (by omega)⟩
 |f+1,l,r,lr,rk,hf,h1,h2=>by
  show Qw _ _ (if l ≥ r then KasT.ret l else _) _;by_cases c:l ≥ r
  .rw[if_pos c];exact⟨by omega,h1,λi hi=>h2 i (by omega)⟩
  .rw[if_neg c];refine⟨hp.lt h0 _,hp.lt h0 _,?_⟩;show Qw _ _ (if O.blt (kk key p k) (kk key p ((l+r) / 2))=true then _ else _) _;cases hc:O.blt (kk key p k) (kk key p ((l+r) / 2))with
   |true=>exact Vv hp h0 hu (f:=f) (l:=l) (r:=(l+r) / 2) (by omega) (by omega) (by omega) h1 λi i1 i2=>KeyOrd.klt_of_klt_of_kle hc (hu _ _ i1 i2)
   |false=>exact Vv hp h0 hu (f:=f) (l:=(l+r) / 2+1) (r:=r) (by omega) rk (by omega) (λi hi=>a1r (hu i ((l+r) / 2) (by omega) (by omega)) hc) h2
def md(h0:0<n):∀{f k:Nat}{p:CY},Pm n p->k+f<=n->Up key p k->Qw (·<n) (ans key) (kas_bin f p k) λp'=>Pm n p'/\Up key p' (k+f)
 |0,k,p,hp,_,hu=>⟨hp,hu⟩
 |f+1,k,p,hp,hk,hu=>by
  have hs:=hp.size;refine kE (yo (λl ⟨a,b,c⟩=>?_) (Vv hp h0 hu (f:=k) (l:=0) (r:=k) (F7 _) (B7 _) (by omega) (λi hi=>absurd hi (S0 _)) λi i1 i2=>absurd i2 (by omega)));refine yo (λp' ⟨x,y⟩=>⟨x,by rw[show k+(f+1)=k+1+f by omega];exact y⟩) (md h0 (f:=f) (k:=k+1) hp.bub (by omega) λi j hij hj=>?_);unfold kk;rw[KO (by omega) a,KO (by omega) a];by_cases i1:i=l
  .rw[if_pos i1];by_cases j1:j=l
   .rw[if_pos j1];exact O.irrefl _
   .rw[if_neg j1,if_pos ⟨by omega,by omega⟩];exact a1s (c (j-1) (by omega) (by omega))
  .rw[if_neg i1];by_cases j1:j=l
   .rw[if_pos j1,if_neg (by omega)];exact b i (by omega)
   .rw[if_neg j1];by_cases i2:l<i/\i<=k
    .rw[if_pos i2,if_pos ⟨by omega,by omega⟩];exact hu (i-1) (j-1) (by omega) (by omega)
    .rw[if_neg i2];by_cases j2:l<j/\j<=k
     .rw[if_pos j2];exact hu i (j-1) (by omega) (by omega)
     .rw[if_neg j2];exact hu i j hij (by omega)
def dW(h0:0<n):Qw (·<n) (ans key) (kas_sort n) λp=>Pm n p/\Up key p n:=by
 refine kE (yo (λr ⟨a,b,c,d⟩=>?_) (h_ (key:=key) h0 (p:=List.toArray (List.range n)) ⟨List.Perm.refl _,by simp⟩));by_cases h:r.1<n
 .rw[if_pos h,show max r.1 1=r.1 by omega];refine yo (λp ⟨x,y⟩=>⟨x,by rw[show n=r.1+(n-r.1) by omega];exact y⟩) (md h0 (f:=n-r.1) (k:=r.1) a (by omega) d)
 .rw[if_neg h];exact⟨a,by rw[show n=r.1 by omega];exact d⟩
end
end L2
namespace L2
open PySem PySem.Spec PyProof.Rows PySem.W
section
variable {prog:Cq}{w:Cv}{A:Cz}{E:B_}{s:Ce}
end
section
variable {X:Cx}{pins:Ca}{σ:St}{H:Hp}{s:Ce}{h':Heap}
def Inv.AD(I:Inv X pins σ H s)(k:∀b o,b≠it->s.heap.get? b=some o->h'.get? b=some o)(hn:H it=none)(hL:it≠X.env.locals)
  (h1:it∈X.ex\/X.s₀.heap.objs.size<=it) (h2:∀x c,X.env.cells.lookup x=some c->c≠it) (h3:∀p∈X.pn++pins,p.1≠it) (new:yk X.prog X.w (upd H it o) h' it o):Inv X pins σ (upd H it o) { s with heap:=h',toks:=t' }:=by
 have nit:∀b u,H b=some u->b≠it:=λb u e z=>by rw[z,hn]at e;cases e
 have nc:∀b,b∉[it]->b≠it:=λb hc z=>hc (by simp[z]);refine I.step (g':=s.gens) (d':=s.drawn) (ch:=[it]) (λb hb=>?_) (λb o _ _ hc e _=>k b o (nc b hc) e) (λb o _ _ hc e _=>⟨o.slots,k b o (nc b hc) e⟩) (λb _ hc _ n=>by rw[zc (nc b hc)];exact n)
  (λb o hc e=>⟨o,k b o (nc b hc) e⟩) (λb xs e=>by rw[zc (nit b _ e)];exact e) (λb _ _ e=>by rw[zc (nit b _ e)];exact e) (λb ps e=>⟨#[],by rw[zc (nit b _ e),e];simp⟩) (λm hm=>?_) (λb u e=>?_) I.bare
 .have e:b=it:=by simpa using hb
  subst e;exact⟨h1,hL,h2,h3⟩
 .obtain⟨o,es,ep,ho,r⟩:=hm;exact⟨o,es,ep,k _ o (Ne.symm hL) ho,r⟩
 .by_cases hb:b=it
  .subst hb;rw[zb]at e;cases e;exact new
  .rw[zc hb]at e;refine(I.hok b u e).fP (λc v hc q=>k c v ?_ q) (λc q=>by rw[zc (nit c _ q)];exact q) λc xs q=>by rw[zc (nit c _ q)];exact q
   rcases hc with z|z
   .rw[z];exact nit b u e
   .exact nit c _ z
structure ia(X:Cx)(pins:Ca)(a:Addr):Prop where
 loc:a≠X.env.locals
 fs:a∉X.fs
 ex:a∈X.ex\/X.s₀.heap.objs.size<=a
 cel:∀x c,X.env.cells.lookup x=some c->c≠a
 pin:∀p∈X.pn++pins,p.1≠a
def Inv.Bm{H':Hp}(I:Inv X pins σ H s)(hb:s.heap.objs.size<=b):ia X pins b:=by have:=I.rJ (H':=λ_=>none) hb rfl;exact⟨this.2.1,this.2.2.1,this.2.2.2.1,this.2.2.2.2.1,this.2.2.2.2.2⟩
def Inv.xx(I:Inv X pins σ H s)(w:ia X pins a)(hn:H a=none)(ho:s.heap.get? a=some o)(hc:∀v,o.data≠.cell v):Inv X (pins++[(a,o)]) σ H s:=
 I.Jf λp hp=>(E9.mp hp).elim (λz=>I.pin p (C6 _ z)) λz=>by rw[C7.mp z];exact⟨ho,hn,w.loc,w.fs,hc⟩
def Inv.at1(I:Inv X (pins++[(a,o)]) σ H s):s.heap.get? a=some o/\H a=none:=by have:=I.pin (a,o) (C6 _ (C6 _ B3));exact⟨this.1,this.2.1⟩
end
def dX(sp:Sp):List V->List V->Hp->(List V->Hp->Prop)->Prop
 |[],acc,H,Q=>Q acc H
 |v::vs,acc,H,Q=>sp [v] H (λz H'=>dX sp vs (acc++[z]) H' Q) (λ_ _ _=>False)
section
variable {X:Cx}{k:Nat}{f:Addr}{fd:CA}{ps:Cn}{sp:Sp}
end
section
variable {X:Cx}{k:Nat}{f:Addr}{sp:Sp}
def Vals.getD(r:Vals ys its)(i:Nat):RelV (ys.getD i .non) (its.getD i .none):=by
 induction r generalizing i with
 |nil=>exact rfl
 |cons r rs ih=>
  cases i with
  |zero=>exact r
  |succ i=>exact ih i
def Vw{ys:Ck}{its:Cg}(r:Vals ys its):∀q:List Nat,Vals (q.map λi=>ys.getD i .non) (q.map λi=>its.getD i .none)
 |[]=>.nil
 |i::q=>.cons (r.getD i) (Vw r q)
end
section
variable {X:Cx}{k:Nat}{f:Addr}{fd:CA}{ps:Cn}{sp:Sp}
def WL{pins:Ca}{σ:St}{A:Cz}{E:B_}{kS D:Addr}{e e1:Nat}{H:Hp}{s:Ce}{us outU:Cg}{outV:Ck}{st:SortSt}{Q:VK}{P:PySem.Fin->Shared->Prop}
  (w1:ia X pins D) (w2:ia X (pins++[(D,seqObj "list" #[] e1)]) kS) (hu:us.length<64) (ho:outU.length<64) (ro:Vals outV outU) (hout:(arrOf st).map (·.2)=List.toArray outU) (hf:failedOf st=none)
  (I:Inv X (pins++[(D,seqObj "list" #[] e1)]++[(kS,seqObj "list" us.toArray e)]) σ H s) (hq:Q (.ref D) (upd H D (.lst outV))) (hP:∀s',EP X pins σ Q (.ref D) s'->P (.done (.ret .none)) s'):wpAny (Du X) A (ksk_tail D false e1 (.ref kS) st) P E s:=by
 have aK:=I.at1;have J1:Inv X (pins++[(D,seqObj "list" #[] e1)]) σ H s:=I.qT;have hne:kS≠D:=λz=>w2.pin (D,seqObj "list" #[] e1) (C6 _ (C6 _ B3)) z.symm;have J2:Inv X (pins++[(D,seqObj "list" #[] e1)]) σ H { s with heap:=s.heap.update kS (Obj.mapSeq λ_=>(#[]:Array Value)),toks:=s.toks }:=J1.turned (λb o hb ho=>(D8 s.heap _ (Ne.symm hb)).trans ho) aK.2 w2.loc w2.ex w2.cel w2.pin;have aD:=J2.at1;unfold ksk_tail
 try dsimp only
 rw[hout];refine f8 (a07 aK.1 rfl ?_ (by rw[D9,N4];omega) (F7 _));refine f8 (a0j ?_);refine f8 (seqEpoch_at aD.1 rfl ?_);refine f8 (a07 aD.1 rfl ?_ (F7 _) (by simp only[Bool.false_eq_true,if_false,List.size_toArray];rw[N4];omega));rw[hf];simp only[bne_self_eq_false,Bool.false_eq_true,if_false];refine B8 (hP _ ?_);have e2:=get?_update_seq aD.1 λ_=>List.toArray outU;have hl:=ro.length;have J4:Inv X pins σ (upd H D (.lst outV)) { s with heap:=(s.heap.update kS (Obj.mapSeq λ_=>(#[]:Array Value))).update D (Obj.mapSeq λ_=>List.toArray outU),toks:=s.toks }:=Inv.AD (s:={ s with heap:=s.heap.update kS (Obj.mapSeq λ_=>(#[]:Array Value)),toks:=s.toks }) J2.qT (λb o hb ho=>(D8 _ _ (Ne.symm hb)).trans ho) aD.2 w1.loc w1.ex w1.cel w1.pin (o:=.lst outV) ⟨by rw[N4];omega,outU,_,ro,e2⟩;exact⟨.ref D,_,J4,rfl,hq⟩
end
section
variable {X:Cx}{k:Nat}{f:Addr}{sp:Sp}
end
def zy.mf{W:RC}{M:Cd}{H:Hp}{xs:Cy}{vs:Ck}(h:zy W M H xs vs):∀q:List Nat,zy W M H (q.map λi=>xs.getD i .n) (q.map λi=>vs.getD i .non)
 |[]=>rfl
 |i::q=>by
  refine⟨_,_,rfl,?_,h.mf q⟩;show Rep W M H (xs.getD i .n) (vs.getD i .non);simp only[List.getD_eq_getElem?_getD];cases hx:xs[i]? with
  |some x=>obtain⟨v,e,r⟩:=h.get hx;rw[e];exact r
  |none=>
   cases hv:vs[i]? with
   |none=>exact rfl
   |some v=>obtain⟨x,e,_⟩:=h.lH hv;rw[hx]at e;cases e
section
variable {X:Cx}{C:LC}{S:Cb}{e:Co}{wk:Bool}{ws:Cj}{ms:MA}{p p2 pos kpos:Pos}{fn:Str}{k:Nat}{f:Addr}{fd:CA}{ps:Cn}{g:Cw}{sp:Sp}{t:TA}
end
section
variable {X:Cx}{W:RC}{E:XK}{o e:Co}{m1 m2:HME}{pos pos':Pos}{fn:Str}
end
section
variable {X:Cx}{W:RC}{E:XK}{e:Co}{es:Ci}{ms:HMA}{g:List HV->AH->HX HV}{k n:Nat}{f:Addr}{fd:CA}{ps:Cn}{x:Str}{p pos:Pos}
end
section
variable {X:Cx}{C:LC}{S:Cb}{o f:Co}{es:Ci}{ws:Cj}{w1 w2:Bool}{m1 m2:ME}{ms:MA}{Zd ky p:Pos}{x1:Nat}
end
section
open PySem.SeqAt
open PySem.AutoSeq1 (wpAny_loadPart')
open PySem.MeetsSeq PySem.MeetsSeq2 PySem.MeetsSeq3
end
section
variable {X:Cx}
end
section
variable {X:Cx}{C:LC}{S:Cb}{o f:Co}{es:Ci}{ws:Cj}{w1 w2:Bool}{m1 m2:ME}{ms:MA}{Zd ky p:Pos}{x1:Nat}
end
end L2
namespace L2
open PySem PySem.Spec PyProof.Rows PySem.W
section
variable {X:Cx}{W:RC}{E:XK}{o a e:Co}{m m1 m2:HME}{pos tpos:Pos}
end
section
variable {Z:HC}{E:XK}{A A':Cm}{H H':Hp}{G G':AH}{σ σ':St}{ρ ρ':kA}{es:Cf}{k n:Nat}{D:Ends}{kvs:List (Key×HV)}{o:Obj}
end
section
variable {X:Cx}{W:RC}{E:XK}{tg yM:Co}{body:CQ}{mg:HMG}{mb:HMS}{pos:Pos}{i:Nat}
end
section
variable {X:Cx}{pins:Ca}{σ:St}{H:Hp}{s:Ce}{a b:Addr}{kvs more:Cf}{A:Cz}{E:B_}
end
section
variable {X:Cx}{C:LC}{S Sb Sc:Cb}{o e:Co}{m:ME}{w:Bool}{pos p:Pos}
end
section
variable {X:Cx}{o:Co}{to:TE}{p pos ky Zd:Pos}
end
section
variable {X:Cx}{C:LC}{S:Cb}{w:Bool}{o:Co}{m:ME}{p pos ky Zd:Pos}
end
section
variable {X:Cx}{W:RC}{E:XK}{tg a0 b0:Co}{body:CQ}{mg:HMG}{mb:HMS}{pos ipos:Pos}{i:Nat}{n:Int}
end
section
variable {prog:Cq}{w:Cv}{A:Cz}{E:B_}{s:Ce}
end
section
variable {X:Cx}{pins:Ca}{σ:St}{H:Hp}{s:Ce}{W:RC}
end
section
variable {X:Cx}{C:LC}{S:Cb}{e a b:Co}{m m1 m2:ME}{pos:Pos}
end
section
variable {X:Cx}{o:Co}{to:TE}{p pos ky Zd:Pos}
end
section
variable {X:Cx}{C:LC}{S:Cb}{w:Bool}{o:Co}{m:ME}{p pos ky Zd:Pos}
end
def vO:Option Int->List Int->Option Int
 |b,[]=>b
 |none,x::r=>vO (some x) r
 |some b,x::r=>vO (some (if x>b then x else b)) r
def held(t:Tok):Option Int->Array Value
 |none=>#[]
 |some k=>#[.int k t,.int k t]
def Ua:(held t b).size<=sizeLine:=by
 cases b with
 |none=>exact F7 _
 |some k=>show 2<=sizeLine;decide
def U7:(toString "max"++toString ".loop":String)="max.loop":=by decide
section
variable {prog:Cq}{w:Cv}{A:Cz}{R:Result->Shared->Prop}{I S:Addr}{fp wr:CM}{n:Nat}{P:Nat->Value->Prop}{St:Nat->Heap->Prop}{d:Value}
def gtI(h:Q (.bool (decide (x>y))) s):wpAny (model prog w) A (richCompare .Gt (.int x t) (.int y u)) Q E s:=
 CmpOf.ints_gt (P:=λi v=>v=.int (if i=0 then x else y) (if i=0 then t else u)) (λi=>if i=0 then x else y) (λi v e=>⟨_,e⟩) 0 1 _ _ s Q E rfl rfl h
def ib(W:Walks prog w A.in1 I fp wr n P St)(hf:S∉fp):∀(ys:CC)(j:Nat)(b:CU)(t:Tok)(s:Ce)(c:Nat),j+ys.length=n->(∀i y,ys[i]?=some y->∀v,P (j+i) v->∃t,v=.int y t)->St j s.heap->
  s.heap.get? S=some { cls:=.type "list",dict:=none,data:=.seq (held t b) c,slots:=#[] }->
  (∀v h' tk,(match vO b ys with|some m=>∃t,v=.int m t|none=>v=d)->(∀a o,a∉wr->a≠S->s.heap.get? a=some o->h'.get? a=some o)->R (.ok (.ret v)) { s with heap:=h',toks:=tk })->
  codeAny (model prog w) A (.builtin "max.loop" ⟨[.ref I,.none,.ref S],[("default",d)]⟩) R s:=by
 have hw:S∉wr:=λz=>hf (W.sub _ z);intro ys
 induction ys with
 |nil=>
  intro j b t s c hj hv hst hS hR;rw[a0J,Nat.add_zero]at hj;refine N6 F.entry_max_loop ?_;rw[L7 S9 _];show wpAny _ A.in1 (seqItems? (.ref S) >>= _) _ _ s;refine f8 (a0U hS rfl ?_);show wpAny _ A.in1 (tryCatch (pyNext (.ref I)) _ >>= _) _ _ s;refine f8 (a0V (W.done s _ _ (hj▸hst) λh' tk hk=>?_));have hS':=hk S _ hw hS;cases b with
  |none=>exact f8 (a0O (B8 (hR d h' tk rfl λa o h1 _ e=>hk a o h1 e)))
  |some k=>show wpAny _ A.in1 (updateSeq S (λ_=>#[]) >>= _) _ _ _;refine f8 ?_;exact O1 hS' rfl (hz:=Ua) (f8 (a0j (B8 (hR (.int k t) _ tk ⟨t,rfl⟩ λa o h1 h2 e=>(D8 _ _ (Ne.symm h2)).trans (hk a o h1 e)))))
 |cons y ys ih=>
  intro j b t s c hj hv hst hS hR;rw[B0]at hj;have hv':∀i z,ys[i]?=some z->∀v,P (j+1+i) v->∃t,v=.int z t:=λi z e v p=>hv (i+1) z (by rw[E8];exact e) v (by rw[show j+(i+1)=j+1+i by omega];exact p);refine N6 F.entry_max_loop ?_;rw[L7 S9 _];show wpAny _ A.in1 (seqItems? (.ref S) >>= _) _ _ s;refine f8 (a0U hS rfl ?_);show wpAny _ A.in1 (tryCatch (pyNext (.ref I)) _ >>= _) _ _ s;refine f8 (a0V (W.item j s _ _ (by omega) hst λv h' tk hP hst' hk=>?_));obtain⟨u,rfl⟩:=hv 0 y rfl v hP;have hS':=hk S _ hw hS;have up:∀g:Array Value->Array Value,∀a o,a∉wr->a≠S->s.heap.get? a=some o->(h'.update S (Obj.mapSeq g)).get? a=some o:=λg a o h1 h2 e=>(D8 _ _ (Ne.symm h2)).trans (hk a o h1 e);have fr:∀g:Array Value->Array Value,St (j+1) (h'.update S (Obj.mapSeq g)):=λg=>W.frame _ _ _ hst' λa ha o e=>(D8 _ _ (λz:S=a=>hf (by rw[z];exact ha))).trans e;cases b with
  |none=>show wpAny _ A.in1 (updateSeq S (λ_=>#[Value.int y u,Value.int y u]) >>= _) _ _ _;refine f8 ?_;refine O1 hS' rfl (hz:=Ua) ?_;rw[U7];exact B8 ⟨M3 S9 _,ih (j+1) (some y) u _ _ (by omega) hv' (fr _) (G0 _ hS' rfl) λv h2 tk2 hm hk2=>hR v h2 tk2 hm λa o h1 h3 e=>hk2 a o h1 h3 (up _ a o h1 h3 e)⟩
  |some k=>
   show wpAny _ A.in1 (tryCatch (holding [.int y u,.int y u] (richCompare .Gt (.int y u) (.int k t) >>= _)) _ >>= _) _ _ _;refine f8 (a0V (G7 (f8 (gtI ?_))));refine f8 (G7 (W1 ?_));refine f8 (a0j (B8 ?_));by_cases c1:y>k
   .rw[L5 c1];simp only[if_true];refine f8 ?_;refine O1 hS' rfl (hz:=Ua) (f8 (a0j ?_));rw[U7];refine B8 ⟨M3 S9 _,ih (j+1) (some y) u _ _ (by omega) hv' (fr _) (G0 _ hS' rfl) λv h2 tk2 hm hk2=>hR v h2 tk2 ?_ λa o h1 h3 e=>hk2 a o h1 h3 (up _ a o h1 h3 e)⟩;unfold vO;rw[if_pos c1];exact hm
   .rw[G5 c1];simp only[Bool.false_eq_true,if_false];refine f8 (a0j ?_);rw[U7];refine B8 ⟨M3 S9 _,ih (j+1) (some k) t _ _ (by omega) hv' hst' hS' λv h2 tk2 hm hk2=>hR v h2 tk2 ?_ λa o h1 h3 e=>hk2 a o h1 h3 (hk a o h1 e)⟩;unfold vO;rw[if_neg c1];exact hm
def uE(a v:Value):argsOk "max" ⟨[a],[("default",v)]⟩:=by unfold argsOk;kernel_rfl
def dY(hh:A.handled=none)(hl:s.heap.IsList l (intItems xs))
  (h:∀v h' tk,(match vO none (xs.toList.map (·.1))with|some m=>∃t,v=.int m t|none=>v=d)->(∀b o,s.heap.get? b=some o->h'.get? b=some o)->Q v { s with heap:=h',toks:=tk }):
  wpAny (model prog w) A (call (.builtin "max") [.ref l] [("default",d)]) Q E s:=by
 refine a0d (a0e F.plain_max F.entry_max ?_);simp only[checkBuiltinCall,F.kind_max];have go:wpAny (model prog w) A.in1 (Builtin.«max» ⟨[.ref l],[("default",d)]⟩) (λfin s'=>match fin with
   |.done f=>(match(Except.ok f:Result)with | .ok (.ret v)=>Q v s' | .ok _=>False | .error e=>E e s')
   |.again c'=>c'.quiet=true/\codeAny (model prog w) A c' (λr s'=>match r with | .ok (.ret v)=>Q v s' | .ok _=>False | .error e=>E e s') s') E s:=by
  show wpAny _ A.in1 (Builtin.Builtins.bindParams "max" ["key","default"] 0 ⟨[],[("default",d)]⟩ >>= _) _ _ s;refine f8 (a0x (show Builtin.Builtins.bindParams "max" ["key","default"] 0 ⟨[],[("default",d)]⟩=pure [none,some d]from rfl) ?_);refine f8 (B8 ?_);refine f8 (iter_intList hl λs2 e st hfp hne=>?_);subst e;refine f8 (S5 ?_);rw[U7];refine B8 ⟨M3 S9 _,ib (Walks.list (A:=A.in1) hh _ l hne (intItems xs)) (λhm=>M8 _ (hfp _ hm)) (xs.toList.map (·.1)) 0 none 0 _ _ ?_ ?_ ?_ (E2 _ rfl) λv h' tk hm hk=>?_⟩
  .rw[a0N,u8,T4];simp[intItems]
  .intro i y e v hP;rw[a0N]at hP;obtain⟨t,rfl⟩:=intItems_at hP;refine⟨t,?_⟩;rw[D5,v4]at e;obtain⟨p,e,rfl⟩:=e;rw[Array.getElem?_toList]at e;simp[numAt,e]
  .exact(Walks.list (prog:=prog) (w:=w) (A:=A.in1) hh _ l hne (intItems xs)).frame _ _ _ st λb _ o e=>B6 _ e
  .exact h v h' tk hm (old_kept λb o hb e=>hk b o hb (D2 (C0 e)) (B6 _ e))
 cases hsig:Manifest.signature? "max" with
 |none=>exact B8 go
 |some sig=>
  have ha':Bind.checkArgs "max" sig ⟨[.ref l],[("default",d)]⟩=pure ():=by simpa only[argsOk,hsig]using uE (.ref l) d
  simp only[ha'];exact B8 go
end
section
variable {X:Cx}{C:LC}{S:Cb}{e:Co}{ws:Cj}{ms:MA}{p pos kpos pk:Pos}{jk:Nat}{n:Int}{t:TA}
def uF(K:CO)(n:Int):List V->Hp->VK->Prop:=λvs H Q=>∃(p:Addr)(ns:CC),vs=[.ref p]/\SqL K H p (ns.map V.int)/\Q (.int ((vO none ns).getD n)) H
def oI(hc:X.calm=true)(hg:Gl X "max")(hm:X.mg "max"=none)(ha:PA X [e] t)
  (he1:backTo pos (starEach [e] X.env)=(false,eval e X.env)::backTo pos (starEach [] X.env):=by rfl) (hpl:(backTo pos (starEach [e] X.env)).any (·.1)=false:=by rfl):
  PE X (.Call (.Name "max" p) [e] [⟨some "default",.Constant (.int n) jk pk,kpos⟩] pos) (λσ H Q=>t σ H λvs H1=>uF X.K n vs H1 Q):=by
 intro pins s σ H Q I h;refine N7 (Qr I hg hm PyProof.Rows.boot_max ?_ (by decide) (by decide));refine callWith_kw (thn (ha pos pins s σ H _ I h) λus s1 ⟨vs,H1,I1,r1,l,ns,hv,hl,hq⟩=>?_) he1 hpl;subst hv;obtain⟨u,rfl,ru⟩:=vals1 r1;cases ru;refine thn (m6 (nm:=some "default") (kpos:=kpos) (i5 (i:=n) (j:=jk) (pos:=pk)) rV pos pins s1 σ H1 (λzs H2=>zs=[.int n]/\H2=H1) I1 ⟨rfl,rfl⟩) λws s2 ⟨zs,H2,I2,rz,e1,e2⟩=>?_;subst e1;subst e2;obtain⟨u2,rfl,ru2⟩:=vals1 rz;obtain⟨tk,rfl⟩:=ru2;obtain⟨its,rv,pl,_⟩:=I2.list hl;obtain⟨ts,rfl,rfl⟩:=cE rv;have e:(ts.map (λz=>Value.int z.1 z.2)).toArray=intItems ts.toArray:=by unfold intItems;simp
 refine dY (xs:=ts.toArray) (I2.ok.hd hc) (by rw[<- e];exact pl.isList) λv h' tk' hv hk=>?_;rw[a1Z]at hv;revert hv hq;cases vO none (ts.map (·.1))with
 |none=>exact λhq hv=>⟨.int n,H2,I2.kept (t':=tk') hk,⟨tk,hv⟩,hq⟩
 |some m=>exact λhq hv=>⟨.int m,H2,I2.kept (t':=tk') hk,hv,hq⟩
def dZ(n:Int):List PV->Out PV
 |[.l xs]=>vp ((lR xs).map λns=>.i ((vO none ns).getD n))
 |_=>.wall
def oJ:LfC W (uF W.K n) (dZ n):=λM C B H xs vs Q m h q=>by
 unfold dZ at q;split at q
 .obtain⟨z,e,q⟩:=qc q;obtain⟨ns,hn,rfl⟩:=v4.mp e;obtain⟨v,r,rfl,⟨l,us,rfl,_,hl,rr⟩,hr'⟩:=h;cases(show _=_ from hr');rw[cP rr hn]at hl;exact⟨l,ns,rfl,SqL.of hl,q _ H (zl.refl _) rfl⟩
 .exact q.elim
def oK(hc:X.calm=true)(hg:Gl X "max")(hm:X.mg "max"=none)(ha:AM X C S ws [e] ms)
  (he1:backTo pos (starEach [e] X.env)=(false,eval e X.env)::backTo pos (starEach [] X.env):=by rfl) (hpl:(backTo pos (starEach [e] X.env)).any (·.1)=false:=by rfl):
  EM X C S false (.Call (.Name "max" p) [e] [⟨some "default",.Constant (.int n) jk pk,kpos⟩] pos) (zh (dZ n) ms):=λhK=>by
 obtain⟨ta,a1,a2⟩:=ha hK;exact⟨_,oI hc hg hm a1 he1 hpl,hK▸s_ oJ a2⟩
end
def lI:PV->Out PV
 |.l kvs=>if Vq kvs=true then .ok (.l kvs)else .wall
 |_=>.wall
def mLI(m:ME):ME:=λρ=>(m ρ).bind lI
def AE(h:lI x=.ok y):∃kvs,x=.l kvs/\y=.l kvs/\Vq kvs=true:=by
 cases x with
 |l kvs=>
  have h:(if Vq kvs=true then Out.ok (PV.l kvs)else .wall)=.ok y:=h;split at h
  .rename_i hi;cases h;exact⟨kvs,rfl,rfl,hi⟩
  .cases h
 |_=>cases(show Out.wall=Out.ok y from h)
def LsR(W:RC)(H:Hp):List PV->List Addr->Prop
 |[],ps=>ps=[]
 |y::ys,ps=>∃p r kvs es,ps=p::r/\y=.l kvs/\Vq kvs=true/\H p=some (.lst es)/\zy W (λ_=>False) H kvs es/\LsR W H ys r
def LsR.gen(f:Fr (λ_=>False) H H'):∀{ps:CM},LsR W H ys ps->(∀p∈ps,∀o,H p=some o->H' p=some o)->LsR W H' ys ps:=by
 induction ys with
 |nil=>intro ps h _;exact h
 |cons y ys ih=>intro ps h hs;obtain⟨p,r,kvs,es,rfl,rfl,hi,hp,rk,hr⟩:=h;exact⟨p,r,kvs,es,rfl,rfl,hi,hs p B3 _ hp,rk.gen f λ_ m _=>m,ih hr λq hq=>hs q (B4 _ hq)⟩
def LsR.snoc(hi:Vq kvs=true)(hp:H p=some (.lst es))(rk:zy W (λ_=>False) H kvs es):∀{ps:CM},LsR W H ys ps->LsR W H (ys++[.l kvs]) (ps++[p]):=by
 induction ys with
 |nil=>intro ps h;cases(show ps=[]from h);exact⟨p,[],kvs,es,rfl,rfl,hi,hp,rk,rfl⟩
 |cons y ys ih=>intro ps h;obtain⟨q,r,kvs',es',rfl,rfl,hi',hp',rk',hr⟩:=h;exact⟨q,r++[p],kvs',es',rfl,rfl,hi',hp',rk',ih hr⟩
def LsR.len:∀{ps:CM},LsR W H ys ps->ps.length=ys.length:=by
 induction ys with
 |nil=>intro ps h;cases(show ps=[]from h);rfl
 |cons y ys ih=>intro ps h;obtain⟨q,r,kvs',es',rfl,rfl,_,_,_,hr⟩:=h;rw[B0,B0,ih hr]
def LsR.at:∀{ps:CM},LsR W H ys ps->∀p∈ps,∃es,H p=some (.lst es):=by
 induction ys with
 |nil=>intro ps h;cases(show ps=[]from h);intro p hp;cases hp
 |cons y ys ih=>
  intro ps h;obtain⟨q,r,kvs',es',rfl,rfl,_,h1,_,hr⟩:=h;intro p hp;rcases C5.mp hp with rfl|hp
  .exact⟨_,h1⟩
  .exact ih hr p hp
def d0(W:RC)(H:Hp)(H2:Hp)(x:PV)(v:V):Prop:=∃ys ps l,x=.l ys/\v=.ref l/\H l=none/\H2 l=some (.lst (ps.map .ref))/\LsR W H2 ys ps/\(∀p∈ps,p≠l/\H p=none)/\ps.Nodup
def d3{wi:TI}{g:TG}{tc:TT}{te:TE}{fr:Ct}{Si:Cb}{W:RC}{B:Bs}{P:Cm}{H:Hp}{σ:St}{ρ:Sto}(hi:∀R:It->Hp->Prop,cW C B S P true H R (mi ρ)->wi σ H R)(hW:W=C.W)(hS:Si=inS S fr)(hg:LG ⟨W,E0,false⟩ Si Si g mg)(ht:LT ⟨W,E0,false⟩ Si tc mc)(he:LFr ⟨W,E0,false⟩ Si te me)(R:Rel C.W B S P H σ ρ)(Q:VK)(q:zE C B H (d0 C.W H) Q (mLC mi fr mg mc (mLI me) ρ)):tLC wi g tc te fr σ H Q:=by
 subst hW hS;refine hi _ ?_;unfold mLC at q;revert q;cases mi ρ with
 |exc c fs=>exact id
 |wall=>exact id
 |ok xs=>
  intro q J H1 s1 io acc ha;have R1:=R.keep s1;have q:zE C B H (d0 C.W H) Q (lcP mg mc (mLI me) xs (w_ ρ fr) []):=q;refine⟨λi n σ' H'=>n=xs.length-i/\i<=xs.length/\∃ρ' ys ps,Rel C.W (lcB B S P H1 acc) (inS S fr) (λ_=>0) H' σ' ρ'/\H' acc=some (.lst (ps.map .ref))/\LsR C.W H' ys ps/\(∀p∈ps,p≠acc/\H1 p=none)/\ps.Nodup/\zE C B H (d0 C.W H) Q (lcP mg mc (mLI me) (xs.drop i) ρ' ys),
   ⟨_,rfl,F7 _,w_ ρ fr,[],[],R1.comp ha (zl.upd ha) zb,zb,rfl,(λp hp=>by cases hp),P8,q⟩,?_⟩
  rintro i n σ' H' ⟨rfl,hle,ρ',ys,ps,R',hacc,rys,hps,nd,q'⟩
  have io':=io H' (zl.fr R'.same);by_cases hlt:i<xs.length
  .have hx:xs[i]?=some xs[i]:=B9 hlt;obtain⟨go,yl⟩:=io'.1 i _ hx;refine .inr ⟨go,λσ2 H2'=>i+1<=xs.length/\∃ρ' ys ps,Rel C.W (lcB B S P H1 acc) (inS S fr) (λ_=>0) H2' σ2 ρ'/\H2' acc=some (.lst (ps.map .ref))/\LsR C.W H2' ys ps/\(∀p∈ps,p≠acc/\H1 p=none)/\ps.Nodup/\zE C B H (d0 C.W H) Q (lcP mg mc (mLI me) (xs.drop (i+1)) ρ' ys),λσ2 H2' h=>⟨xs.length-(i+1),by omega,rfl,h.1,h.2⟩,λv H'' hy=>?_⟩;obtain⟨sy,ry⟩:=yl v H'' hy;have Ry:=R'.keep sy;have rx:=ry (Mof (lcB B S P H1 acc) (inS S fr) (λ_=>0)) λa m hn=>⟨⟨.inl m,λz=>hn ((show a=acc from z)▸ha)⟩,λj hj=>(XQ hj rfl).elim⟩;rw[O7 hlt]at q';unfold lcP at q';cases hgx:mg xs[i] ρ' with
   |none=>rw[hgx]at q';exact q'.elim
   |some ρ1=>
    rw[hgx]at q';refine hg _ _ H'' σ' ρ' _ v Ry rx _ ⟨ρ1,hgx,λσ1 R1'=>ht _ _ H'' σ1 ρ1 R1' _ ?_⟩;have q':zE C B H (d0 C.W H) Q ((noX (mc ρ1)).bind λt=>if t=true then(noX (mLI me ρ1)).bind λy=>if ys.length<sizeLine then lcP mg mc (mLI me) (xs.drop (i+1)) ρ1 (ys++[y])else .wall else lcP mg mc (mLI me) (xs.drop (i+1)) ρ1 ys):=q';revert q';cases mc ρ1 with
    |exc c fs=>exact λq'=>q'.elim
    |wall=>exact id
    |ok t=>
     intro q' H5 s5;have R5:=R1'.keep s5;have hacc5:=s5 _ _ (sy _ _ hacc);have rys5:LsR C.W H5 ys ps:=rys.gen (zl.fr (sy.trans s5)) λp _ o h=>(sy.trans s5) _ _ h;cases t with
     |false=>exact nq ⟨hlt,ρ1,ys,ps,R5,hacc5,rys5,hps,nd,q'⟩
     |true=>
      refine nu (he _ _ H5 σ1 ρ1 R5 _ ?_);have q':zE C B H (d0 C.W H) Q ((noX ((me ρ1).bind lI)).bind λy=>if ys.length<sizeLine then lcP mg mc (mLI me) (xs.drop (i+1)) ρ1 (ys++[y])else .wall):=q';revert q';cases me ρ1 with
      |exc c fs=>exact λq'=>q'.elim
      |wall=>exact id
      |ok y=>
       intro q' v6 H6 s6 r6;have q':zE C B H (d0 C.W H) Q ((noX (lI y)).bind λy=>if ys.length<sizeLine then lcP mg mc (mLI me) (xs.drop (i+1)) ρ1 (ys++[y])else .wall):=q';cases ed:lI y with
       |exc c fs=>rw[ed]at q';exact q'.elim
       |wall=>rw[ed]at q';exact q'.elim
       |ok z=>
        rw[ed]at q';obtain⟨kvs,rfl,rfl,hik⟩:=AE ed;have q':zE C B H (d0 C.W H) Q (if ys.length<sizeLine then lcP mg mc (mLI me) (xs.drop (i+1)) ρ1 (ys++[.l kvs])else .wall):=q';split at q'
        .rename_i hz;have R6:=R5.keep s6;obtain⟨p,rfl,hp5,es,hp6,rk⟩:=r6;have hacc6:=s6 _ _ hacc5;have pa:p≠acc:=λz=>by rw[z,hacc5]at hp5;cases hp5
         have fr6:Fr (λ_=>False) H6 (upd H6 acc (.lst (ps.map .ref++[.ref p]))):=λa o h m=>by
          have:a≠acc:=λz=>by
           rcases m with m|m
           .exact m
           .rw[z,hacc6]at h;cases h;exact m
          rw[zc this];exact h
         have hpn:H1 p=none:=by
          cases e:H1 p with
          |none=>rfl
          |some o=>have:zl H1 H5:=R5.same;rw[this _ _ e]at hp5;cases hp5
         have hnp:p∉ps:=λhm=>by obtain⟨es',he'⟩:=rys5.at p hm;rw[he']at hp5;cases hp5
         refine⟨ps.map .ref,hacc6,by rw[u8,rys5.len];exact hz,hlt,ρ1,ys++[.l kvs],ps++[p],R6.wrx (show(lcB B S P H1 acc).xc acc from rfl) (by exact id),?_,?_,?_,?_,q'⟩
         .rw[F8];exact zb
         .refine LsR.gen fr6 (LsR.snoc hik hp6 (Yf hik rk) (rys5.gen (zl.fr s6) λq _ o h=>s6 _ _ h)) λq hq o h=>?_;have:q≠acc:=by
           rcases E9.mp hq with h|h
           .exact(hps q h).1
           .rw[C7.mp h];exact pa
          rw[zc this];exact h
         .intro q hq;rcases E9.mp hq with h|h
          .exact hps q h
          .rw[C7.mp h];exact⟨pa,hpn⟩
         .rw[L6];exact⟨nd,G6.mpr ⟨by simp,List.nodup_nil⟩,λa ha b hb e=>hnp (by rw[<- List.mem_singleton.mp hb,<- e];exact ha)⟩
        .exact q'.elim
  .have e:i=xs.length:=by omega
   subst e;rw[a0A]at q';exact .inl ⟨io'.2,q' _ H' (s1.trans R'.same) ⟨ys,ps,acc,rfl,rfl,zl.none s1 ha,hacc,rys,λp hp=>⟨(hps p hp).1,zl.none s1 (hps p hp).2⟩,nd⟩⟩
def kF:PV->Cell
 |.l kvs=>.l (kvs.map .v)
 |_=>.l []
def ic:∀{vs:Ck},zy W M H xs vs->zK W M A n H (xs.map .v) vs:=by
 induction xs with
 |nil=>intro vs r;unfold zy at r;unfold zK;exact r
 |cons x xs ih=>intro vs r;unfold zy at r;obtain⟨v,q,rfl,r1,r2⟩:=r;rw[C8];unfold zK;exact⟨v,q,rfl,(by unfold qL;exact r1),ih r2⟩
def ie(hRi:∀a∈R,∀o,H' a=some o->¬Imm o):∀{ps:CM}{A:Cm}{G:AH},LsR Z.W H' ys ps->ps.Nodup->(∀p∈ps,p∉R)->HH Z A (hide H' (ps++R)) G->∃A',HH Z A' (hide H' R) (G++ys.map kF)/\Gro Z A G.length (hide H' (ps++R)) A' (G++ys.map kF).length (hide H' R)/\∀j p,ps[j]?=some p->A' (G.length+j)=p:=by
 induction ys with
 |nil=>
  intro ps A G h nd hR hh;cases(show ps=[]from h);refine⟨A,?_,?_,λj p e=>by rw[List.getElem?_nil]at e;cases e⟩
  .rw[a0b,F0];exact hh
  .rw[a0b,F0];exact Gro.refl
 |cons y ys ih=>
  intro ps A G h nd hR hh;obtain⟨p,r,kvs,es,rfl,rfl,hi,hp,rk,hr⟩:=h;have hnd:=G6.mp nd;have hpo:p∉r++R:=λz=>(E9.mp z).elim hnd.1 (hR p B3);have hn:hide H' (p::(r++R)) p=none:=X9 B3;have sm:zl (hide H' (p::(r++R))) (hide H' (r++R)):=WK;have hp':hide H' (r++R) p=some (.lst es):=(kW hpo).trans hp;have rk':zy Z.W (HM Z (exA A G.length p) (G.length+1)) (hide H' (r++R)) kvs es:=by
   refine Yf hi (zy.gen (M:=λ_=>False) (M':=λ_=>False) (H:=H') ?_ (λ_ m _=>m) rk);intro a o h m;have hm:a∉r++R:=λz=>by
    rcases m with m|m
    .exact m
    .rcases E9.mp z with z|z
     .obtain⟨es',he'⟩:=hr.at a z;rw[he']at h;cases h;exact m
     .exact hRi a z o h m
   rw[kW hm];exact h
  have hc:KN Z.W (HM Z (exA A G.length p) (G.length+1)) (exA A G.length p) (G.length+1) (hide H' (r++R)) p (kF (.l kvs)):=⟨es,hp',ic rk'⟩;have h2:=hh.alloc sm hn hc;have hl:(G++[kF (.l kvs)]).length=G.length+1:=by simp
  obtain⟨A',h3,g3,a3⟩:=ih (A:=exA A G.length p) (G:=G++[kF (.l kvs)]) hr hnd.2 (λq hq=>hR q (B4 _ hq)) h2;have el:G++[kF (.l kvs)]++ys.map kF=G++(PV.l kvs::ys).map kF:=by simp
  rw[el]at h3 g3;have g2:Gro Z A G.length (hide H' (p::(r++R))) (exA A G.length p) (G++[kF (.l kvs)]).length (hide H' (r++R)):=by rw[hl];exact Gro.ext sm hn
  refine⟨A',h3,g2.trans g3,λj q e=>?_⟩;cases j with
  |zero=>rw[a0v]at e;cases e;rw[Nat.add_zero,g3.agr _ (by rw[hl];exact P6 _),Yd]
  |succ j=>rw[E8]at e;have:=a3 j q e;rw[hl]at this;rw[<- this];congr 1;omega
def ig(G:AH):PV->HX HV
 |.l ys=>.ok (.g (G.length+ys.length)) ((G++ys.map kF)++[.l ((List.range ys.length).map λj=>.g (G.length+j))])
 |_=>.wall
section
variable {X:Cx}{W:RC}{E:XK}
def mj(h:HH Z A H G)(s:zl H H2)(q:HPx Z E A G.length H (KV' Z Q) (ig G x))(r:d0 Z.W H H2 x v):Q v H2:=by
 obtain⟨ys,ps,l,rfl,rfl,hl,hl2,ds,hps,nd⟩:=r;have s0:zl H (hide H2 (ps++[l])):=λa o e=>by
  have:a∉ps++[l]:=λz=>by
   rcases E9.mp z with z|z
   .rw[(hps a z).2]at e;cases e
   .rw[C7.mp z,hl]at e;cases e
  rw[kW this];exact s a o e
 obtain⟨A',h1,g1,a1⟩:=ie (R:=[l]) (λa ha o e=>by rw[C7.mp ha,hl2]at e;cases e;exact id) ds nd (λp hp z=>(hps p hp).1 (C7.mp z)) (h.keep s0);have hn:hide H2 [l] l=none:=X9 (C7.mpr rfl);have sm:zl (hide H2 [l]) (hide H2 []):=WK;have len1:(G++ys.map kF).length=G.length+ys.length:=by rw[B5,u8]
 have hc:KN Z.W (HM Z (exA A' (G++ys.map kF).length l) ((G++ys.map kF).length+1)) (exA A' (G++ys.map kF).length l) ((G++ys.map kF).length+1) (hide H2 []) l (.l ((List.range ys.length).map λj=>.g (G.length+j))):=by refine⟨ps.map .ref,(kW (by simp)).trans hl2,?_⟩;rw[show((List.range ys.length).map λj=>HV.g (G.length+j))=((List.range ys.length).map λj=>G.length+j).map .g from by rw[D3];rfl];refine U5 (by rw[u8,D6,ds.len]) λi j p e1 e2=>?_;rw[D5]at e1;obtain⟨k,e3,rfl⟩:=v4.mp e1;have hk:=(C4.mp e3);obtain⟨k1,k2⟩:=hk;rw[O6]at k2;subst k2;rw[D6]at k1;rw[len1];exact⟨by omega,by rw[Ye (by omega)];exact a1 i p e2⟩
 have h2:=h1.alloc sm hn hc;have len2:((G++ys.map kF)++[Cell.l ((List.range ys.length).map λj=>HV.g (G.length+j))]).length=(G++ys.map kF).length+1:=by rw[B5];rfl
 have g2:Gro Z A' (G++ys.map kF).length (hide H2 [l]) (exA A' (G++ys.map kF).length l) ((G++ys.map kF)++[Cell.l ((List.range ys.length).map λj=>HV.g (G.length+j))]).length (hide H2 []):=by rw[len2];exact Gro.ext sm hn
 have g:=((Gro.same (Z:=Z) (A:=A) (n:=G.length) s0).trans g1).trans g2;rw[h9]at h2 g;refine q _ H2 h2 g _ ?_;unfold qL;rw[len2,<- len1];exact⟨P6 _,by rw[Yd]⟩
variable {fr':Bool}{S:Cb}{yM tg elt:Co}{ifs:Ci}{me:ME}{mc:MT}{mg:MG}{mi:MI}{pos bL py:Pos}{i j:Nat}{scope:Scope}{y:Str}
end
section
variable {X:Cx}
end
section
variable {X:Cx}{W:RC}{E:XK}{o e f:Co}{m1 m2:HME}{ma:HMA}{ky p pos:Pos}
end
section
variable {X:Cx}{C:LC}{S:Cb}{w:Bool}{e:Co}{lo hi:Dj}{m:ME}{ml mh:MO}{p2 pos:Pos}
end
section
variable {X:Cx}{pins:Ca}{σ:St}{H:Hp}{s:Ce}{h':Heap}{ch:CM}{T:Addr}{o:HO}{t':Nat}
end
section
variable {P:Cq}{w:Cv}{K:CO}{elts:Ci}{kk:Nat}{tp:Pos}
end
section
variable {X:Cx}{C:LC}{S:Cb}{elts:Ci}{kk:Nat}{tp p pos:Pos}{e a b:Co}{m:ME}{ms:MA}{cc:Bool}
end
def WM(kvs:Cu)(y z:PV):Out PV:=match pk y with
 |some k=>.ok ((zq kvs k).getD z)
 |none=>.wall
def ij(m1 m2 m3:ME):ME:=λρ=>(m1 ρ).bind λx=>match x with
 |.d kvs=>(m2 ρ).bind λy=>(m3 ρ).bind (WM kvs y)
 |_=>.wall
def oM(hu:X.A.units+1<cLine)(h1:EM X C S w1 o m1)(h2:EM X C S w2 e m2)(h3:EM X C S false f m3)(m:M2 X o "get" ky e f Zd):EM X C S false (.Call (.Attribute o "get" ky) [e,f] [] Zd) (ij m1 m2 m3):=λhK=>by
 obtain⟨ta,a1,a2⟩:=h1 hK;obtain⟨tb,b1,b2⟩:=h2 hK;obtain⟨tc,c1,c2⟩:=h3 hK;refine⟨_,gs hu a1 b1 c1 m,λB P H σ ρ R Q q=>a2 B P H σ ρ R _ (yx q λx v H1 s1 r1 q1=>?_)⟩;cases x with
 |d kvs=>
  obtain⟨p,es,rfl,_,hd,rk⟩:=r1.weak;refine⟨p,rfl,.inl ⟨es,hd⟩,b2 B P H1 σ ρ (R.keep s1) _ (yx (o:=m2 ρ) (f:=λy=>(m3 ρ).bind (WM kvs y)) q1 λy u H2 s2 r2 q2=>c2 B P H2 σ ρ ((R.keep s1).keep s2) _ (yx (o:=m3 ρ) (f:=WM kvs y) q2 λz t H3 s3 r3 q3=>?_))⟩;cases ek:pk y with
  |none=>
   have e:WM kvs y z=.wall:=by unfold WM;rw[ek]
   rw[e]at q3;exact q3.elim
  |some k=>
   have e:WM kvs y z=.ok ((zq kvs k).getD z):=by unfold WM;rw[ek]
   rw[e]at q3;have eu:=ba r2.weak ek;subst eu;have hd3:Rd H3 p (.dK es):=dR s3 (dR s2 hd);refine⟨KC es k,.inl ⟨es,k,hd3,rfl,rfl⟩,?_⟩;cases ed:zq kvs k with
   |none=>rw[ed]at q3;rw[rk.sV ed];exact q3 _ H3 (zl.refl _) r3
   |some x=>rw[ed]at q3;obtain⟨v,ev,rv⟩:=rk.get ed;rw[ev];exact q3 _ H3 (zl.refl _) (RV.of ((rv.same s2).same s3))
 |_=>exact q1.elim
section
variable {X:Cx}{C:LC}{S:Cb}{elts:Ci}{kk:Nat}{tp p pos:Pos}{a b:Co}{m1 m2:ME}
end
section
variable {X:Cx}{W:RC}{E:XK}{e:Co}{es:Ci}{pos p:Pos}{ms:HMA}{x:Str}{k:Nat}{f:Addr}{fd:CA}{ps:Cn}{g:Cw}{ws:Cj}
end
section
variable {X:Cx}{W:RC}{E:XK}{a b:Co}{rest:Ci}{pos:Pos}{m1 m2:HME}
end
section
variable {X:Cx}{W:RC}{E:XK}{fr' fr:Bool}{S:Cb}{yM tg elt:Co}{ifs:Ci}{m me:ME}{mc:MT}{mg:MG}{mi:MI}{pos bL py:Pos}{i j:Nat}{scope:Scope}{y:Str}
end
section
variable {X:Cx}{C:LC}{S S' S1 S2 S3 Sb Sc:Cb}{j:Nat}{pos:Pos}{m1 m2 m3:MS}
end
section
variable {X:Cx}{W:RC}{E:XK}{e:Co}{es:Ci}{pos p pos':Pos}{ms:HMA}{m:HME}{x y:Str}{k n i j:Nat}{f:Addr}{fd:CA}{ps:Cn}{g:List HV->AH->HX HV}{m1 m2 m3:HMS}
end
section
variable {X:Cx}{W:RC}{E:XK}{a b:Co}{pos:Pos}{m1 m2:HME}
end
section
variable {X:Cx}{W:RC}{E:XK}{e:Co}{es:Ci}{pos p:Pos}{ms:MA}{x:Str}{k:Nat}{f:Addr}{fd:CA}{ps:Cn}{g:Cw}{ws:Cj}{S:Cb}{fr:Bool}
end
section
variable {X:Cx}{W:RC}{E:XK}{fr' fr:Bool}{S:Cb}{yM tg elt:Co}{ifs:Ci}{m me:ME}{mc:MT}{mg:MG}{mi:MI}{pos bL py:Pos}{i j:Nat}{scope:Scope}{y:Str}
end
section
variable {X:Cx}{W:RC}{e:Co}{es:Ci}{ms:HMA}{g:List HV->AH->HX HV}{k n:Nat}{f:Addr}{fd:CA}{ps:Cn}{x:Str}{p pos:Pos}
end
section
variable {X:Cx}
end
section
variable {X:Cx}{C:LC}{S:Cb}{x:Str}{e:Co}{es:Ci}{ws:Cj}{ms:MA}{pos p:Pos}
end
section
variable {X:Cx}{W:RC}{E:XK}{e:Co}{ms:HMA}{p pos:Pos}
end
section
variable {X:Cx}{W:RC}{E:XK}{o:Co}{m:HME}{pos ky:Pos}{mn:Str}
end
section
variable {prog:Cq}{w:Cv}{A:Cz}{it t:Addr}{items:CG}{i:Nat}{x:Value}
end
section
variable {prog:Cq}{w:Cv}{A:Cz}{z TI TO i1 i2 l1 l2:Addr}{x y a b:Value}{B1 N1 B2 N2:Heap->Prop}
end
section
variable {prog:Cq}{w:Cv}{A:Cz}{z TI TO i1 i2 l1 l2:Addr}{xs ys:CG}{x y a b:Value}{i:Nat}{s:Ce}{Q:Option Value->Shared->Prop}{E:B_}
end
section
variable {prog:Cq}{w:Cv}{A:Cz}{E:B_}{s:Ce}{l1 l2:Addr}{xs ys:CG}{Q:B_}
end
section
variable {P:Cq}{w:Cv}{K:CO}{elts:Ci}{kk:Nat}{tp:Pos}
end
section
variable {X:Cx}{C:LC}{S:Cb}{elts:Ci}{kk:Nat}{tp p pos:Pos}{a b:Co}{ms:MA}{cc:Bool}
end
section
variable {X:Cx}{C:LC}{S:Cb}{yM tg elt:Co}{ifs:Ci}{me:ME}{mc:MT}{mg:MG}{pos ky Zd:Pos}{i:Nat}{scope:Scope}
end
section
variable {prog:Cq}{w:Cv}{A:Cz}{E:B_}{s:Ce}{K:Type}[DecidableEq K] {knd:PySem.KeyKind prog w K}
def WN{Q:List Value->Shared->Prop}{d:Addr}{kvs:List (K×Value)}{ep:Nat}(hh:A.handled=none)(hd:(d==sysModules)=false)(hm:s.heap.DictAt knd d kvs ep)(hn:kvs.length<=sizeLine)
  (hQ:∀h' tk acc',(∀b o,s.heap.get? b=some o->h'.get? b=some o)->s.heap.objs.size<=h'.objs.size->ItemsOf (λi v=>∃k x,kvs[i]?=some (k,x)/\knd.is k v=true) acc' kvs.length->Q acc'.toList { s with heap:=h',toks:=tk }):
  wpAny (model prog w) A (collect (.ref d)) Q E s:=by
 have l1:d<s.heap.objs.size:=by obtain⟨o,_,ho,_⟩:=hm;exact C0 ho
 unfold collect;refine f8 (wpAny_runValue (N6 PySem.F.entry_proto_collect ?_));rw[L7 PySem.F.plain_proto_collect _];show wpAny _ A.in1 (newList [] >>= λl=>again (.builtin "list.__iadd__" ⟨[l,.ref d],[]⟩)) _ _ s;refine f8 (S5 ?_);refine B8 ⟨M3 a1z _,N6 PySem.F.entry_list_iadd ?_⟩;rw[L7 a1z _];have hS₂:(s.heap.push { cls:=.type "list",data:=.seq ([]:List Value).toArray }).get? s.heap.objs.size=some { cls:=.type "list",data:=.seq ([]:List Value).toArray }:=E2 _ rfl;have kp:∀b o,s.heap.get? b=some o->(s.heap.push { cls:=.type "list",data:=.seq ([]:List Value).toArray }).get? b=some o:=λb o e=>B6 _ e;show wpAny _ A.in1 (Builtin.List.listExtendWith (.ref s.heap.objs.size) (.ref d) (.ref s.heap.objs.size)) _ _ _;generalize(s.heap.push { cls:=.type "list",data:=.seq ([]:List Value).toArray })=h2 at hS₂ kp;have hm2:h2.DictAt knd d kvs ep:=hm.at' λo e=>kp _ _ e;have hT2:∀{s':Ce},s'.heap.DictAt knd d kvs ep->s'.TypeIs (.ref d) "dict":=λz=>z.dictOf.typeIs;unfold Builtin.List.listExtendWith;refine f8 (S8 (T:="dict") (hT2 hm2) ?_);have hne1:s.heap.objs.size≠d:=M9 l1;have h1:Builtin.List.listSameRef (.ref s.heap.objs.size) (.ref d)=false:=by simp[Builtin.List.listSameRef,hne1]
 rw[if_neg (by rw[h1];decide)];refine f8 (a1d hd hm2 ?_);have kp2:∀b o,h2.get? b=some o->(h2.push { cls:=.type "dict_keyiterator",data:=.fields #[.ref d,.int 0 0,.int kvs.length 0,.int ep 0] }).get? b=some o:=λb o e=>B6 _ e;have hm3:(h2.push { cls:=.type "dict_keyiterator",data:=.fields #[.ref d,.int 0 0,.int kvs.length 0,.int ep 0] }).DictAt knd d kvs ep:=hm2.at' λo e=>kp2 _ _ e;refine f8 (G7 (dG (hT2 hm3) ?_));rw[if_pos (by decide)];refine f8 (a0O ?_);unfold Builtin.List.listTouch Builtin.List.listUpdate;have s2:s.heap.objs.size<h2.objs.size:=C0 hS₂;have dn:d≠h2.objs.size:=D2 (a0c l1 s2);have hS3:=kp2 _ _ hS₂;have it3:(h2.push { cls:=.type "dict_keyiterator",data:=.fields #[.ref d,.int 0 0,.int kvs.length 0,.int ep 0] }).get? h2.objs.size=some { cls:=.type "dict_keyiterator",data:=.fields #[.ref d,.int 0 0,.int kvs.length 0,.int ep 0] }:=E2 _ rfl;have kq:∀b o,s.heap.get? b=some o->(h2.push { cls:=.type "dict_keyiterator",data:=.fields #[.ref d,.int 0 0,.int kvs.length 0,.int ep 0] }).get? b=some o:=λb o e=>kp2 _ _ (kp b o e);generalize(h2.push { cls:=.type "dict_keyiterator",data:=.fields #[.ref d,.int 0 0,.int kvs.length 0,.int ep 0] })=h3 at hS3 it3 kq hm3;refine f8 (f8 (O1 hS3 rfl ?_));have hS4:=G0 (Obj.mapSeq (λx:Array Value=>x.push Value.none)) hS3 rfl;refine O1 hS4 rfl ?_;have hS5:=G0 (Obj.mapSeq (λx:Array Value=>x.pop)) hS4 rfl;have ku:∀b o,b≠s.heap.objs.size->h3.get? b=some o->((h3.update s.heap.objs.size (Obj.mapSeq λx=>x.push Value.none)).update s.heap.objs.size (Obj.mapSeq λx=>x.pop)).get? b=some o:=λb o hb e=>
  (D8 _ _ (Ne.symm hb)).trans ((D8 _ _ (Ne.symm hb)).trans e)
 have hm5:=hm3.at' (h':=((h3.update s.heap.objs.size (Obj.mapSeq λx=>x.push Value.none)).update s.heap.objs.size (Obj.mapSeq λx=>x.pop))) λo e=>ku _ _ (Ne.symm hne1) e;have it5:=ku _ _ (M9 s2) it3;have k5:∀b o,s.heap.get? b=some o->((h3.update s.heap.objs.size (Obj.mapSeq λx=>x.push Value.none)).update s.heap.objs.size (Obj.mapSeq λx=>x.pop)).get? b=some o:=λb o e=>ku b o (D2 (C0 e)) (kq b o e);generalize((h3.update s.heap.objs.size (Obj.mapSeq λx=>x.push Value.none)).update s.heap.objs.size (Obj.mapSeq λx=>x.pop))=h5 at hS5 hm5 it5 k5;refine B8 ⟨M3 a0p _,a0M (Walks.dictKeys (knd:=knd) (A:=A.in1) hh h2.objs.size d dn kvs ep).toS hn s.heap.objs.size (by simp;exact⟨D2 s2,hne1⟩) _ kvs.length 0 _ _ _ rfl (F7 _) (show _/\_ from⟨⟨_,it5,rfl,rfl⟩,hm5⟩) hS5 (a2l _) λs' acc' c' hmv hS' hacc=>?_⟩;rw[a05 hmv]at hS' ⊢;show wpAny _ A (load s.heap.objs.size >>= _) _ _ _;refine f8 (a1e hS' ?_);refine B8 (hQ s'.heap s'.toks acc' (λb o e=>hmv.heap b o (λhmem=>?_) (k5 b o e)) (a0a (C0 hS')) hacc);have:=C0 e;rcases C5.mp hmem with e'|hm
 .exact D2 this e'
 .exact D2 (a0c this s2) (C7.mp hm)
end
section
variable {X:Cx}
end
section
variable {X:Cx}{C:LC}{S:Cb}{e:Co}{ws:Cj}{ms:MA}{pos p:Pos}
end
section
variable {Z:HC}{A:Cm}{H:Hp}{G:AH}
end
section
variable {X:Cx}{C:LC}{S:Cb}{e:Co}{es:Ci}{ms:MA}{g:List HV->AH->HX HV}{k n:Nat}{f:Addr}{fd:CA}{ps:Cn}{x:Str}{p pos:Pos}{ws:Cj}
end
section
variable {CX:CXT}{P:Cq}{w:Cv}{K:Cr}{mg:Cc}{base:Heap}{k:Nat}{f:Addr}{name qual x:Str}{params:Arguments}{body:Co}{scope:Scope}{pm ctv:Value}{c':Addr}{oc:Obj}{ws:CG}{tq:Tok}{N:Cn}{sp:Sp}
end
def Inv.grow(I:Inv X pins σ H s)(hP:H P=some (.tbl ps))(k:∀b u,b≠P->s.heap.get? b=some u->h'.get? b=some u)(hT:h'.get? P=some { cls:=.none,data:=.fields (ps++more) }):Inv X pins σ (upd H P (.tbl (ps++more))) { s with heap:=h',toks:=t' }:=by
 have ne:∀b,H b=none->b≠P:=λb n q=>by rw[q,hP]at n;cases n
 have ne2:∀b u,H b=some u->(∀qs,u≠.tbl qs)->b≠P:=λb u e n q=>by rw[q,hP]at e;cases e;exact n _ rfl
 refine I.un ⟨λb o e n _ _=>k b o (ne b n) e,λb o e n _ _=>⟨o.slots,k b o (ne b n) e⟩,λb o e n _=>by rw[zc (ne b n)];exact n,λb o e _=>?_,λb xs e=>by rw[zc (ne2 b _ e λqs z=>by cases z)];exact e,λb o u e=>by rw[zc (ne2 b _ e λqs z=>by cases z)];exact e,λb qs e=>?_⟩ λb u e=>?_
 .by_cases c:b=P
  .rw[c];exact⟨_,hT⟩
  .exact⟨o,k b o c e⟩
 .by_cases c:b=P
  .rw[c,hP]at e;cases e;exact⟨more,by rw[c];exact zb⟩
  .exact⟨#[],by rw[zc c,e];simp⟩
 .by_cases c:b=P
  .rw[c,zb]at e;cases e;rw[c];exact hT
  .rw[zc c]at e;refine(I.hok b u e).fP (λd v hd q=>k d v ?_ q) (λd q=>by rw[zc (ne2 d _ q λqs z=>by cases z)];exact q) λd xs q=>by rw[zc (ne2 d _ q λqs z=>by cases z)];exact q
   rcases hd with z|z
   .rw[z];exact c
   .exact ne2 d _ z λqs y=>by cases y
def oN{K:CO}{H:Hp}{P l:Addr}{ps:CG}{o:HO}{ys:Ck}(h:SqL K H l ys)(hP:H P=some (.tbl ps)):SqL K (upd H P o) l ys:=by
 have ne:∀u,H l=some u->(∀qs,u≠.tbl qs)->l≠P:=λu e n q=>by rw[q,hP]at e;cases e;exact n _ rfl
 rcases h with h|h
 .rcases h with h|⟨o',h⟩
  .exact .inl (.inl (by rw[zc (ne _ h λqs z=>by cases z)];exact h))
  .exact .inl (.inr ⟨o',by rw[zc (ne _ h λqs z=>by cases z)];exact h⟩)
 .exact .inr h
section
variable {X:Cx}{k:Nat}{c P:Addr}{params:Arguments}{body e:Co}{scope:Scope}{lpos p pos kpos:Pos}{x:Str}{N:Cn}{sp:Sp}{t:TA}
end
def oO(P:Addr)(H:Hp):Prop:=H P=some (.tbl #[])/\∀b,b=P\/H b=none\/∃o xs,H b=some (.frz o (.lst xs))
structure mq(base:Heap)(mg:Cc)(c P:Addr):Prop where
 hd:CodeHd base c P
 bl:base.BuiltinsAt mg P
 ne:mainGlobals≠P
def d4{P:Cq}{w:Cv}{K:CO}{mg mb:Cc}{CX:CXT}{k:Nat}{fa a c P₀:Addr}{fd:CA}{x:Str}{sp:Sp}{s₁:Ce}{vs:Cg}{ns:CC}
  (KX:K.In s₁.heap) (hns:s₁.heap.Ns mainGlobals mg) (hb:s₁.heap.Ns builtinsNs mb) (hbb:∀x:Str,x≠"__name__"->mb x=bootBuiltins x) (hlim:s₁.heap.NoLimit) (hg:s₁.gens = #[])
  (ha:s₁.heap.get? a=some { cls:=.type "list",data:=.seq vs.toArray }) (hi:IntsAre vs ns) (hl:ns.length<=sizeLine) (hr:jd k callerA)
  (hC:CodeHd s₁.heap c P₀) (hT:s₁.heap.get? P₀=some (tabObj #[])) (hnt:noTabs K=true) (hbm:∃bm ob,mg "__builtins__"=some (.ref bm)/\bm≠builtinsNs/\s₁.heap.get? bm=some ob/\ob.cls=.type "module"/\ob.dict=some builtinsNs/\ob.data=.plain)
  (F:∀base:Heap,K.In base->base.Ns mainGlobals mg->mq base mg c P₀->qQ P w K mg base CX k fa fd [x] sp) (hbind:∀(s:Ce)(u:Value),BindsTo s fd ⟨[u],[]⟩ [(x,u)])
  (hsp:∀H:Hp,oO P₀ H->SqL K H a (ns.map V.int)->sp [.ref a] H (λv _=>v=.bl true) λ_ _ _=>False)
  (hCX:∀H e s',CX [] H s₁ (λ_ _ _=>False) e s'->False):
  codeAny (model P w) callerA (.call (.ref fa) ⟨[.ref a],[]⟩) (λr s'=>r=.ok (.ret (.bool true))/\OldK s₁.heap s'.heap/\s'.os=s₁.os/\AllBare s'.gens) s₁:=by
 have rv:=Wi hi;have lenV:=hi.length;have aP:a≠P₀:=λq=>by rw[q,hT]at ha;cases ha
 have gP:mainGlobals≠P₀:=λq=>by obtain⟨o,es,ep,e,hd,_⟩:=hns;rw[q,hT]at e;cases e;cases hd
 have core:∀H:Hp,oO P₀ H->SqL K H a (ns.map V.int)->HOk P w H s₁.heap->(∀b,H b≠none->b=a\/b=P₀)->(H a≠none->K.lookup a=none)->
   codeAny (model P w) callerA (.call (.ref fa) ⟨[.ref a],[]⟩) (λr s'=>r=.ok (.ret (.bool true))/\OldK s₁.heap s'.heap/\s'.os=s₁.os/\AllBare s'.gens) s₁:=by
  intro H hO hS hok hA hK;have base_of:∀{b:Addr}{o:Obj},s₁.heap.get? b=some o->H b=none->(fQ s₁.heap H).get? b=some o:=λe n=>f_ e n;have noC:∀{b:Addr}{o:Obj},s₁.heap.get? b=some o->o.cls≠.type "list"->o.cls≠.none->H b=none:=λ{b o} e d1 d2=>by
   cases q:H b with
   |none=>rfl
   |some u=>
    rcases hA b (by rw[q];simp)with e'|e'
    .subst e';rw[ha]at e;cases e;exact absurd rfl d1
    .subst e';rw[hT]at e;cases e;exact absurd rfl d2
  have noA:∀{b:Addr}{o:Obj}{es:Array DictEntry}{ep:Nat},s₁.heap.get? b=some o->o.data=.dict es ep->H b=none:=λ{b o es ep} e d=>by
   cases q:H b with
   |none=>rfl
   |some u=>
    rcases hA b (by rw[q];simp)with e'|e'
    .subst e';rw[ha]at e;cases e;have d':Data.seq vs.toArray _=Data.dict es ep:=d;cases d'
    .subst e';rw[hT]at e;cases e;have d':Data.fields #[]=Data.dict es ep:=d;cases d'
  have nsK:∀{b:Addr}{m:Cc},s₁.heap.Ns b m->(fQ s₁.heap H).Ns b m:=λ{b m} ⟨o,es,ep,e,d,r⟩=>⟨o,es,ep,base_of e (noA e d),d,r⟩;have hKb:K.In (fQ s₁.heap H):=λb o e=>base_of (KX b o e) (by
   cases q:H b with
   |none=>rfl
   |some u=>
    rcases hA b (by rw[q];simp)with e'|e'
    .subst e';rw[hK (by rw[q];simp)]at e;cases e
    .subst e';have h1:=KX _ _ e;rw[hT]at h1;cases h1;have h2:=P5.mp hnt _ (mem_of_lookupK e);exact absurd (show false=true from h2) C9)
  have hM:Mod K mg (fQ s₁.heap H):=⟨hKb,nsK hns,⟨mb,nsK hb,hbb⟩,let⟨mc,h1,h2⟩:=hlim;⟨mc,nsK h1,h2⟩⟩;have tb:mq (fQ s₁.heap H) mg c P₀:=by
   refine⟨?_,?_,gP⟩
   .obtain⟨o,vs,file,tf,flags,tg,inF,text,tt,e,e2,r⟩:=hC;exact⟨o,vs,file,tf,flags,tg,inF,text,tt,base_of e (noC e (by rw[e2];decide) (by rw[e2];exact λz=>by cases z)),e2,r⟩
   .obtain⟨bm,ob,b1,b2,b3,b4,b5,b6⟩:=hbm;refine⟨bm,ob,b1,b2,λq=>?_,λq=>?_,base_of b3 (noC b3 (by rw[b4];decide) (by rw[b4];exact λz=>by cases z)),b4,b5,b6⟩
    .obtain⟨o,es,ep,e,hd,_⟩:=hns;rw[q,e]at b3;cases b3;rw[hd]at b6;cases b6
    .rw[q,hT]at b3;cases b3;cases b4
  have e0:fT P w K mg (fQ s₁.heap H) callerA [] s₁ H:=⟨rfl,hM,λb o e=>mX e,a2a (bO _ _),trivial,λb hb=>absurd (show b∈([]:List Addr)from hb) (by simp),hok,.of_eq hg⟩;refine a0r ((F _ hKb (nsK hns) tb).run callerA [] s₁ H ⟨[.ref a],[]⟩ [.ref a] [.ref a] _ _ hr e0 (hbind s₁ (.ref a)) (.cons rfl .nil) (hsp H hO hS)) λr s' h=>?_;cases r with
  |error e=>exact(hCX H e s' h).elim
  |ok fl=>
   cases fl with
   |next=>exact False.elim h
   |brk=>exact False.elim h
   |cont=>exact False.elim h
   |ret u=>
    obtain⟨v,H',os,bare,un,hok',r',q⟩:=h;have q':v=.bl true:=q;subst q';obtain rfl:u=Value.bool true:=r';have keep:∀b o,b≠P₀->s₁.heap.get? b=some o->s'.heap.get? b=some o:=λb o hne e=>by
     cases q:H b with
     |none=>exact un.keep b o e q (by intro z;exact absurd (show b∈([]:List Addr)from z) (by simp)) (by simp)
     |some u=>
      rcases hO.2 b with z|z|⟨ob,xs,z⟩
      .exact absurd z hne
      .rw[q]at z;cases z
      .have z2:=un.fL b ob _ z;obtain⟨e1,_⟩:=hok b _ z;obtain⟨e2,_⟩:=hok' b _ z2;rw[e]at e1;cases e1;exact e2
    obtain⟨more,hm⟩:=un.f9 P₀ _ hO.1;have hP':s'.heap.get? P₀=some { cls:=.none,data:=.fields (#[]++more) }:=hok' P₀ _ hm;refine⟨rfl,⟨λb o e=>?_,λb o e=>?_⟩,os,bare⟩
    .by_cases hbP:b=P₀
     .subst hbP;rw[hT]at e;cases e;exact .inr (.inl ⟨(hC.tab hT).isCodeTable,rfl,#[],more,rfl,hP'⟩)
     .exact .inl (keep b o hbP e)
    .by_cases hbP:b=P₀
     .subst hbP;exact⟨_,hP'⟩
     .exact⟨o,keep b o hbP e⟩
 have hTo:yk P w (λb=>if b=P₀ then some (.tbl #[])else none) s₁.heap P₀ (.tbl #[]):=hT;cases hk:K.lookup a with
 |some o=>
  have e:=KX a o hk;rw[ha]at e;cases e;refine core (λb=>if b=P₀ then some (.tbl #[])else none) ⟨if_pos rfl,λb=>?_⟩ (.inr ⟨_,vs.toArray,_,hk,rfl,rfl,rfl,by rw[D9,lenV];exact hl,by simpa using rv⟩) (λb u z=>?_) (λb z=>?_) λz=>absurd (if_neg aP) z
  .by_cases hbP:b=P₀
   .exact .inl hbP
   .exact .inr (.inl (if_neg hbP))
  .by_cases hbP:b=P₀
   .have z':=(if_pos hbP).symm.trans z;cases z';subst hbP;exact hT
   .have z':=(if_neg hbP).symm.trans z;cases z'
  .by_cases hbP:b=P₀
   .exact .inr hbP
   .exact absurd (if_neg hbP) z
 |none=>
  refine core (λb=>if b=a then some (.frz { cls:=.type "list",data:=.seq vs.toArray } (.lst (ns.map V.int)))else if b=P₀ then some (.tbl #[])else none) ⟨(if_neg (Ne.symm aP)).trans (if_pos rfl),λb=>?_⟩ (.inl (.inr ⟨{ cls:=.type "list",data:=.seq vs.toArray },if_pos rfl⟩)) (λb u z=>?_) (λb z=>?_) λ_=>hk
  .by_cases hb:b=a
   .exact .inr (.inr ⟨_,_,if_pos hb⟩)
   .by_cases hbP:b=P₀
    .exact .inl hbP
    .exact .inr (.inl ((if_neg hb).trans (if_neg hbP)))
  .by_cases hb:b=a
   .have z':=(if_pos hb).symm.trans z;cases z';subst hb;exact⟨ha,by rw[u8];exact hl,vs,_,rv,ha⟩
   .have z':=(if_neg hb).symm.trans z;by_cases hbP:b=P₀
    .have z'':=(if_pos hbP).symm.trans z';cases z'';subst hbP;exact hT
    .have z'':=(if_neg hbP).symm.trans z';cases z''
  .by_cases hb:b=a
   .exact .inl hb
   .by_cases hbP:b=P₀
    .exact .inr hbP
    .exact absurd ((if_neg hb).trans (if_neg hbP)) z
def ik{l:OpenLaw}{n k:Nat}{q:Cq}{loose:Cn}{XP:(Str->Option Value)->Heap->Prop}{YP:World->Heap->Prop}{d d':DefRec}{K:Params->Frag}{CX:World->CXT}{sp:World->Addr->Sp}{x y:Str}
  (hn:l.most=some n) (hn2:n<=sizeLine) (hdf:d.params.defaults=[]) (hr:jd k callerA)
  (hY:∀(w:Cv)(h:Heap),YP w h->(K w.params).In h) (hy:(recsOf q).find? (λe=>e.name==y)=some d')
  (F:∀(w:Cv)(mg:Cc)(fa:Addr)(h:Heap),(K w.params).In h->h.Ns mainGlobals mg->mg d.name=some (.ref fa)->
   ∃(fd:CA)(c P:Addr),tabIn (K w.params) y=some (c,P)/\noTabs (K w.params)=true/\(∀(s:Ce)(u:Value),BindsTo s fd ⟨[u],[]⟩ [(x,u)])/\
    ∀base:Heap,(K w.params).In base->base.Ns mainGlobals mg->mq base mg c P->qQ l.prog w (K w.params) mg base (CX w) k fa fd [x] (sp w P))
  (hsp:∀(w:Cv)(P:Addr)(H:Hp)(a:Addr)(ns:CC),ns.length<=n->oO P H->SqL (K w.params) H a (ns.map V.int)->sp w P [.ref a] H (λv _=>v=.bl true) λ_ _ _=>False)
  (hCX:∀(w:Cv)(H:Hp)(s:Ce)(e:Value)(s':Ce),CX w [] H s (λ_ _ _=>False) e s'->False):
  WalkO q loose XP YP l.row.toRowW d [] (λf vs=>PySem.call f vs):=by
 refine Att.Xx hn hdf λw s₀ s₁ mg mb fa o pm cd doc a vs ns G Y ho hd hcd hmg hobj hints hlen hg=>?_;have KX:=hY w _ Y;obtain⟨fd,c,P,ht,hnt,hb,hF⟩:=F w mg fa _ KX G.T.g hmg;obtain⟨hC,hT⟩:=tab_of G.T KX hy ht;exact d4 KX G.T.g G.T.b G.T.builtins G.T.nolimit hg hobj hints (E3 hlen hn2) hr hC hT hnt G.T.bmain hF hb (λH hO hS=>hsp w P H a ns hlen hO hS) λH e s'=>hCX w H s₁ e s'
def uG{K:CO}{x:Str}{f c P:Addr}{fd:CA}{oc oc':Value}{od od':CH}{sl sl':CB}{vs:CG}(h1:nsIn K mainGlobals x=some (some (.ref f)))(h2:K.lookup f=some ⟨oc,od,.func fd,sl⟩)(h3:fd.code=.ref c)(h4:K.lookup c=some ⟨oc',od',.fields vs,sl'⟩)(h5:vs[11]?=some (.ref P)):tabIn K x=some (c,P):=by unfold tabIn;rw[h1];dsimp only;rw[h2];dsimp only;rw[h3];dsimp only;rw[h4];dsimp only;rw[h5]
def bK(n:Nat)(m:ME)(xs:Cy):Out PV:=match m (xs.map some++List.replicate (n-xs.length) none)with
 |.ok y=>.ok y
 |_=>.wall
def il(hK:X.K=W.K)(hN:N.length=n)(hn:ws.length<=n)(h:EM X ⟨W,E,false⟩ (Vf ws n) false body m)(q:lsp W false ws (bK n m) vs H Q E):∃te,PE X body te/\te (start N vs) H Q:=by
 subst hN;obtain⟨M,xs,ha,q⟩:=q;obtain⟨te,t1,t2⟩:=h hK;refine⟨te,t1,t2 (c_ H M) _ H _ _ (Wt ha hn) _ ?_⟩;unfold bK at q;revert q;cases m (xs.map some++List.replicate (N.length-xs.length) none)with
 |exc c fs=>exact λq=>q.elim
 |wall=>exact id
 |ok y=>intro q v H' s r;refine q v H' s ?_;unfold RtV;rw[if_neg C9];exact r.rep.sub λa m _=>m.1.1
section
variable {X:Cx}{W:RC}{E:XK}{k:Nat}{c P:Addr}{params:Arguments}{body e:Co}{scope:Scope}{lpos p pos kpos:Pos}{x:Str}{N:Cn}{ms:HMA}{g:Cw}{wk:Bool}
end
section
variable {P:Cq}{w:Cv}{K:CO}{mg:Cc}{base:Heap}
def oP{x qual:Str}{st:CV}{f c:Addr}{fd:CA}{N ps:Cn}{k n l:Nat}{W:RC}{ms:HMS}(F:Fun K x qual st f fd)(hcode:fd.code=.ref c)(S:zr N ps (zg st))(hW:K=W.K)(hl:ps.length=l)(hN:N.length=n)
  (h:∀(A:Cz)(outer:List Env)(s:Ce)(H:Hp)(E:XK),jd k (A.deeper (envOfC qual (zg st) s.heap.objs.size f (.ref c)))->HSs (thr (aT (CXe P w) P w K mg base N qual (zg st) f (.ref c) A outer s H E) E) W E (kO st) ms):
  qQ P w K mg base (CXe P w) (k+1) f fd ps (hsp W l (f7 n ms)):=by
 subst hN hl;obtain⟨oc,od,kV,doc,pm,an,cdv,ct,osl,rfl,lk,hcd⟩:=F.ex;have e:cdv=.ref c:=hcode;subst e;refine rW lk hcd S X3 λA outer s H vs Q E hr ⟨Z,A',G,xs,hZ,hl,hh,r,q⟩=>?_;obtain⟨ts,t1,t2⟩:=h A outer s H E hr hW;refine⟨ts,t1.sD λv s h=>lD h,t2 Z hZ A' H _ _ G (U2 hh r) _ ?_⟩;unfold f7 at q;revert q;cases ms (xs.map some++List.replicate (N.length-xs.length) none) G with
 |exc c fs G'=>exact id
 |wall=>exact id
 |nx ρ' G'=>exact λq A2 H2 σ2 R2 g2=>q A2 H2 R2.toHH g2 .non rfl
 |rt y G'=>exact λq A2 H2 v h2 g2 rv=>q A2 H2 h2 g2 v rv
 |bk ρ' G'=>exact λq=>q.elim
 |ct ρ' G'=>exact λq=>q.elim
end
def ip(hT:H (W.cls 1000)=some (.tbl #[]))(hS:SqL W.K H p (ns.map V.int))(h:∃G,g [.v (.sc ns)] [.y true]=.ok (.v (.b true)) G)(k:∀H',Q (.bl true) H'):hsp W 1 g [.ref p] H Q E:=by
 obtain⟨G,h⟩:=h;have np:∀{u:HO},H p=some u->(∀ps,u≠.tbl ps)->W.cls 1000≠p:=λe n z=>by rw[<- z,hT]at e;cases e;exact n _ rfl
 refine⟨⟨W,λb=>if b=W.cls 1000 then none else H b,λ_=>True⟩,λ_=>W.cls 1000,[.y true],[.v (.sc ns)],rfl,rfl,⟨λa o e=>?_,λk c e=>?_,λj k hj hk _=>?_,λk _=>if_pos rfl⟩,⟨.ref p,[],rfl,⟨p,rfl,?_⟩,rfl⟩,?_⟩
 .by_cases z:a=W.cls 1000
  .have e':=(if_pos z).symm.trans e;cases e'
  .exact(if_neg z).symm.trans e
 .cases k with
  |zero=>cases e;exact⟨rfl,#[],hT,λ_=>rfl⟩
  |succ k=>simp at e
 .have hj:j<1:=hj;have hk:k<1:=hk;omega
 .rcases hS with z|z
  .refine .inl ⟨⟨.inl trivial,λ_ _=>?_⟩,z⟩;rcases z with z|⟨o,z⟩
   .exact np z λ_=>by nofun
   .exact np z λ_=>by nofun
  .exact .inr z
 .rw[h];intro A2 H2 h2 g2 v rv;cases(show v=_ from rv);exact k H2
def d5{W:RC}{M:Cd}{A:Cm}{n:Nat}{H:Hp}:∀{xs:Cy}{vs:Ck},zy W M H xs vs->zK W M A n H (xs.map .v) vs
 |[],_,h=>h
 |_::_,_,⟨v,r,e,h1,h2⟩=>⟨v,r,e,h1,d5 h2⟩
section
variable {X:Cx}{W:RC}{E:XK}{k:Nat}{c P:Addr}{params:Arguments}{body e:Co}{scope:Scope}{lpos p pos kpos:Pos}{x:Str}{N:Cn}{ms:HMA}{g:Cw}{wk:Bool}
end
section
variable {X:Cx}{C:LC}{S:Cb}{mi:MI}{mg:MG}{mc:MT}{me:ME}
end
section
variable {X:Cx}{W:RC}{E:XK}
variable {fr' w:Bool}{S:Cb}{yM tg ek ev:Co}{ifs:Ci}{mk me:ME}{mc:MT}{mg:MG}{mi:MI}{pos pos2 p p1:Pos}{scope:Scope}
end
section
variable {X:Cx}{pins:Ca}{σ:St}{H:Hp}{s:Ce}
end
section
variable {X:Cx}{C:LC}{S:Cb}{a b:Co}{w1 w2:Bool}{m1 m2:ME}{pos:Pos}
end
def oQ{α:Type}(f:C_):KasT α->α
 |.ret a=>a
 |.ask i j k=>oQ f (k (f i j))
def U8{α:Type}{P:Dl}{f:C_}{Q:α->Prop}:∀{t:KasT α},Qw P f t Q->Qw P f t λa=>Q a/\a=oQ f t
 |.ret _,h=>⟨h,rfl⟩
 |.ask i j k,h=>⟨h.1,h.2.1,U8 (t:=k (f i j)) h.2.2⟩
def U9{α:Type}{P:Dl}{f:C_}{Q:α->Prop}:∀{t:KasT α},Qw P f t Q->Q (oQ f t)
 |.ret _,h=>h
 |.ask i j k,h=>U9 (t:=k (f i j)) h.2.2
def oR:KeyOrd where
 α:=Int
 blt a b:=decide (a<b)
 irrefl a:=G5 (Int.lt_irrefl a)
 trans a b c h1 h2:=L5 (Int.lt_trans (M7 h1) (M7 h2))
 negTrans a b c h:=by
  have h:=M7 h;by_cases c':a<b
  .exact .inl (L5 c')
  .exact .inr (L5 (by omega))
 total a b h1 h2:=by have h1:=a0Z h1;have h2:=a0Z h2;omega
def V4(kz:CC):List Nat:=if kz.length<2 then List.range kz.length else(oQ (ans (O:=oR) λi=>kz.getD i 0) (kas_sort kz.length)).toList
def oS(kz:CC):(V4 kz).Perm (List.range kz.length)/\(V4 kz).Pairwise λi j=>kz.getD i 0<=kz.getD j 0:=by
 unfold V4;by_cases h:kz.length<2
 .rw[if_pos h];refine⟨.refl _,?_⟩;rw[a1f];intro i j hi hj hij;rw[D6]at hi hj;omega
 .rw[if_neg h];obtain⟨hp,hu⟩:=U9 (dW (O:=oR) (key:=λi=>kz.getD i 0) (n:=kz.length) (by omega));refine⟨hp.perm,?_⟩;rw[a1f];intro i j hi hj hij;have hs:=hp.size;rw[T4]at hi hj;have:=hu i j (a0a hij) (by omega);have e:∀k (hk:k<(oQ (ans (O:=oR) λi=>kz.getD i 0) (kas_sort kz.length)).size),at0 (oQ (ans (O:=oR) λi=>kz.getD i 0) (kas_sort kz.length)) k=(oQ (ans (O:=oR) λi=>kz.getD i 0) (kas_sort kz.length)).toList[k]'(by rw[T4];exact hk):=λk hk=>by rw[Yj,getElem?_pos _ k hk];simp
  unfold kk at this;rw[e i hi,e j hj]at this;exact Int.not_lt.mp (a0Z this)
def WO:∀{kz:CC}{us:Cg},Vals (kz.map V.int) us->IntsAre us kz
 |[],_,.nil=>.nil
 |k::kz,_,.cons r rs=>by obtain⟨t,rfl⟩:=r;exact .cons _ _ (WO rs)
def ints_get:∀{kz:CC}{us:Cg}{i:Nat},IntsAre us kz->i<kz.length->∃t,us.getD i .none=.int (kz.getD i 0) t
 |_,_,0,.cons k t _,_=>⟨t,rfl⟩
 |_,_,i+1,.cons k t h,hi=>ints_get (i:=i) h (Nat.lt_of_succ_lt_succ hi)
def KCs(X:Cx)(σ:St)(k:Nat)(lp:Ca)(f:Addr)(sp:Sp):Prop:=∀{pins:Ca}{H:Hp}{s:Ce}{Q:VK}{E:B_}{A:Cz}{u:Value}{v:V},(∀p∈lp,p∈pins)->jd k A->fT X.prog X.w X.K X.mg X.base A X.stack s H->Inv X pins σ H s->RelV v u->sp [v] H Q (λ_ _ _=>False)->wpAny (Du X) A (call (.ref f) [u]) (EP X pins σ Q) E s
def mr(sp:Sp)(ys:Ck)(H:Hp)(Q:VK):Prop:=ys.length<64/\dX sp ys [] H λzs H'=>∃kz:List Int,kz.length=ys.length/\zs=kz.map V.int/\∀a,H' a=none->Q (.ref a) (upd H' a (.lst ((V4 kz).map λi=>ys.getD i .non)))
def xy(X:Cx)(s:Ce)(l:Addr)(ys:Ck):Prop:=∀{Q:List Value->Shared->Prop}{E:B_},(∀h0 tk its,Vals ys its->(∀b o,s.heap.get? b=some o->h0.get? b=some o)->s.heap.objs.size<=h0.objs.size->Q its { s with heap:=h0,toks:=tk })->wpAny (Du X) X.A.in1 (collect (.ref l)) Q E s
section
variable {X:Cx}{k:Nat}{f:Addr}{fd:CA}{ps:Cn}{sp:Sp}
def WQ{pins:Ca}{σ:St}{A:Cz}{E:B_}{kS:Addr}{Q0:List V->Hp->Prop}{body:Value->PUnit->Sem (ForInStep PUnit)}{lp:Ca}(F:KCs X σ k lp f sp)(hlp:∀p∈lp,p∈pins)(hr:jd k A)(hA:A.frames=X.A.frames)
  (w:ia X pins kS)
  (YU:∀x s (C:Shared->Prop),wpAny (Du X) A (call (.ref f) [x]) (λz s'=>wpAny (Du X) A (Builtin.List.listUpdate (.ref kS) (·.push z)) (λ_ s''=>C s'') (λ_ _=>False) s') (λ_ _=>False) s->wpAny (Du X) A (body x ⟨⟩) (λr s'=>r=.yield ⟨⟩/\C s') E s):
  ∀{ys:Ck}{its:Cg}{acc:Ck}{us:Cg}{e:Nat}{H:Hp}{s:Ce},acc.length+ys.length<64->Vals ys its->Vals acc us->Inv X (pins++[(kS,seqObj "list" us.toArray e)]) σ H s->dX sp ys acc H Q0->
   wpAny (Du X) A (forIn its PUnit.unit body) (λ_ s'=>∃zs us' e' H',zs.length=acc.length+ys.length/\Vals zs us'/\Inv X (pins++[(kS,seqObj "list" us'.toArray e')]) σ H' s'/\Q0 zs H') E s
 |[],_,acc,us,e,H,s,_,.nil,ra,I,h=>by rw[List.forIn_nil];exact B8 ⟨acc,us,e,H,rfl,ra,I,h⟩
 |v::ys,_,acc,us,e,H,s,hl,.cons (b:=u) (l₂:=its) r rs,ra,I,h=>by
  rw[B0]at hl;have hul:=ra.length;rw[List.forIn_cons];refine f8 (L4 (YU u s (λs'=>∃(zs:(V×Nat)×Value) (H':Hp),Inv X (pins++[(kS,seqObj "list" (us++[zs.2]).toArray zs.1.2)]) σ H' s'/\RelV zs.1.1 zs.2/\dX sp ys (acc++[zs.1.1]) H' Q0) ?_) (λq s' hq=>?_) λ_ _ x=>x)
  .have A0:fT X.prog X.w X.K X.mg X.base A X.stack s H:=⟨hA.trans I.fU.frames,I.fU.mod,I.fU.bs,I.fU.bsz,I.fU.Xm,I.fU.frf,I.fU.hok,I.fU.bare⟩;refine L4 (F (λp hp=>D7 _ (hlp p hp)) hr A0 I r h) (λz s1 ⟨y,H1,I1,r1,q1⟩=>?_) λ_ _ x=>x;have a1:=I1.at1;have J1:Inv X pins σ H1 s1:=I1.qT;obtain⟨e2,he2⟩:∃e2,(s1.heap.update kS (Obj.mapSeq (·.push z))).get? kS=some (seqObj "list" (us++[z]).toArray e2):=⟨_,by
    have:=get?_update_seq a1.1 (·.push z);rw[show us.toArray.push z=(us++[z]).toArray by simp]at this;exact this⟩
   refine a07 a1.1 rfl ?_ (by rw[D9,N4];omega) (E3 (a2a (Array.size_push ..)) (by rw[D9,N4];omega));have J2:Inv X pins σ H1 { s1 with heap:=s1.heap.update kS (Obj.mapSeq (·.push z)),toks:=s1.toks }:=J1.turned (λb o hb ho=>(D8 s1.heap _ (Ne.symm hb)).trans ho) a1.2 w.loc w.ex w.cel w.pin;exact⟨((y,e2),z),H1,J2.xx w a1.2 he2 (λv h=>by cases h),r1,q1⟩
  .obtain⟨rfl,zs,H',I',r',q'⟩:=hq;show wpAny (Du X) A (forIn its PUnit.unit body) _ E s';refine L4 (WQ F hlp hr hA w YU (ys:=ys) (acc:=acc++[zs.1.1]) (us:=us++[zs.2]) (by rw[B5,a0D];omega) rs (ra.append (.cons r' .nil)) I' q') (λ_ s2 ⟨zs',us',e',H2,hl',h2,h3,h4⟩=>⟨zs',us',e',H2,?_,h2,h3,h4⟩) λ_ _ x=>x;rw[hl',B5,a0D,B0];omega
def d6
  (w1:ia X pins D) (w2:ia X (pins++[(D,seqObj "list" #[] e1)]) kS) (hy:ys.length<64) (ry:Vals ys its) (rz:Vals zs us) (hk:zs=kz.map V.int) (hkl:kz.length=ys.length)
  (I:Inv X (pins++[(D,seqObj "list" #[] e1)]++[(kS,seqObj "list" us.toArray e)]) σ H s) (hq:Q (.ref D) (upd H D (.lst ((V4 kz).map λi=>ys.getD i .non)))) (hP:∀s',EP X pins σ Q (.ref D) s'->P (.done (.ret .none)) s'):wpAny (Du X) A (ksk_end D false its.toArray e1 (.ref kS) us.toArray) P E s:=by
 have hl:=ry.length;have hzl:zs.length=kz.length:=by rw[hk,u8]
 have hul:=rz.length;have hit:us.length=its.length:=by omega
 unfold ksk_end
 try dsimp only
 simp only[Bool.false_eq_true,if_false];by_cases h2:its.toArray.size<2
 .rw[if_pos h2,if_pos h2];rw[D9]at h2;refine f8 (B8 ?_);rw[StateT.run_pure];refine f8 (B8 ?_)
  try dsimp only
  have hs:V4 kz=List.range its.length:=by unfold V4;rw[if_pos (by omega),show kz.length=its.length by omega]
  rw[hs]at hq;refine WL w1 w2 (by omega) (outU:=(List.range its.length).map λi=>its.getD i .none) (by rw[u8,D6];omega) (Vw ry _) ?_ rfl I hq hP;apply Array.toList_inj.mp;show((us.toArray.zip its.toArray).map (·.2)).toList=_;rw[Array.toList_map,ksk_zip,List.map_snd_zip (by rw[a1Z,hit];exact B7 _)];refine List.ext_getElem (by rw[u8,D6]) λi h1 h2=>?_;rw[a0g,O6];simp[h1]
 .rw[if_neg h2,if_neg h2];rw[D9]at h2;subst hk;have T3:=WO rz;refine f8 (a0x (ksk_kind (keys:=us.toArray) (kz:=kz) (by simpa using T3) (by rw[List.size_toArray];omega)) ?_);have tree:(kas_sort its.length).kasWp (kas_ask X.prog X.w A oneType' us) (λp s'=>s'=s/\p.toList=V4 kz) s:=by
   refine dS (P:=(·<kz.length)) (f:=ans (O:=oR) λi=>kz.getD i 0) (J:=λs'=>s'=s) (Q:=λp=>p.toList=V4 kz) (λi j C s' hi hj hs hC=>?_) (λp s' h1 h2=>⟨h2,h1⟩) rfl ?_
   .subst hs;obtain⟨t1,e1⟩:=ints_get T3 hi;obtain⟨t2,e2⟩:=ints_get T3 hj;show wpAny _ _ (keyLt' oneType' (us.getD i .none) (us.getD j .none)) _ _ _;rw[keyLt'_oneType,e1,e2];exact oneLt_int (hC _ rfl)
   .have:=U8 (dW (O:=oR) (key:=λi=>kz.getD i 0) (n:=kz.length) (by omega));rw[show its.length=kz.length by omega];refine yo (λp ⟨_,b⟩=>?_) this;unfold V4;rw[if_neg (by omega),b]
  refine f8 (L4 (kat_run (ks:=us) (vs:=its) (Q:=λst' s'=>s'=s/\∃p:Array Nat,p.size=its.length/\arrOf st'=p.map (kas_item (us.toArray.zip its.toArray))/\failedOf st'=none/\p.toList=V4 kz) hit (by omega) (by omega) (λp st' s' a1 a2 a3 a4=>⟨a4.1,p,a1,a2,a3,a4.2⟩) tree) ?_ λ_ _ x=>x)
  rintro⟨⟨⟩,st'⟩ s' ⟨rfl,p,hp,har,hf,srt⟩
  try dsimp only
  rw[<- srt]at hq;exact WL w1 w2 (by omega) (outU:=p.toList.map λi=>its.getD i .none) (by rw[u8,T4];omega) (Vw ry _) (kat_snds hit har) hf I hq hP
def bp(F:KCs X σ k lp f sp)(hlp:∀p∈lp,p∈pins)(hr:jd (k+2) X.A)
  (I:Inv X pins σ H s) (hcol:xy X s l ys) (h:mr sp ys H Q):wpAny (Du X) X.A (call (.builtin "sorted") [.ref l] [(Str.ofString "key",.ref f)]) (EP X pins σ Q) E s:=by
 obtain⟨hy,h⟩:=h;refine call_function_entry_kw kind_sorted plain_sorted entry_sorted (ksk_s1 _ _) ?_;unfold Builtin.«sorted»;refine f8 (m:=checkCount "sorted" 1 1 _) (B8 ?_);refine f8 (hcol λh0 tk its ry hk0 hs0=>?_);have hlen:=ry.length;refine f8 (wpAny_newList ?_ (by rw[N4];omega));have I0:Inv X pins σ H { s with heap:=h0,toks:=tk }:=I.kept hk0;have hoL:(h0.push (seqObj "list" its.toArray 0)).get? h0.objs.size=some (seqObj "list" its.toArray 0):=E2 _ rfl;have I1:Inv X pins σ H { s with heap:=h0.push (seqObj "list" its.toArray 0),toks:=tk }:=Inv.kept (s:={ s with heap:=h0,toks:=tk }) I0 λb o q=>B6 _ q;have hs1:(h0.push (seqObj "list" its.toArray 0)).objs.size=h0.objs.size+1:=size_push' ..;have w1:ia X pins h0.objs.size:=I0.Bm (H':=H) (B7 _);have n1:H h0.objs.size=none:=I0.hok.fresh (B7 _);show wpAny _ _ _ _ _ { s with heap:=h0.push (seqObj "list" its.toArray 0),toks:=tk };generalize h0.push (seqObj "list" its.toArray 0)=h1 at hoL hs1 I1;generalize hD:h0.objs.size=D at hoL w1 n1 hs1;refine f8 (G7 (wpAny_call_entry_kw slot_list_sort ⟨_,hoL,rfl⟩ entry_list_sort ?body (ksk_l1 _ _)))
 case body=>
  show wpAny (Du X) X.A.in1.in1 (Builtin.«list.sort» ⟨[.ref D],[(Str.ofString "key",.ref f)]⟩) _ _ _;rw[ksk_t1];obtain⟨e1,ho1⟩:∃e1,(h1.update D (Obj.mapSeq λ_=>(#[]:Array Value))).get? D=some (seqObj "list" #[] e1):=⟨_,get?_update_seq hoL λ_=>#[]⟩;have I2:Inv X pins σ H { s with heap:=h1.update D (Obj.mapSeq λ_=>(#[]:Array Value)),toks:=tk }:=Inv.turned (s:={ s with heap:=h1,toks:=tk }) I1 (λb o hb ho=>(D8 h1 _ (Ne.symm hb)).trans ho) n1 w1.loc w1.ex w1.cel w1.pin;have hs2:(h1.update D (Obj.mapSeq λ_=>(#[]:Array Value))).objs.size=D+1:=by rw[Heap.size_update,hs1]
  unfold ksk_tree;refine f8 (listItems_at hoL rfl ?_);refine f8 (a07 hoL rfl ?_ (by rw[D9,N4];omega) (F7 _));generalize h1.update D (Obj.mapSeq λ_=>(#[]:Array Value))=h2 at ho1 I2 hs2;refine f8 (seqEpoch_at ho1 rfl ?_);refine f8 (wpAny_newTuple ?_ (by show its.length<=_;rw[N4];omega));refine f8 (wpAny_newList ?_ (F7 _));refine G7 ?_;have hk3:(h2.push { cls:=.type "tuple",data:=.seq its.toArray.toList.toArray }).objs.size=D+2:=by rw[size_push',hs2]
  have keep3:∀b o,h2.get? b=some o->((h2.push { cls:=.type "tuple",data:=.seq its.toArray.toList.toArray }).push { cls:=.type "list",data:=.seq ([]:List Value).toArray }).get? b=some o:=λb o q=>B6 _ (B6 _ q);have I3:Inv X pins σ H { s with heap:=(h2.push { cls:=.type "tuple",data:=.seq its.toArray.toList.toArray }).push { cls:=.type "list",data:=.seq ([]:List Value).toArray },toks:=tk }:=Inv.kept (s:={ s with heap:=h2,toks:=tk }) I2 keep3;have hoK:((h2.push { cls:=.type "tuple",data:=.seq its.toArray.toList.toArray }).push { cls:=.type "list",data:=.seq ([]:List Value).toArray }).get? (h2.push { cls:=.type "tuple",data:=.seq its.toArray.toList.toArray }).objs.size=some (seqObj "list" ([]:List Value).toArray 0):=E2 _ rfl;have hoD:=keep3 D _ ho1;show wpAny (Du X) X.A.in1.in1 (ksk_rest D (.ref f) false its.toArray e1 (.ref (h2.push { cls:=.type "tuple",data:=.seq its.toArray.toList.toArray }).objs.size)) _ _ { s with heap:=(h2.push { cls:=.type "tuple",data:=.seq its.toArray.toList.toArray }).push { cls:=.type "list",data:=.seq ([]:List Value).toArray },toks:=tk };have w2:ia X (pins++[(D,seqObj "list" #[] e1)]) (h2.push { cls:=.type "tuple",data:=.seq its.toArray.toList.toArray }).objs.size:=by have J:Inv X (pins++[(D,seqObj "list" #[] e1)]) σ H { s with heap:=h2,toks:=tk }:=Inv.xx (s:={ s with heap:=h2,toks:=tk }) I2 w1 n1 ho1 (λv h=>by cases h);exact J.Bm (H':=H) (by show h2.objs.size<=_;rw[hk3,hs2];omega)
  have n2:H (h2.push { cls:=.type "tuple",data:=.seq its.toArray.toList.toArray }).objs.size=none:=I0.hok.fresh (by rw[hk3];show h0.objs.size<=_;omega);generalize(h2.push { cls:=.type "tuple",data:=.seq its.toArray.toList.toArray }).push { cls:=.type "list",data:=.seq ([]:List Value).toArray }=h3 at I3 hoK hoD;generalize(h2.push { cls:=.type "tuple",data:=.seq its.toArray.toList.toArray }).objs.size=kS at hoK w2 n2;have I4:Inv X (pins++[(D,seqObj "list" #[] e1)]++[(kS,seqObj "list" ([]:List Value).toArray 0)]) σ H { s with heap:=h3,toks:=tk }:=
   Inv.xx (s:={ s with heap:=h3,toks:=tk }) (Inv.xx (s:={ s with heap:=h3,toks:=tk }) I3 w1 n1 hoD (λv h=>by cases h)) w2 n2 hoK (λv h=>by cases h)
  unfold ksk_rest;refine f8 (a0O ?_)
  first
   |rw[List.forIn_toArray]
   | (rw[<- a2c];simp only[List.toList_toArray])
   |rw[<- a2c]
  refine f8 (L4 (WQ (pins:=pins++[(D,seqObj "list" #[] e1)]) (σ:=σ) (A:=X.A.in1.in1) (E:=E) F (λp hp=>D7 _ (hlp p hp)) hr.in1.in1 rfl w2 (λx s' C hx=>?_) (ys:=ys) (its:=its) (acc:=[]) (us:=[]) (e:=0) (H:=H) (by rw[a0J];omega) ry .nil I4 h) (λ_ s' hd=>?_) λ_ _ x=>x)
  .refine f8 (a0z (L4 hx (λz s'' hz=>?_) λ_ _ hF=>hF.elim))
   try dsimp only
   exact f8 (L4 hz (λ_ s3 h3=>B8 ⟨rfl,h3⟩) λ_ _ hF=>hF.elim)
  .obtain⟨zs,us,e2,H',hzl,rz,I5,kz,hkl,hk3,hq⟩:=hd;have aK:=I5.at1;have aD:=I5.qT.at1
   try dsimp only
   refine f8 (listItems_at aK.1 rfl ?_);exact d6 w1 w2 hy ry rz hk3 hkl I5 (hq D aD.2) λs3 he=>⟨_,rfl,B8 ⟨_,rfl,he⟩⟩
end
structure d7(x y:Str)(scope:Scope):Prop where
 kind:scope.kind=.function
 co:scope.isCoroutine=false
 gen:scope.isGenerator=false
 lx:scope.names.lookup x=some .local
 ly:scope.names.lookup y=some .free
 mW:∀z∈scope.names,z.2≠.cell
 free:∀z,scope.names.lookup z=some .free->z=y
def cxL(CX:CXT)(P:Cq)(w:Cv)(K:CO)(mg:Cc)(base:Heap)(N:Cn)(qual:Str)(scope:Scope)(f:Addr)(cd:Value)(cl:CF)(A:Cz)(outer:List Env)(s:Ce)(H:Hp)(E:XK):Cx where
 prog:=P
 w:=w
 K:=K
 mg:=mg
 base:=base
 A:=A.deeper (envX qual scope s.heap.objs.size f cd cl)
 N:=N
 s₀:=s
 H₀:=H
 env:=envX qual scope s.heap.objs.size f cd cl
 outer:=outer
 stack:=envX qual scope s.heap.objs.size f cd cl::outer
 ex:=[]
 calm:=true
 fn:=λ_=>false
 pn:=[]
 xe:=λe s'=>wpAny (model P w) (A.deeper (envX qual scope s.heap.objs.size f cd cl)) (leaving (envX qual scope s.heap.objs.size f cd cl) e) (λ_ s''=>CX outer H s E e s'') (λe' s''=>CX outer H s E e' s'') s'
section
variable {CX:CXT}{P:Cq}{w:Cv}{K:Cr}{mg:Cc}{base:Heap}{k:Nat}{f:Addr}{name qual x y:Str}{params:Arguments}{body:Co}{scope:Scope}{pm ctv:Value}{c c':Addr}{oc:Obj}{ws:CG}{tq:Tok}{sp:Sp}
def iq(S:d7 x y scope)(hd:oc.data=.fields ws)(hq:ws[1]?=some (.str qual tq))(hbind:∀(s:Ce)(u:Value),BindsTo s (kla_fn name qual params body scope [(y,c)] pm (.ref c') ctv) ⟨[u],[]⟩ [(x,u)])
  (YU:∀(A:Cz)(outer:List Env)(s:Ce)(H:Hp)(vs:Ck)(Q:VK)(E:XK),jd k (A.deeper (envX qual scope s.heap.objs.size f (.ref c') [(y,c)]))->sp vs H Q E->∃te,PE (cxL CX P w K mg base [x,y] qual scope f (.ref c') [(y,c)] A outer s H E) body te/\te (start [x,y] vs) H Q) (hr:jd (k+1) A) (e0:fT P w K mg base A outer s H) (hof:s.heap.get? f=some (kla_obj name qual params body scope [(y,c)] pm c' ctv)) (hoc:s.heap.get? c'=some oc) (r:RelV v u)
  (hc:s.heap.IsCell c (some uw)) (rw':RelV vw uw) (hH:H c=none) (hsp:sp [v,vw] H Q E):
  codeAny (model P w) A (.call (.ref f) ⟨[u],[]⟩) (CR CX outer P w H s Q E) s:=by
 have lim:s.heap.NoLimit:=e0.mod.nolimit.keeps λb o e=>(e0.bs b o e).1;refine kla_callFunE hr.depth hof rfl S.co S.gen rfl ⟨c',oc,ws,tq,rfl,hoc,hd,hq⟩ (hbind s u _ _ _ _ ?_);refine wpAny_newFunctionEnv S.mW (λz hz=>by rw[C7.mp hz];exact S.lx) (λh₁ hns hsb=>⟨lim.fresh _ hsb,?_⟩) S.kind;show codeAny _ _ (.expr body (envX qual scope s.heap.objs.size f (.ref c') [(y,c)])) _ _;have hk₁:∀b o,s.heap.get? b=some o->h₁.get? b=some o:=λb o e=>hsb.extBut b o (D2 (C0 e)) (B6 _ e);refine kla_codeExpr ?_;obtain⟨te,ht,q⟩:=YU A outer s H [v,vw] Q E (hr.deeper _) hsp;have noA:∀b:Addr,b∉(cxL CX P w K mg base [x,y] qual scope f (.ref c') [(y,c)] A outer s H E).ex:=λb z=>absurd (show b∈([]:List Addr)from z) (by simp);have cy:∀z a,List.lookup z [(y,c)]=some a->z=y/\a=c:=λz a h=>by
  rw[G8]at h;split at h
  .rename_i e;cases h;exact⟨eq_of_beq e,rfl⟩
  .cases h
 have hcell:h₁.IsCell c (some uw):=by obtain⟨o,ho,hd⟩:=hc;exact⟨o,hk₁ _ _ ho,hd⟩
 have ly:List.lookup y [(y,c)]=some c:=by simp
 have I:Inv (cxL CX P w K mg base [x,y] qual scope f (.ref c') [(y,c)] A outer s H E) [] (start [x,y] [v,vw]) H { s with heap:=h₁,toks:=s.toks+[(x,u)].length }:=by
  refine⟨⟨e0.mod,S.kind,rfl,rfl,B7 _,λa b d h1 h2=>?_,λa ha=>?_,λa d h _=>absurd (show false=true from h) C9,λ_=>hr.hd,a1P e0.frames,.inr ⟨rfl,rfl⟩,λb z=>absurd z (noA b),e0.bs,e0.bsz,λb _ _=>noA b,λb z=>absurd z (noA b),e0.Xm,e0.frf⟩,
   rfl,e0.bare,Un.kept hk₁,⟨_,hns,λi a b h1 h2 h3=>?_⟩,λa d h=>?_,e0.hok.fresh (B7 _),λa d h=>?_,λp hp=>absurd (show p∈([]:List (Addr×Obj))from hp) (by simp),e0.hok.kept hk₁,rfl⟩
  .rw[(cy a d h1).1,(cy b d h2).1]
  .have ha:scope.names.lookup a=some .cell\/scope.names.lookup a=some .free:=ha;rcases ha with ha|ha
   .exact absurd rfl (S.mW _ (O3 ha))
   .rw[S.free a ha];exact⟨c,ly⟩
  .match i,h1,h2 with
   |0,h1,h2=>cases h1;cases h2;exact⟨u,r,.inl ⟨S.lx,by simp⟩⟩
   |1,h1,h2=>cases h1;cases h2;exact⟨uw,rw',.inr ⟨.inr S.ly,c,ly,hcell⟩⟩
   |i+2,h1,_=>cases(show([]:List Str)[i]?=some a from h1)
  .rw[(cy a d h).2];exact⟨_,hcell⟩
  .rw[(cy a d h).2];exact hH
 refine L4 (ht [] _ (start [x,y] [v,vw]) H _ I q) (λz s' hs=>?_) λe s' hs=>hs;obtain⟨z',H',J,rz,q'⟩:=hs;exact⟨z',H',J.os,J.bare,J.base,J.hok,rz,q'⟩
def oU{X:Cx}{σ:St}{i:Nat}{vw:V}(S:d7 x y scope)(hd:oc.data=.fields ws)(hq:ws[1]?=some (.str qual tq))(hbind:∀(s:Ce)(u:Value),BindsTo s (kla_fn name qual params body scope [(y,c)] pm (.ref c') ctv) ⟨[u],[]⟩ [(x,u)])
  (YU:∀(A:Cz)(outer:List Env)(s:Ce)(H:Hp)(vs:Ck)(Q:VK)(E:XK),jd k (A.deeper (envX qual scope s.heap.objs.size f (.ref c') [(y,c)]))->sp vs H Q E->∃te,PE (cxL (CXe X.prog X.w) X.prog X.w X.K X.mg X.base [x,y] qual scope f (.ref c') [(y,c)] A outer s H E) body te/\te (start [x,y] vs) H Q)
  (hN:X.N[i]?=some y) (hσ:σ[i]?=some (some vw)) (hy:X.env.scope.names.lookup y=some .cell) (hcy:X.env.cells.lookup y=some c):
  KCs X σ (k+1) [(f,kla_obj name qual params body scope [(y,c)] pm c' ctv),(c',oc)] f (λvs H Q E=>sp (vs++[vw]) H Q E):=λhlp hr hA I r h=>by
 have p1:=I.pin _ (C6 _ (hlp _ B3));have p2:=I.pin _ (C6 _ (hlp _ (B4 _ B3)));obtain⟨m,hm,hl⟩:=I.loc;obtain⟨uw,ru,lk⟩:=hl i y vw hN hσ (.inr (.inl hy));have hc:=(show _ from lk.elim (λ⟨z,_⟩=>by have z:X.env.scope.names.lookup y=some .local:=z;rw[hy]at z;cases z) λ⟨_,c2,e2,h2⟩=>by rw[hcy]at e2;cases e2;exact h2:(_:Heap).IsCell c (some uw));refine a0d (a0r (iq (outer:=X.stack) S hd hq hbind YU hr hA p1.1 p2.1 r hc ru (I.Qq y c hcy) h) λr s' hq=>?_);cases r with
 |error e=>exact(WB hq).elim
 |ok fl=>
  cases fl with
  |ret u=>exact I.after hq
  |next=>exact False.elim hq
  |brk=>exact False.elim hq
  |cont=>exact False.elim hq
end
def d8:∀{ys:Ck}{its:Cg},its.length=ys.length->(∀(i:Nat) v y,its[i]?=some v->ys[i]?=some y->RelV y v)->Vals ys its
 |[],[],_,_=>.nil
 |y::ys,v::its,hl,h=>.cons (h 0 v y rfl rfl) (d8 (by simpa using hl) λi v y h1 h2=>h (i+1) v y h1 h2)
 |[],_::_,hl,_=>by cases hl
 |_::_,[],hl,_=>by cases hl
def ir(I:Inv X pins σ H s)(hl:SqL X.K H l ys):xy X s l ys:=λh=>by
 obtain⟨its,ry,pl,hz⟩:=I.list hl;refine collect_list pl.isList (h _ s.toks its ry (λb o q=>?_) ?_) (by rw[<- ry.length];exact hz)
 .have hlt:b<s.heap.objs.size:=C0 q;rw[a0Q _ _ _ _ (D2 hlt),Heap.get?_push_ne _ _ _ (D2 hlt)];exact q
 .rw[Heap.size_update,size_push'];exact a0i _
def iu(hc:X.calm=true)(I:Inv X pins σ H s)(hS:Rd H l (.dK es)):xy X s l (es.map λkv=>kV kv.1):=λh=>by
 obtain⟨z,hd,vs,rel,o,ds,ep,e1,e2,e3,e4,e5,e6⟩:=vD I.hok hS;have hl:vs.length=es.length:=rel.length.symm;refine WN (A:=X.A.in1) (knd:=z7 X.prog X.w) (kvs:=vs) (ep:=ep) (I.ok.hd hc) hd ⟨o,ds,e1,e2,e3,e4,e5,e6⟩ (by omega) λh' tk acc hk hsz hi=>h h' tk acc.toList (d8 ?_ λi v y hv hy=>?_) hk hsz
 .have:=hi.1;rw[u8];simpa[hl]using this
 .obtain⟨k,x,f3,f4⟩:=hi.2 i v (by simpa using hv);rw[D5]at hy;obtain⟨kv,hkv,rfl⟩:=v4.mp hy;obtain⟨w',hw⟩:=dm rel (k:=kv.1) (v:=kv.2) hkv;rw[hw]at f3;cases f3;rw[Kx]at f4;rcases zO f4 with⟨i,t,e,e'⟩|⟨x,t,e,e'⟩
  .rw[e,e'];exact⟨t,rfl⟩
  .rw[e,e'];exact⟨t,rfl⟩
def oV(h:Rd H l u)(hu:∀qs,u≠.tbl qs)(hP:H P=some (.tbl ps)):Rd (upd H P o) l u:=by
 rcases h with h|⟨o',h⟩
 .exact .inl (by rw[zc (λq=>by rw[q,hP]at h;cases h;exact hu _ rfl)];exact h)
 .exact .inr ⟨o',by rw[zc (λq=>by rw[q,hP]at h;cases h)];exact h⟩
def Bn(K:CO)(H:Hp)(l:Addr)(ys:Ck):Prop:=SqL K H l ys\/∃es,Rd H l (.dK es)/\ys=es.map λkv=>kV kv.1
section
variable {X:Cx}{k i:Nat}{c P:Addr}{params:Arguments}{body e:Co}{scope:Scope}{lpos p pos kpos:Pos}{x y:Str}{sp:Sp}{t:TA}
def iw(hca:X.calm=true)(hcd:X.env.code=.ref c)(hC:CodeHd X.base c P)(hB:X.base.BuiltinsAt X.mg P)(hgP:mainGlobals≠P)(hcl:∀a,X.env.cells.lookup y=some a->closureFor scope X.env=pure [(y,a)])(hdf:defaultsOf params X.env=([],[]))(S:d7 x y scope)
  (hN:X.N[i]?=some y) (hy:X.env.scope.names.lookup y=some .cell)
  (hbind:∀(pm:Value)(a c':Addr)(ctv:Value)(s:Ce)(u:Value),BindsTo s (kla_fn "<lambda>" (X.env.qual++"<lambda>") params body scope [(y,a)] pm (.ref c') ctv) ⟨[u],[]⟩ [(x,u)])
  (YU:∀(f a c':Addr)(A:Cz)(outer:List Env)(s:Ce)(H:Hp)(vs:Ck)(Q:VK) (E:XK),jd k (A.deeper (envX (X.env.qual++"<lambda>") scope s.heap.objs.size f (.ref c') [(y,a)]))->sp vs H Q E->∃te,PE (cxL (CXe X.prog X.w) X.prog X.w X.K X.mg X.base [x,y] (X.env.qual++"<lambda>") scope f (.ref c') [(y,a)] A outer s H E) body te/\te (start [x,y] vs) H Q)
  (hr:jd (k+1+2) X.A) (hg:Gl X "sorted") (hm:X.mg "sorted"=none) (ha:PA X [e] t)
  (he1:backTo pos (starEach [e] X.env)=(false,eval e X.env)::backTo pos (starEach [] X.env):=by rfl) (hpl:(backTo pos (starEach [e] X.env)).any (·.1)=false:=by rfl):
  PE X (.Call (.Name "sorted" p) [e] [⟨some "key",.Lambda params body scope lpos,kpos⟩] pos) (λσ H Q=>t σ H λvs H1=>∃vw l ys ps,σ[i]?=some (some vw)/\vs=[.ref l]/\Bn X.K H1 l ys/\H1 P=some (.tbl ps)/\TriplesOk ps.toList/\codeAmong lpos ps.toList=none/\∀c',mr (λus H Q E=>sp (us++[vw]) H Q E) ys (upd H1 P (.tbl (ps++#[rawInt lpos.line,rawInt lpos.col,.ref c']))) Q):=by
 intro pins s σ H Q I h;refine N7 (Qr I hg hm boot_sorted ?_ (by decide) (by decide));refine callWith_kw (thn (ha pos pins s σ H _ I h) λus s1 ⟨vs,H1,I1,r1,vw,l,ys,ps,hσ,hv,hl,hP,ht,hnf,hq⟩=>?_) he1 hpl;subst hv;obtain⟨u,rfl,ru⟩:=vals1 r1;cases ru;obtain⟨a,hay⟩:=I1.ok.has y (.inl hy);show wpAny _ _ (evalAll ((do let v<-eval (.Lambda params body scope lpos) X.env;standAt pos;pure v)::(backToKw pos (keywordEach [] X.env)).map (·.2))) _ _ s1;have kp:=I1.bk;refine a17 (f8 (kla_eval hdf (kla_makeFunction (mg:=X.mg) (hcl a hay) I1.ok.glob (I1.mod.glob.keeps kp) hcd (hC.keeps kp) (I1.hok P _ hP) ht hnf hgP ?_ λc' ctv h' tk hx hge hlt hrec hT=>?_)))
 .obtain⟨bm,o,b1,b2,b3,b4,b5,b6⟩:=hB;exact⟨bm,o,b1,b2,b3,b4,kp _ _ b5,b6⟩
 refine f8 (T8 (B8 (B8 ?_)));obtain⟨c2,oc,ws,tq,e2,hoc,hd,hqn⟩:=hrec;cases e2;have hTn:∀b u,b≠P->s1.heap.get? b=some u->(h'.push (kla_obj "<lambda>" (X.env.qual++"<lambda>") params body scope [(y,a)] ((X.mg "__name__").getD .none) c' ctv)).get? b=some u:=λb u n q=>B6 _ (hx b u n q);have I2:=I1.grow (h':=h'.push (kla_obj "<lambda>" (X.env.qual++"<lambda>") params body scope [(y,a)] ((X.mg "__name__").getD .none) c' ctv)) (t':=tk) hP hTn (B6 _ hT);have hPlt:P<s1.heap.objs.size:=C0 (show s1.heap.get? P=some _ from I1.hok P _ hP);have new:∀a,s1.heap.objs.size<=a->(upd H1 P (.tbl (ps++#[rawInt lpos.line,rawInt lpos.col,.ref c']))) a=none/\a≠X.env.locals/\a∉X.fs:=λa ha=>⟨by rw[zc (M9 (D0 hPlt ha))];exact I1.hok.fresh ha,M9 (D0 I1.lt ha),I1.AY ha⟩;have I3:Inv X (pins++[(h'.objs.size,kla_obj "<lambda>" (X.env.qual++"<lambda>") params body scope [(y,a)] ((X.mg "__name__").getD .none) c' ctv),(c',oc)]) σ _ _:=I2.Jf λq hq=>by
  rcases E9.mp hq with hq|hq
  .exact I2.pin q (C6 _ hq)
  .rcases C5.mp hq with rfl|hq
   .obtain⟨n1,n2,n3⟩:=new h'.objs.size (a0a (F1 hge hlt));exact⟨E2 _ rfl,n1,n2,n3,λv z=>by cases z⟩
   .rw[C7.mp hq];obtain⟨n1,n2,n3⟩:=new c' hge;exact⟨B6 _ hoc,n1,n2,n3,λv z=>by rw[hd]at z;cases z⟩
 have hcol:xy X { s1 with heap:=h'.push (kla_obj "<lambda>" (X.env.qual++"<lambda>") params body scope [(y,a)] ((X.mg "__name__").getD .none) c' ctv),toks:=tk } l ys:=by
  rcases hl with hl|⟨es,hd',rfl⟩
  .exact ir I3 (oN hl hP)
  .exact iu hca I3 (oV hd' (λqs z=>by cases z) hP)
 refine L4 (bp (oU S hd hqn (hbind _ a c' ctv) (λA outer s H vs Q E=>YU h'.objs.size a c' A outer s H vs Q E) hN hσ hy hay) (λq hq=>C6 _ hq) hr I3 hcol (hq c')) (λz s3 ⟨y,H3,I4,ry,q4⟩=>⟨y,H3,I4.qT,ry,q4⟩) λ_ _ z=>z
end
def Vx(g:PV->Out PV):List PV->Option (List Int)
 |[]=>some []
 |x::xs=>match g x with
  |.ok (.i n)=>(Vx g xs).map (n::·)
  |_=>none
def WR{g:PV->Out PV}:∀{xs:Cy}{kz:CC},Vx g xs=some kz->kz.length=xs.length
 |[],_,h=>by cases h;rfl
 |x::xs,_,h=>by
  unfold Vx at h;split at h
  .obtain⟨ks,e,rfl⟩:=v4.mp h;rw[B0,B0,WR e]
  .cases h
def U_{W:RC}{M:Cd}{g:Cw}{w:PV}{vw:V}{Q:List V->Hp->Prop}:∀{xs:Cy}{vs acc:Ck}{H:Hp}{kz:CC},zy W M H xs vs->Rep W M H w vw->Vx (λx=>g [x,w]) xs=some kz->(∀H',zl H H'->Q (acc++kz.map V.int) H')->dX (λus H Q E=>lsp W false [true,true] g (us++[vw]) H Q E) vs acc H Q
 |[],_,acc,H,kz,hr,hw,hk,q=>by cases(show _=_ from hr);cases hk;have:=q H (zl.refl _);rw[a0b,F0]at this;exact this
 |x::xs,_,acc,H,kz,hr,hw,hk,q=>by
  obtain⟨v,r,rfl,h1,h2⟩:=hr;unfold Vx at hk;split at hk
  .rename_i n hg;obtain⟨ks,e,rfl⟩:=v4.mp hk;refine⟨M,[x,w],⟨x,v,[w],[vw],rfl,rfl,(by rw[if_pos rfl];exact h1.weak),w,vw,[],[],rfl,rfl,(by rw[if_pos rfl];exact hw.weak),rfl,rfl⟩,?_⟩;rw[hg];intro z H2 s hz;unfold RtV at hz;rw[if_neg C9]at hz;cases(show z=V.int n from hz);refine U_ (acc:=acc++[V.int n]) (h2.same s) (hw.same s) e λH' s'=>?_;have:=q H' (s.trans s');rw[F3];exact this
  .cases hk
def d9:PV->Option (List PV)
 |.l xs=>some xs
 |.d kvs=>some (kvs.map λkx=>kP kx.1)
 |_=>none
def iy(g:Cw)(w x:PV):Option PV:=(d9 x).bind λys=>if ys.length<64 then(Vx (λa=>g [a,w]) ys).map λkz=>.l ((V4 kz).map λi=>ys.getD i .n)else none
def d_(h:Rep W M H x v)(e:d9 x=some ys):∃l vs,v=.ref l/\Bn W.K H l vs/\zy W M H ys vs:=by
 cases x with
 |l xs=>cases e;obtain⟨l,us,rfl,_,hl,rr⟩:=h;exact⟨l,us,rfl,.inl (SqL.of hl),rr⟩
 |d kvs=>cases e;obtain⟨l,es,rfl,_,hl,rr⟩:=h;exact⟨l,_,rfl,.inr ⟨es,hl,rfl⟩,Vp rr⟩
 |_=>cases e
section
variable {X:Cx}{W:RC}{E:XK}{k i:Nat}{c P:Addr}{params:Arguments}{body e:Co}{scope:Scope}{lpos p pos kpos:Pos}{x y:Str}{ms:HMA}{g:Cw}
end
def JO(g:Cw)(i:Nat)(ms:HMA):HME:=λρ G=>(ms ρ G).bind λxs G1=>match xs,ρ[i]? with
 |[.v x],some (some (.v w))=>(match iy g w x,G1[(0:Nat)]? with
  |some (.l zs),some (.y true)=>.ok (.g G1.length) (G1.set 0 (.y false)++[.l (zs.map .v)])
  |_,_=>.wall)
 |_,_=>.wall
def ee(hca:X.calm=true)(hcd:X.env.code=.ref c)(T:mq X.base X.mg c P)(hP:W.cls 1000=P)(hcl:∀a,X.env.cells.lookup y=some a->closureFor scope X.env=pure [(y,a)])(hdf:defaultsOf params X.env=([],[]))(S:d7 x y scope)
  (hN:X.N[i]?=some y) (hy:X.env.scope.names.lookup y=some .cell)
  (hbind:∀(pm:Value)(a c':Addr)(ctv:Value)(s:Ce)(u:Value),BindsTo s (kla_fn "<lambda>" (X.env.qual++"<lambda>") params body scope [(y,a)] pm (.ref c') ctv) ⟨[u],[]⟩ [(x,u)])
  (YU:∀(f a c':Addr)(A:Cz)(outer:List Env)(s:Ce)(H:Hp)(vs:Ck)(Q:VK) (E:XK),jd k (A.deeper (envX (X.env.qual++"<lambda>") scope s.heap.objs.size f (.ref c') [(y,a)]))->lsp W false [true,true] g vs H Q E->∃te,PE (cxL (CXe X.prog X.w) X.prog X.w X.K X.mg X.base [x,y] (X.env.qual++"<lambda>") scope f (.ref c') [(y,a)] A outer s H E) body te/\te (start [x,y] vs) H Q)
  (hr:jd (k+1+2) X.A) (hg:Gl X "sorted") (hm:X.mg "sorted"=none) (ha:HA X W E [e] ms)
  (he1:backTo pos (starEach [e] X.env)=(false,eval e X.env)::backTo pos (starEach [] X.env):=by rfl) (hpl:(backTo pos (starEach [e] X.env)).any (·.1)=false:=by rfl):
  HE X W E (.Call (.Name "sorted" p) [e] [⟨some "key",.Lambda params body scope lpos,kpos⟩] pos) (JO g i ms):=λhK=>by
 obtain⟨ta,a1,a2⟩:=ha hK;refine⟨_,iw (k:=k) (sp:=lsp W false [true,true] g) hca hcd T.hd T.bl T.ne hcl hdf S hN hy hbind YU hr hg hm a1 he1 hpl,λZ hZ A H σ ρ G R Q q=>a2 Z hZ A H σ ρ G R _ (HPx.bind q λxs A1 H1 G1 h1 g1 q1 vs rs=>?_)⟩;subst hZ;split at q1
 rotate_left
 .exact q1.elim
 rename_i x0 w hw;split at q1
 rotate_left
 .exact q1.elim
 rename_i z hsz hy0;obtain⟨v,r,rfl,hv,hr'⟩:=rs;cases(show _=_ from hr');obtain⟨ys,hys,hs⟩:=E6.mp hsz;by_cases h64:ys.length<64
 rotate_left
 .rw[if_neg h64]at hs;cases hs
 rw[if_pos h64]at hs;obtain⟨kz,hkz,ez⟩:=v4.mp hs;injection ez with ez
 subst ez;obtain⟨vw,hσ,rw0⟩:=R.var i _ hw;have rw1:Rep Z.W (HM Z A1 G1.length) H1 w vw:=(show qL Z.W (HM Z A1 G1.length) A1 G1.length H1 (.v w) vw from rw0.gro g1);obtain⟨l,us,rfl,hits,rr⟩:=d_ (show Rep Z.W _ H1 x0 v from hv) hys;obtain⟨e1,ps,e2,e3⟩:=h1.cell 0 _ hy0;have e3:=e3 rfl;subst e3;have hk0:0<G1.length:=(C4.mp hy0).1;rw[hP]at e1;refine⟨vw,l,us,#[],hσ,rfl,by rw[hK];exact hits,by rw[<- e1];exact e2,trivial,rfl,λc'=>?_⟩;rw[<- e1];have g2:=h1.frw (o:=.tbl (#[]++#[rawInt lpos.line,rawInt lpos.col,.ref c'])) hk0 e2 id;have h2:=h1.write (c:=.y false) (o:=.tbl (#[]++#[rawInt lpos.line,rawInt lpos.col,.ref c'])) hk0 e2 id ⟨e1.trans hP.symm,_,zb,λz=>by cases z⟩;have hgl:(G1.set 0 (.y false)).length=G1.length:=F5 ..;have rr2:=zy.gen g2.fr g2.sM rr;have rw2:=Rep.gen g2.fr g2.sM rw1;have hlen:us.length=ys.length:=(zy.len rr).symm▸rfl;refine⟨by omega,U_ rr2 rw2 hkz λH' s=>⟨kz,by rw[WR hkz,hlen],by rw[a0I],λa ha=>?_⟩⟩;refine X0 (c:=.l (((V4 kz).map λi=>ys.getD i .n).map .v)) (h2.keep s) (zl.upd ha) ha ⟨_,zb,?_⟩ (by
  rw[hgl];exact HPx.gro (o:=HX.ok (HV.g G1.length) (G1.set 0 (.y false)++[.l (((V4 kz).map λi=>ys.getD i .n).map .v)])) q1 (g2.trans (Gro.same s)))
 have r0:=(rr2.same s).mf (V4 kz);have g3:Gro Z A1 G1.length H' (exA A1 G1.length a) (G1.length+1) (upd H' a (.lst ((V4 kz).map λi=>us.getD i .non))):=Gro.ext (zl.upd ha) ha;rw[hgl];exact d5 (zy.gen g3.fr g3.sM r0)
def Bo(x y:Str)(sc:Scope):Bool:=(match sc.kind with | .function=>true|_=>false)&&(!sc.isCoroutine&&(!sc.isGenerator&&((match sc.names.lookup x with|some .local=>true|_=>false)&&((match sc.names.lookup y with|some .free=>true|_=>false)&&sc.names.all λz=>match z.2 with | .cell=>false | .free=>z.1==y|_=>true))))
def AF(h:Bo x y sc=true):d7 x y sc:=by
 unfold Bo at h;simp only[Bool.and_eq_true,List.all_eq_true]at h;obtain⟨h1,h2,h3,h4,h5,h6⟩:=h;refine⟨?_,by simpa using h2,by simpa using h3,?_,?_,λz hz e=>?_,λz hz=>?_⟩
 .revert h1;cases sc.kind<;>simp
 .split at h4<;>simp_all
 .split at h5<;>simp_all
 .have:=h6 z hz;rw[e]at this;cases this
 .have:=h6 _ (O3 hz);exact eq_of_beq this
def uH(hn:sc.names=[(x,.local),(y,.free)])(h:env.cells.lookup y=some a):closureFor sc env=pure [(y,a)]:=by unfold closureFor cellOf;rw[hn];simp[h]
def LsR.sw{W:RC}{H H':Hp}{a:Addr}{es:Cf}(h1:Rd H a (.dK es))(h2:Rd H' a (.dK es))(hne:∀b,b≠a->H' b=H b){ys:Cy}:∀{ps:CM},(∀p∈ps,p≠a)->LsR W H ys ps->LsR W H' ys ps:=by
 induction ys with
 |nil=>intro ps _ h;exact h
 |cons y ys ih=>intro ps hp h;obtain⟨p,r,kvs,es',rfl,rfl,hi,hq,rk,hr⟩:=h;exact⟨p,r,kvs,es',rfl,rfl,hi,(hne p (hp p B3)).trans hq,rk.sw h1 h2 hne,ih (λq hq=>hp q (B4 _ hq)) hr⟩
def oW{g:TG}{tc:TT}{te:TE}{fr:Ct}{Si:Cb}(hS2:S[i]?≠some 2)(hS:Si=inS S fr)(hg:LG ⟨C.W,E0,false⟩ Si Si g mg)(ht:LT ⟨C.W,E0,false⟩ Si tc mc)(he:LFr ⟨C.W,E0,false⟩ Si te me){B:Bs}{P:Cm}{H:Hp}{σ:St}{ρ:Sto}(R:Rel C.W B S P H σ ρ)(Q:VK)(q:zE C B H (d0 C.W H) Q (mLC (zv i) fr mg mc (mLI me) ρ)):tGz (tLC (Wy (V2 i)) g tc te fr) σ H Q:=by
 cases hx:zv i ρ with
 |wall=>unfold mLC at q;rw[hx]at q;exact q.elim
 |exc c fs=>unfold zv at hx;split at hx<;>cases hx
 |ok xs=>
  obtain⟨kvs,hρ⟩:∃kvs,ρ[i]?=some (some (.d kvs)):=by
   unfold zv at hx;split at hx
   .rename_i kvs h;exact⟨kvs,h⟩
   .cases hx
  have hxs:xs=kvs.map λkx=>kP kx.1:=by unfold zv at hx;rw[hρ]at hx;cases hx;rfl
  subst hxs;obtain⟨a,es,hσ,na,hrd,hk⟩:=XU R hS2 hρ;rcases hrd with ha|⟨o,ha⟩
  .refine .inl ⟨a,es,ha,λo=>?_⟩;have h0:=XW R na ha;have Rf:=R.loop.sw (u':=.frz o (.dK es)) h0 (.inl rfl) (.inr ⟨o,rfl⟩);refine d3 (C:=C) (mi:=zv i) (λRr qq=>?_) rfl hS hg ht he Rf _ ?_
   .rw[hx]at qq;exact⟨.ref a,hσ,a,o,es,rfl,zb,qq _ _ (zl.refl _) (vJ zb hk)⟩
   .unfold mLC at q ⊢;rw[hx]at q ⊢;have q:zE C B H (d0 C.W H) Q (lcP mg mc (mLI me) (kvs.map λkx=>kP kx.1) (w_ ρ fr) []):=q;show zE C _ _ _ _ (lcP mg mc (mLI me) (kvs.map λkx=>kP kx.1) (w_ ρ fr) []);revert q;cases ho:lcP mg mc (mLI me) (kvs.map λkx=>kP kx.1) (w_ ρ fr) []with
    |wall=>exact id
    |exc c fs=>exact absurd ho Yc
    |ok x=>
     intro q v H2 s r;have hf:=s a _ (zb (H:=H) (o:=.frz o (.dK es)));refine⟨⟨o,hf⟩,q v _ (λb u hb=>?_) ?_⟩
     .by_cases e:b=a
      .subst e;rw[ha]at hb;rw[zb];exact hb
      .rw[zc e];exact s b u (by rw[zc e];exact hb)
     .obtain⟨ys,ps,l,e1,e2,hl,hl2,rl,hp,nd⟩:=r;have ne:∀{b:Addr},upd H a (.frz o (.dK es)) b=none->b≠a:=λh z=>by rw[z,zb]at h;cases h
      have la:=ne hl;rw[zc la]at hl;refine⟨ys,ps,l,e1,e2,hl,(zc la).trans hl2,rl.sw (.inr ⟨o,hf⟩) (.inl zb) (λb z=>zc z) λp hq=>ne (hp p hq).2,λp hq=>⟨(hp p hq).1,?_⟩,nd⟩;have:=(hp p hq).2;rw[zc (ne this)]at this;exact this
  .refine .inr (d3 (C:=C) (mi:=zv i) (λRr qq=>?_) rfl hS hg ht he R _ q);rw[hx]at qq;exact⟨.ref a,hσ,a,o,es,rfl,ha,qq _ _ (zl.refl _) (vJ ha hk)⟩
def oX(bs:Cj)(m:ME):HME:=λρ G=>match WI G bs ρ with
 |some r=>match m r with
  |.ok x=>ig G x
  |_=>.wall
 |none=>.wall
def oY(bs:Cj)(N:Cn)(fr:Ct)(Si:Cb)(hc:X.calm=true)(hok:bJ X scope N fr=true)(hv:PE X yM (V2 i))(hg:∀z:CI,GM (cxI X scope N z) ⟨W,E0,false⟩ Si Si tg mg)(ht:∀z:CI,TsM (cxI X scope N z) ⟨W,E0,false⟩ Si ifs mc)(he:∀z:CI,FM (cxI X scope N z) ⟨W,E0,false⟩ Si elt me)(hS2:S[i]?≠some 2:=by decide)(hS:Si=inS S fr:=by rfl)(h1:S.all (·==1)=true:=by rfl)(hb:bs.length<=S.length:=by decide)
  (hs:∀x,foldedSetIterable yM X.env x=pure x:=by intro _;rfl):HE X W E (.ListComp elt [⟨tg,yM,ifs,0⟩] scope pos) (oX bs (mLC (zv i) fr mg mc (mLI me))):=λhK=>by
 obtain⟨g,b1,b2⟩:=JG hg λ_=>hK;obtain⟨tc,c1,c2⟩:=JF ht λ_=>hK;obtain⟨te,d1,d2⟩:=dQ he λ_=>hK;refine⟨_,uc (nE N fr hc hok (Q5 hv) (λfp pn s H L=>b1 ⟨fp,pn,s,H,L⟩) (λfp pn s H L=>c1 ⟨fp,pn,s,H,L⟩) (λfp pn s H L=>d1 ⟨fp,pn,s,H,L⟩) hs),λZ hZ A H σ ρ G R Q q=>?_⟩;subst hZ;unfold oX at q;split at q
 .rename_i r hr;refine oW (C:=⟨Z.W,E,false⟩) hS2 hS b2 c2 d2 (uD R hr h1 hb) Q ?_;revert q;cases mLC (zv i) fr mg mc (mLI me) r with
  |ok x=>exact λq v H2 s rx=>mj R.toHH s q rx
  |exc c fs=>exact λq=>q.elim
  |wall=>exact id
 .exact q.elim
def p9(bs:Cj)(m:ME):HME:=λρ G=>match vN G bs ρ with
 |some r=>match m r with
  |.ok x=>ig G x
  |_=>.wall
 |none=>.wall
def oZ(bs:Cj)(N:Cn)(fr:Ct)(Si:Cb)(hN:X.N.Nodup)(hy:X.N[j]?=some y)(hl:X.env.scope.names.lookup y=some .local)(hc:X.calm=true)(hok:bJ X scope N fr=true)(hi:IM X ⟨W,E,fr'⟩ S true tg yM mi)(hg:∀z:CI,GM (cxI X scope N z) ⟨W,E0,false⟩ Si Si tg mg)(ht:∀z:CI,TsM (cxI X scope N z) ⟨W,E0,false⟩ Si ifs mc)(he:∀z:CI,FM (cxI X scope N z) ⟨W,E0,false⟩ Si elt me)(hS:Si=inS S fr:=by rfl)(h0:S.all (·==0)=true:=by rfl)
  (hsw:swapsWith (.ListComp elt [⟨tg,yM,ifs,0⟩] scope pos) (some (.Name y py)) bL.line X.env=pure true:=by rfl) (hs:∀x,foldedSetIterable yM X.env x=pure x:=by intro _;rfl):HS X W E (.Assign [.Name y py] (.ListComp elt [⟨tg,yM,ifs,0⟩] scope pos) bL) (wQ j (p9 bs (mLC mi fr mg mc (mLI me)))):=λhK=>by
 obtain⟨wi,a1,a2⟩:=hi hK;obtain⟨g,b1,b2⟩:=JG hg λ_=>hK;obtain⟨tc,c1,c2⟩:=JF ht λ_=>hK;obtain⟨te,d1,d2⟩:=dQ he λ_=>hK;refine⟨_,sG N fr hN hy hl hc hok a1 (λfp pn s H L=>b1 ⟨fp,pn,s,H,L⟩) (λfp pn s H L=>c1 ⟨fp,pn,s,H,L⟩) (λfp pn s H L=>d1 ⟨fp,pn,s,H,L⟩) hsw hs,l8 λZ hZ A H σ ρ G R Q q=>?_⟩;subst hZ;unfold p9 at q;split at q
 .rename_i r hr;refine d3 (C:=⟨Z.W,E,fr'⟩) (a2 _ _ H σ r (dI R hr h0)) rfl hS b2 c2 d2 (dI R hr h0) Q ?_;revert q;cases mLC mi fr mg mc (mLI me) r with
  |ok x=>exact λq v H2 s rx=>mj R.toHH s q rx
  |exc c fs=>exact λq=>q.elim
  |wall=>exact id
 .exact q.elim
def okF{α:Type}(o:Out α)(f:α->HFw):HFw:=match o with
 |.ok a=>f a
 |_=>.wall
def uI{α:Type}{o:Out α}{f:α->HFw}{a:α}(h:o=.ok a):okF o f=f a:=by rw[h];rfl
def AG(g:HMG)(b:HMS)(ρ:kA)(G:AH):HV->HFw
 |.v y=>okF (Kp [y]) λxs=>Zh g b (xs.map .v) ρ G
 |_=>.wall
def iz(m:HME)(g:HMG)(b:HMS):HMS:=λρ G=>(m ρ G).fw λx G1=>AG g b ρ G1 x
def uJ:AG g b ρ G (.v y)=okF (Kp [y]) λxs=>Zh g b (xs.map .v) ρ G:=rfl
def uK{α:Type}{x:α}{f:α->AH->HFw}:(HX.ok x G).fw f=f x G:=rfl
def iA(hm:m ρ G=.ok (.v (.i (n:Int))) G1)(hn:n<=1000)(h:Zh g b ((Q3 0 n).map .v) ρ G1=o):iz m g b ρ G=o:=by unfold iz;rw[hm,uK,uJ,uI (UW (by omega))];exact h
def iB(h:Kp [y]=.ok xs):∃n,y=.i n/\-(2 ^ 62)<=n/\n<2 ^ 62/\xs=Q3 0 n.toNat:=by
 unfold Kp at h;split at h
 .rename_i n e;injection e with e _
  split at h
  .rename_i c;injection h with h
   exact⟨n,e,c.1,c.2,h.symm⟩
  .cases h
 .cases h
def o7(hp:PassesOwn (Du X) X.A X.env X.xe)(hc:X.calm=true)(hr:Gl X "range")(hm:X.mg "range"=none)(ha:HE X W E a m)(hg:HG X W tg mg)(hb:HSs X W E body mb)(hst:starEach [a] X.env=[(false,eval a X.env)]:=by rfl)(hs:∀x,foldedSetIterable (.Call (.Name "range" p) [a] [] pos') X.env x=pure x:=by intro _;rfl):
  HS X W E (.For tg (.Call (.Name "range" p) [a] [] pos') body [] pos) (iz m mg mb):=λhK=>by
 obtain⟨ta,a1,a2⟩:=ha hK;obtain⟨g,b1,b2⟩:=hg hK;obtain⟨tb,c1,c2⟩:=hb hK;refine⟨_,Kz hp hc (V7 hr hm (ZH a1 KA hst) hst) b1 c1 hs,λZ hZ A H σ ρ G R D q=>?_⟩;refine a2 Z hZ A H σ ρ G R _ (HPs.bind q λx A1 H1 G1 h1 g1 q1 v rx=>?_);unfold AG at q1;split at q1
 .rename_i y;unfold okF at q1;split at q1
  .rename_i xs hxs;obtain⟨n,rfl,c1',c2',rfl⟩:=iB hxs;cases(show v=V.int n from rx);refine⟨n,rfl,c1',c2',?_⟩;have R1:=R.gro h1 g1;exact Ja (wi:=λ_ H R=>R (Itr 0 n.toNat) H) (σ:=σ) (H:=H1) hZ (λR' k=>k _ H1 (zl.refl _) lU) b2 c2 R1 q1
  .exact q1.elim
 .exact q1.elim
end L2
namespace L2
section
variable {κ α:Type}[DecidableEq κ]
def iC{k:κ}:zq ([]:List (κ×α)) k=none:=rfl
def zP{k j:κ}{v:α}{r:List (κ×α)}:zq ((j,v)::r) k=if j=k then some v else zq r k:=by
 unfold zq;rw[a0m];by_cases h:j=k
 .simp[h]
 .simp[h]
def jP:∀{kvs:List (κ×α)}{k:κ},kvs.any (λkv=>decide (kv.1=k))=(zq kvs k).isSome
 |[],_=>rfl
 | (j,v)::r,k=>by
  rw[O0,zP,jP];by_cases h:j=k
  .simp[h]
  .simp[h]
def aa:∀{a:List (κ×α)}{k j:κ}{v:α},zq (a++[(k,v)]) j=(zq a j).or (if k=j then some v else none)
 |[],k,j,v=>by rw[a0I,zP,iC];rfl
 | (i,u)::a,k,j,v=>by
  rw[a1t,zP,zP,aa];by_cases h:i=j
  .rw[if_pos h,if_pos h];rfl
  .rw[if_neg h,if_neg h]
def Vy:∀{a:List (κ×α)}{k j:κ}{v:α},zq (a.map λkv=>if kv.1=k then(kv.1,v)else kv) j=if k=j then(zq a j).map (λ_=>v)else zq a j
 |[],k,j,v=>by split<;>rfl
 | (i,u)::a,k,j,v=>by
  rw[C8];by_cases h:i=k
  .subst h;rw[if_pos rfl,zP,zP,Vy];by_cases h:i=j
   .rw[if_pos h,if_pos h,if_pos h];rfl
   .rw[if_neg h,if_neg h,if_neg h,if_neg h]
  .rw[if_neg (show ¬((i,u):κ×α).1=k from h),zP,zP,Vy];by_cases hj:i=j
   .rw[if_pos hj,if_pos hj,if_neg (λz=>h (hj.trans z.symm))]
   .rw[if_neg hj,if_neg hj]
def ye{a:List (κ×α)}{k j:κ}{v:α}:zq (dput a k v) j=if k=j then some v else zq a j:=by
 unfold dput;rw[jP];split
 .rename_i h;rw[Vy];split
  .rename_i e;subst e;obtain⟨x,hx⟩:=L8.mp h;rw[hx];rfl
  .rfl
 .rename_i h;rw[aa];by_cases e:k=j
  .subst e;have:zq a k=none:=by cases q:zq a k with|none=>rfl|some x=>rw[q]at h;exact absurd rfl h
   rw[this,if_pos rfl];rfl
  .rw[if_neg e,if_neg e];cases zq a j<;>rfl
def WS{a:List (κ×α)}{k:κ}{v:α}:(dput a k v).map (·.1)=if(zq a k).isSome=true then a.map (·.1)else a.map (·.1)++[k]:=by
 unfold dput;rw[jP];split
 .rw[D3];refine O9 λkv _=>?_;show(if kv.1=k then(kv.1,v)else kv).1=kv.1;split<;>rfl
 .rw[F8];rfl
def qW:∀{a:List (κ×α)}{k:κ}{v:α},zq a k=some v->(k,v)∈a
 |[],_,_,e=>by cases e
 | (j,u)::a,k,v,e=>by
  rw[zP]at e;split at e
  .rename_i h;subst h;cases e;exact B3
  .exact B4 _ (qW e)
def qX{a:List (κ×α)}{k:κ}:(zq a k).isSome=true↔k∈a.map (·.1):=by
 rw[<- jP,List.any_eq_true];constructor
 .rintro ⟨kv,h,e⟩;exact E1.mpr ⟨kv,h,M7 e⟩
 .intro h;obtain⟨kv,h,e⟩:=E1.mp h;exact⟨kv,h,L5 e⟩
def KP{a:List (κ×α)}{k:κ}{v:α}(h:(a.map (·.1)).Nodup):((dput a k v).map (·.1)).Nodup:=by
 rw[WS];split
 .exact h
 .rename_i n;refine L6.mpr ⟨h,by simp,λx hx y hy z=>?_⟩;obtain rfl:y=k:=by simpa using hy
  subst z;exact n (qX.mpr hx)
def WT{p q:κ->Bool}:∀{l:List κ}{r:κ},r∈l->p r=true->q r=false->(∀x,q x=true->p x=true)->l.countP q<l.countP p
 |a::l,r,h,hp,hq,hi=>by
  have m:=a1N (l:=l) (λx _=>hi x);rw[a0C,a0C];rcases C5.mp h with rfl|h
  .rw[if_pos hp,hq,if_neg (by decide)];omega
  .have:=WT h hp hq hi;cases hqa:q a with
   |false=>rw[if_neg (by decide)];split<;>omega
   |true=>rw[if_pos rfl,if_pos (hi a hqa)];omega
abbrev FrO(κ:Type):=Option (Bool×List (κ×κ)×List κ)
def frL(rc:κ->List (κ×κ)->List κ->FrO κ)(left:κ):List κ->List (κ×κ)->List κ->FrO κ
 |[],ow,tr=>some (false,ow,tr)
 |r::rs,ow,tr=>if r∈tr then frL rc left rs ow tr else
  match zq ow r with
  |none=>some (true,dput ow r left,tr++[r])
  |some l=>match rc l ow (tr++[r])with
   |none=>none
   |some (true,ow',tr')=>some (true,dput ow' r left,tr')
   |some (false,ow',tr')=>frL rc left rs ow' tr'
def fr(rows:κ->List κ):Nat->κ->List (κ×κ)->List κ->FrO κ
 |0,_,_,_=>none
 |n+1,left,ow,tr=>frL (fr rows n) left (rows left) ow tr
def ef(rows:κ->List κ)(rs:List κ)(ow:List (κ×κ))(tr:List κ)(ow':List (κ×κ))(tr':List κ):Prop:=
 ow'=ow/\(∀x∈tr,x∈tr')/\(∀y∈rs,y∈tr')/\∀x∈tr',x∈tr\/∃l,zq ow x=some l/\∀y∈rows l,y∈tr'
def JP{rows:κ->List κ}{rc:κ->List (κ×κ)->List κ->FrO κ}{left:κ}(hrec:∀{l ow tr ow' tr'},rc l ow tr=some (false,ow',tr')->ef rows (rows l) ow tr ow' tr'):
  ∀{rs:List κ}{ow:List (κ×κ)}{tr:List κ}{ow':List (κ×κ)}{tr':List κ},frL rc left rs ow tr=some (false,ow',tr')->ef rows rs ow tr ow' tr'
 |[],ow,tr,ow',tr',e=>by cases e;exact⟨rfl,λx h=>h,λy h=>(O5 h).elim,λx h=>Or.inl h⟩
 |r::rs,ow,tr,ow',tr',e=>by
  unfold frL at e;split at e
  .rename_i hr;obtain⟨a,b,c,d⟩:=JP hrec e;exact⟨a,b,λy hy=>(C5.mp hy).elim (λz=>z▸b r hr) (c y),d⟩
  .split at e
   .cases e
   .rename_i l hl;split at e
    .cases e
    .cases e
    .rename_i ow1 tr1 h1;obtain⟨a1,b1,c1,d1⟩:=hrec h1;subst a1;obtain⟨a,b,c,d⟩:=JP hrec e;have hr1:r∈tr1:=b1 r (C6 _ B3);refine⟨a,λx hx=>b x (b1 x (D7 _ hx)),λy hy=>(C5.mp hy).elim (λz=>z▸b r hr1) (c y),λx hx=>?_⟩;rcases d x hx with z|z
     .rcases d1 x z with w|⟨l2,w1,w2⟩
      .rcases E9.mp w with w|w
       .exact .inl w
       .obtain rfl:x=r:=by simpa using w
        exact .inr ⟨l,hl,λy hy=>b y (c1 y hy)⟩
      .exact .inr ⟨l2,w1,λy hy=>b y (w2 y hy)⟩
     .exact .inr z
def Yk{rows:κ->List κ}:∀{n:Nat}{l:κ}{ow:List (κ×κ)}{tr:List κ}{ow':List (κ×κ)}{tr':List κ},fr rows n l ow tr=some (false,ow',tr')->ef rows (rows l) ow tr ow' tr'
 |0,_,_,_,_,_,e=>by cases e
 |n+1,l,ow,tr,ow',tr',e=>JP (Yk (n:=n)) e
def Clo(rows:κ->List κ)(ow:List (κ×κ))(C:κ->Prop):Prop:=∀x,C x->∃l,zq ow x=some l/\∀y∈rows l,C y
structure Pre(left:κ)(ow:List (κ×κ))(tr:List κ):Prop where
 inj:∀x y l,x∉tr->y∉tr->zq ow x=some l->zq ow y=some l->x=y
 free:∀x,x∉tr->zq ow x≠some left
structure p_(rows:κ->List κ)(left:κ)(rs:List κ)(ow:List (κ×κ))(tr:List κ)(ow':List (κ×κ)):Prop where
 old:∀x∈tr,zq ow' x=zq ow x
 inj:∀x y l,x∉tr->y∉tr->zq ow' x=some l->zq ow' y=some l->x=y
 own:∀l,(∃x,x∉tr/\zq ow' x=some l)↔l=left\/∃x,x∉tr/\zq ow x=some l
 val:∀x l,zq ow' x=some l->zq ow x=some l\/(l=left/\x∈rs)\/x∈rows l
 clo:∀C,Clo rows ow C->(∀x,C x->zq ow' x=zq ow x)/\∃y∈rs,¬C y
 nd:(ow.map (·.1)).Nodup->(ow'.map (·.1)).Nodup
def p_.cons{rows:κ->List κ}{left r:κ}{rs:List κ}{ow:List (κ×κ)}{tr:List κ}{ow':List (κ×κ)}(h:p_ rows left rs ow tr ow'):p_ rows left (r::rs) ow tr ow':=
 ⟨h.old,h.inj,h.own,λx l e=>(h.val x l e).imp id (Or.imp (λz=>⟨z.1,B4 _ z.2⟩) id),λC hC=>⟨(h.clo C hC).1,let⟨y,a,b⟩:=(h.clo C hC).2;⟨y,B4 _ a,b⟩⟩,h.nd⟩
def Vz{rows:κ->List κ}{rc:κ->List (κ×κ)->List κ->FrO κ}{left:κ}(hf:∀{l ow tr ow' tr'},rc l ow tr=some (false,ow',tr')->ef rows (rows l) ow tr ow' tr')
  (hw:∀{l ow tr ow' tr'},rc l ow tr=some (true,ow',tr')->Pre l ow tr->p_ rows l (rows l) ow tr ow'):
  ∀{rs:List κ}{ow:List (κ×κ)}{tr:List κ}{ow':List (κ×κ)}{tr':List κ},frL rc left rs ow tr=some (true,ow',tr')->Pre left ow tr->p_ rows left rs ow tr ow'
 |[],ow,tr,ow',tr',e,_=>by cases e
 |r::rs,ow,tr,ow',tr',e,P=>by
  unfold frL at e;split at e
  .exact(Vz hf hw e P).cons
  .rename_i hr;split at e
   .rename_i hn;cases e;refine⟨λx hx=>?_,λx y l hx hy e1 e2=>?_,λl=>⟨λ⟨x,hx,e1⟩=>?_,λz=>?_⟩,λx l e1=>?_,λC hC=>?_,KP⟩
    .rw[ye,if_neg (show ¬r=x from λz=>hr (z▸hx))]
    .rw[ye]at e1 e2;split at e1<;>split at e2
     .rename_i a b;exact a.symm.trans b
     .cases e1;exact absurd e2 (P.free y hy)
     .cases e2;exact absurd e1 (P.free x hx)
     .exact P.inj x y l hx hy e1 e2
    .rw[ye]at e1;split at e1
     .cases e1;exact .inl rfl
     .exact .inr ⟨x,hx,e1⟩
    .rcases z with rfl|⟨x,hx,e1⟩
     .exact⟨r,hr,by rw[ye,if_pos rfl]⟩
     .refine⟨x,hx,?_⟩;rw[ye,if_neg (λz=>by subst z;rw[hn]at e1;cases e1)];exact e1
    .rw[ye]at e1;split at e1
     .rename_i z;cases e1;subst z;exact .inr (.inl ⟨rfl,B3⟩)
     .exact .inl e1
    .have nr:¬C r:=λc=>by obtain⟨l,h,_⟩:=hC r c;rw[hn]at h;cases h
     exact⟨λx c=>by rw[ye,if_neg (show ¬r=x from λz=>nr (z▸c))],r,B3,nr⟩
   .rename_i l1 hl;split at e
    .cases e
    .rename_i ow1 tr1 h1;cases e;have P1:Pre l1 ow (tr++[r]):=⟨λx y l hx hy=>P.inj x y l (λz=>hx (D7 _ z)) (λz=>hy (D7 _ z)),λx hx e1=>hx (C6 _ (by
      have:=P.inj x r l1 (λz=>hx (D7 _ z)) hr e1 hl;simp[this]))⟩
     have w:=hw h1 P1;have ne1:left≠l1:=λz=>P.free r hr (z▸hl);have nt:∀x,x∉tr->r≠x->x∉tr++[r]:=λx hx n z=>(E9.mp z).elim hx λz=>n (C7.mp z).symm;have lf:∀x,x∉tr->r≠x->zq ow1 x≠some left:=λx hx n e1=>by
      rcases(w.own left).mp ⟨x,nt x hx n,e1⟩with z|⟨y,hy,z⟩
      .exact ne1 z
      .exact P.free y (λq=>hy (D7 _ q)) z
     refine⟨λx hx=>?_,λx y l hx hy e1 e2=>?_,λl=>⟨λ⟨x,hx,e1⟩=>?_,λz=>?_⟩,λx l e1=>?_,λC hC=>?_,λnd=>KP (w.nd nd)⟩
     .rw[ye,if_neg (show ¬r=x from λz=>hr (z▸hx))];exact w.old x (D7 _ hx)
     .rw[ye]at e1 e2;split at e1<;>split at e2
      .rename_i a b;exact a.symm.trans b
      .rename_i a b;cases e1;exact absurd e2 (lf y hy b)
      .rename_i a b;cases e2;exact absurd e1 (lf x hx a)
      .rename_i a b;exact w.inj x y l (nt x hx a) (nt y hy b) e1 e2
     .rw[ye]at e1;split at e1
      .cases e1;exact .inl rfl
      .rename_i a;rcases(w.own l).mp ⟨x,nt x hx a,e1⟩with rfl|⟨y,hy,z⟩
       .exact .inr ⟨r,hr,hl⟩
       .exact .inr ⟨y,λq=>hy (D7 _ q),z⟩
     .rcases z with rfl|⟨x,hx,e1⟩
      .exact⟨r,hr,by rw[ye,if_pos rfl]⟩
      .have:∃y,y∉tr++[r]/\zq ow1 y=some l:=(w.own l).mpr (by
        by_cases q:r=x
        .subst q;rw[hl]at e1;cases e1;exact .inl rfl
        .exact .inr ⟨x,nt x hx q,e1⟩)
       obtain⟨y,hy,e2⟩:=this;refine⟨y,λq=>hy (D7 _ q),?_⟩;rw[ye,if_neg (λz=>hy (C6 _ (by simp[z])))];exact e2
     .rw[ye]at e1;split at e1
      .rename_i z;cases e1;subst z;exact .inr (.inl ⟨rfl,B3⟩)
      .rcases w.val x l e1 with z|⟨rfl,z⟩|z
       .exact .inl z
       .exact .inr (.inr z)
       .exact .inr (.inr z)
     .have nr:¬C r:=λc=>by obtain⟨l,h,q⟩:=hC r c;rw[hl]at h;cases h;obtain⟨y,hy,n⟩:=(w.clo C hC).2;exact n (q y hy)
      exact⟨λx c=>by rw[ye,if_neg (show ¬r=x from λz=>nr (z▸c))];exact(w.clo C hC).1 x c,r,B3,nr⟩
    .rename_i ow1 tr1 h1;obtain⟨a1,b1,c1,d1⟩:=hf h1;subst a1;have sub:∀x,x∈tr->x∈tr1:=λx hx=>b1 x (D7 _ hx);have w:=Vz hf hw e ⟨λx y l hx hy=>P.inj x y l (λz=>hx (sub x z)) (λz=>hy (sub y z)),λx hx=>P.free x λz=>hx (sub x z)⟩;refine⟨λx hx=>w.old x (sub x hx),λx y l hx hy e1 e2=>?_,λl=>?_,w.cons.val,w.cons.clo,w.nd⟩
     .by_cases q1:x∈tr1<;>by_cases q2:y∈tr1
      .rw[w.old x q1]at e1;rw[w.old y q2]at e2;exact P.inj x y l hx hy e1 e2
      .rw[w.old x q1]at e1;rcases(w.own l).mp ⟨y,q2,e2⟩with rfl|⟨z,hz,e3⟩
       .exact absurd e1 (P.free x hx)
       .have:=P.inj x z l hx (λq=>hz (sub z q)) e1 e3;subst this;exact absurd q1 hz
      .rw[w.old y q2]at e2;rcases(w.own l).mp ⟨x,q1,e1⟩with rfl|⟨z,hz,e3⟩
       .exact absurd e2 (P.free y hy)
       .have:=P.inj y z l hy (λq=>hz (sub z q)) e2 e3;subst this;exact absurd q2 hz
      .exact w.inj x y l q1 q2 e1 e2
     .constructor
      .rintro ⟨x,hx,e1⟩
       by_cases q1:x∈tr1
       .rw[w.old x q1]at e1;exact .inr ⟨x,hx,e1⟩
       .rcases(w.own l).mp ⟨x,q1,e1⟩with z|⟨y,hy,z⟩
        .exact .inl z
        .exact .inr ⟨y,λq=>hy (sub y q),z⟩
      .rintro (rfl|⟨x,hx,e1⟩)
       .obtain⟨x,hx,z⟩:=(w.own l).mpr (.inl rfl);exact⟨x,λq=>hx (sub x q),z⟩
       .by_cases q1:x∈tr1
        .exact⟨x,hx,by rw[w.old x q1];exact e1⟩
        .obtain⟨y,hy,z⟩:=(w.own l).mpr (.inr ⟨x,q1,e1⟩);exact⟨y,λq=>hy (sub y q),z⟩
def eg{rows:κ->List κ}:∀{n:Nat}{l:κ}{ow:List (κ×κ)}{tr:List κ}{ow':List (κ×κ)}{tr':List κ},fr rows n l ow tr=some (true,ow',tr')->Pre l ow tr->p_ rows l (rows l) ow tr ow'
 |0,_,_,_,_,_,e,_=>by cases e
 |n+1,l,ow,tr,ow',tr',e,P=>Vz Yk (eg (n:=n)) e P
def JQ(ow:List (κ×κ))(tr:List κ):Nat:=(ow.map (·.1)).countP λx=>decide (x∉tr)
def VA{rows:κ->List κ}{rc:κ->List (κ×κ)->List κ->FrO κ}{left:κ}{n:Nat}(hf:∀{l ow tr ow' tr'},rc l ow tr=some (false,ow',tr')->ef rows (rows l) ow tr ow' tr')
  (he:∀{l ow tr},JQ ow tr<n->rc l ow tr≠none):∀{rs:List κ}{ow:List (κ×κ)}{tr:List κ},JQ ow tr<=n->frL rc left rs ow tr≠none
 |[],ow,tr,_,e=>by cases e
 |r::rs,ow,tr,h,e=>by
  unfold frL at e;split at e
  .exact VA hf he h e
  .rename_i hr;split at e
   .cases e
   .rename_i l hl;have lt:JQ ow (tr++[r])<JQ ow tr:=WT (qX.mp (by rw[hl];rfl)) (by simpa using hr) (by simp) λx hx=>by simp only[decide_eq_true_eq]at hx ⊢;exact λz=>hx (D7 _ z)
    split at e
    .rename_i h1;exact he (D0 lt h) h1
    .cases e
    .rename_i ow1 tr1 h1;obtain⟨a1,b1,_,_⟩:=hf h1;subst a1;refine VA hf he (E3 (a1N λx _ hx=>?_) h) e;simp only[decide_eq_true_eq]at hx ⊢;exact λz=>hx (b1 x (D7 _ z))
def eh{rows:κ->List κ}:∀{n:Nat}{l:κ}{ow:List (κ×κ)}{tr:List κ},JQ ow tr<n->fr rows n l ow tr≠none
 |0,_,_,_,h=>absurd h (S0 _)
 |n+1,l,ow,tr,h=>VA Yk (eh (n:=n)) (Nat.le_of_lt_succ h)
def Qx:∀{a b:List κ},a.Nodup->(∀x∈a,x∈b)->a.length<=b.length
 |[],b,_,_=>F7 _
 |x::a,b,nd,h=>by obtain⟨n1,n2⟩:=G6.mp nd;have hx:=h x B3;have:=Qx (b:=b.erase x) n2 λy hy=>(List.mem_erase_of_ne (show y≠x from λz=>n1 (z▸hy))).mpr (h y (B4 _ hy));rw[List.length_erase_of_mem hx]at this;have:=List.length_pos_of_mem hx;rw[B0];omega
structure Good(rows:κ->List κ)(done:List κ)(ow:List (κ×κ)):Prop where
 nd:(ow.map (·.1)).Nodup
 inj:∀x y l,zq ow x=some l->zq ow y=some l->x=y
 val:∀x l,zq ow x=some l->x∈rows l
 sub:∀x l,zq ow x=some l->l∈done
 uns:∀l∈done,(∃x,zq ow x=some l)\/∃C,Clo rows ow C/\∀y∈rows l,C y
def zF:∀{a:List (κ×α)}{k:κ}{v:α},(a.map (·.1)).Nodup->(k,v)∈a->zq a k=some v
 | (j,u)::a,k,v,nd,h=>by
  obtain⟨n1,n2⟩:=G6.mp nd;rw[zP];rcases C5.mp h with e|h
  .cases e;rw[if_pos rfl]
  .rw[if_neg (λz=>n1 (E1.mpr ⟨_,h,z.symm⟩))];exact zF n2 h
def ej:∀{a:List (κ×κ)},(a.map (·.1)).Nodup->(∀x y l,(x,l)∈a->(y,l)∈a->x=y)->(a.map (·.2)).Nodup
 |[],_,_=>P8
 | (k,v)::a,nd,h=>by obtain⟨n1,n2⟩:=G6.mp nd;refine G6.mpr ⟨λz=>?_,ej n2 λx y l h1 h2=>h x y l (B4 _ h1) (B4 _ h2)⟩;obtain⟨⟨j,u⟩,hj,e⟩:=E1.mp z;have e:u=v:=e;subst e;have:=h k j u B3 (B4 _ hj);subst this;exact n1 (E1.mpr ⟨_,hj,rfl⟩)
def Good.vals{rows:κ->List κ}{done:List κ}{ow:List (κ×κ)}(g:Good rows done ow):(ow.map (·.2)).Nodup:=
 ej g.nd λx y l h1 h2=>g.inj x y l (zF g.nd h1) (zF g.nd h2)
def Good.len{rows:κ->List κ}{done:List κ}{ow:List (κ×κ)}(g:Good rows done ow):ow.length<=done.length:=by
 have:=Qx (b:=done) g.vals λl hl=>by obtain⟨⟨x,l'⟩,h,e⟩:=E1.mp hl;have e:l'=l:=e;subst e;exact g.sub x l' (zF g.nd h)
 rwa [u8]at this
def gr(rows:κ->List κ)(n:Nat):List κ->List (κ×κ)->Option (List (κ×κ))
 |[],ow=>some ow
 |l::ls,ow=>match fr rows n l ow []with
  |none=>none
  |some (_,ow',_)=>gr rows n ls ow'
def Good.one{rows:κ->List κ}{l:κ}{done:List κ}{ow:List (κ×κ)}(g:Good rows done ow)(hl:l∉done)(hn:done.length<n):
  ∃b ow' tr',fr rows n l ow []=some (b,ow',tr')/\Good rows (done++[l]) ow':=by
 have ne:fr rows n l ow []≠none:=eh (F1 (E3 a0G (by rw[u8];exact g.len)) hn);cases e:fr rows n l ow []with
 |none=>exact absurd e ne
 |some q=>
  obtain⟨b,ow',tr'⟩:=q;refine⟨b,ow',tr',rfl,?_⟩;cases b with
  |false=>
   obtain⟨rfl,_,c,d⟩:=Yk e;refine⟨g.nd,g.inj,g.val,λx l h=>D7 _ (g.sub x l h),λl' h=>?_⟩;rcases E9.mp h with h|h
   .exact g.uns l' h
   .obtain rfl:=C7.mp h;exact .inr ⟨(·∈tr'),λx hx=>(d x hx).elim (λz=>(O5 z).elim) id,c⟩
  |true=>
   have w:=eg e ⟨λx y l _ _=>g.inj x y l,λx _ h=>hl (g.sub x l h)⟩;have nn:∀x:κ,x∉([]:List κ):=λx h=>O5 h;refine⟨w.nd g.nd,λx y l=>w.inj x y l (nn x) (nn y),λx l' h=>?_,λx l' h=>?_,λl' h=>?_⟩
   .rcases w.val x l' h with z|⟨rfl,z⟩|z
    .exact g.val x l' z
    .exact z
    .exact z
   .rcases(w.own l').mp ⟨x,nn x,h⟩with rfl|⟨y,_,z⟩
    .exact C6 _ B3
    .exact D7 _ (g.sub y l' z)
   .rcases E9.mp h with h|h
    .rcases g.uns l' h with⟨x,z⟩|⟨C,c1,c2⟩
     .obtain⟨y,_,z⟩:=(w.own l').mpr (.inr ⟨x,nn x,z⟩);exact .inl ⟨y,z⟩
     .refine .inr ⟨C,λx hx=>?_,c2⟩;rw[(w.clo C c1).1 x hx];exact c1 x hx
    .obtain rfl:=C7.mp h;obtain⟨y,_,z⟩:=(w.own l').mpr (.inl rfl);exact .inl ⟨y,z⟩
def iD{rows:κ->List κ}:Good rows [] []where
 nd:=P8
 inj:=λx y l (h:none=some l)=>by cases h
 val:=λx l (h:none=some l)=>by cases h
 sub:=λx l (h:none=some l)=>by cases h
 uns:=λl h=>(O5 h).elim
def Good.clo{rows:κ->List κ}{done:List κ}{ow:List (κ×κ)}(g:Good rows done ow):∃C,Clo rows ow C/\∀l∈done,(∀x,zq ow x≠some l)->∀y∈rows l,C y:=
 ⟨λx=>∃C,Clo rows ow C/\C x,λx ⟨C,hC,hx⟩=>let⟨l,h1,h2⟩:=hC x hx;⟨l,h1,λy hy=>⟨C,hC,h2 y hy⟩⟩,λl hl hn y hy=>by
  rcases g.uns l hl with⟨x,z⟩|⟨C,c1,c2⟩
  .exact absurd z (hn x)
  .exact⟨C,c1,c2 y hy⟩⟩
end
section
variable {κ α:Type}[DecidableEq κ]
def iE{done V:List κ}(nd:done.Nodup)(nv:V.Nodup)(h:∀x∈V,x∈done):(done.filter λl=>decide (l∉V)).length+V.length=done.length:=by
 have e1:(done.filter λl=>decide (l∈V)).length=V.length:=Nat.le_antisymm
  (Qx (nd.sublist P0) λx hx=>by simpa using(E7.mp hx).2)
  (Qx nv λx hx=>E7.mpr ⟨h x hx,by simpa using hx⟩)
 have e2:∀l:List κ,(l.filter λl=>decide (l∉V)).length+(l.filter λl=>decide (l∈V)).length=l.length:=λl=>by
  induction l with
  |nil=>rfl
  |cons a l ih=>
   rw[T0,T0];by_cases q:a∈V
   .simp only[q,not_true_eq_false,decide_false,decide_true,if_true,Bool.false_eq_true,if_false,List.length_cons];omega
   .simp only[q,not_false_eq_true,decide_false,decide_true,if_true,Bool.false_eq_true,if_false,List.length_cons];omega
 rw[<- e1];exact e2 done
def outside(V:List κ)(k:κ):Bool:=decide (k∉V)
def zz{V:List κ}{k:κ}:outside V k=true↔k∉V:=by unfold outside;exact decide_eq_true_iff
def bare(done V:List κ):List κ:=done.filter (outside V)
def Yl{done V:List κ}{k:κ}:k∈bare done V↔k∈done/\k∉V:=by unfold bare;rw[E7,zz]
def o8{done V:List κ}(h:done.Nodup):(bare done V).Nodup:=h.sublist P0
def iF{done V:List κ}(nd:done.Nodup)(nv:V.Nodup)(h:∀x∈V,x∈done):(bare done V).length+V.length=done.length:=iE nd nv h
end
end L2
namespace K35
open PySem L2
noncomputable section NCS
def top(i:Nat):Stmt:=PySem.Challenge.pw_fleetpath_k35_chains.main.body.getD i (.Pass ⟨0,0,0,0⟩)
abbrev JR:Stmt:=top 23
abbrev vP:Stmt:=top 26
abbrev Y_:Stmt:=top 22
abbrev Qa:Stmt:=top 25
abbrev vQ:Stmt:=top 27
abbrev ZQ:Stmt:=top 28
abbrev Qb:Stmt:=top 29
abbrev ke:Stmt:=inClass (top 2) 0
abbrev vR:Stmt:=top 5
abbrev vS:Stmt:=top 8
abbrev kX:Stmt:=inClass (top 3) 0
abbrev kY:Stmt:=top 15
abbrev ZR:Stmt:=inClass (top 13) 0
abbrev kZ:Stmt:=top 16
abbrev qo:Stmt:=inClass (top 14) 0
abbrev qO:Stmt:=top 17
abbrev k7:Stmt:=top 18
abbrev vT:Stmt:=top 9
abbrev qp:Stmt:=top 10
abbrev Qc:Stmt:=top 11
abbrev vU:Stmt:=top 19
abbrev VB:Stmt:=top 20
abbrev k8:Stmt:=top 31
abbrev k9:Stmt:=top 30
abbrev jq:Stmt:=top 32
abbrev vV:Stmt:=top 33
abbrev o_:Stmt:=top 34
def scB(N P:Cn)(sc:Scope):Bool:=(match sc.kind with | .function=>true|_=>false)&&(!sc.isCoroutine&&(!sc.isGenerator&&(decide N.Nodup&&(decide (N.take P.length=P)&&(P.all (λx=>match sc.names.lookup x with|some .local=>true|some .cell=>true|_=>false)&&sc.names.all λy=>match y.2 with | .free=>false|_=>true)))))
def Qd(h:scB N P sc=true):zr N P sc:=by
 unfold scB at h;simp only[Bool.and_eq_true,decide_eq_true_eq,List.all_eq_true]at h;obtain⟨h1,h2,h3,h4,h5,h6,h7⟩:=h;refine⟨?_,by simpa using h2,by simpa using h3,h4,h5,λx hx=>?_,λy hy e=>?_⟩
 .revert h1;cases sc.kind<;>simp
 .have:=h6 x hx;split at this<;>simp_all
 .have:=h7 y hy;rw[e]at this;cases this
def KQ:zr ["_law_cell_here","_law_turn","_law_number"] ["_law_cell_here","_law_turn"] (zg JR):=Qd (by decide +kernel)
def qd:zr ["_law_cells","_law_wide","_law_some","_law_points_here","_law_cell_here","_law_one","_law_other"] ["_law_cells","_law_wide","_law_some"] (zg vP):=Qd (by decide +kernel)
def Ub:zr ["_law_script","_law_k"] ["_law_script","_law_k"] (zg Y_):=Qd (by decide +kernel)
def yf:zr ["_law_cell_here","_law_k","_law_signs","_law_base","_law_turn","_law_size","_law_at","_law_number","_law_two"] ["_law_cell_here","_law_k"] (zg Qa):=Qd (by decide +kernel)
def VC:zr ["_law_one","_law_other"] ["_law_one","_law_other"] (zg vQ):=Qd (by decide +kernel)
def zu:zr ["_law_script","_law_most","_law_some","_law_cells","_law_wide","_law_many","_law_points_here","_law_names","_law_order_here","_law_k","_law_behind"] ["_law_script","_law_most"] (zg ZQ):=Qd (by decide +kernel)
def ZS:zr ["_law_order_here","_law_copied","_law_name"] ["_law_order_here"] (zg Qb):=Qd (by decide +kernel)
def JS:zr ["self","most"] ["self","most"] (zg ke):=Qd (by decide +kernel)
def VD:zr ["things","most"] ["things","most"] (zg vR):=Qd (by decide +kernel)
def Ym:zr ["rows","left"] ["rows"] (zg vS):=Qd (by decide +kernel)
def Kq:zr ["self","name"] ["self","name"] (zg kX):=Qd (by decide +kernel)
def kf:zr ["order","name","other"] ["order"] (zg kY):=Qd (by decide +kernel)
def WU:zr ["self","name"] ["self","name"] (zg ZR):=Qd (by decide +kernel)
def Zi:zr ["order","name"] ["order"] (zg kZ):=Qd (by decide +kernel)
def Yn:zr ["self","first","second","third"] ["self","first","second","third"] (zg qo):=Qd (by decide +kernel)
def yF:zr ["order","first","behind","second","third"] ["order","first"] (zg qO):=Qd (by decide +kernel)
def Zj:zr ["order","first"] ["order"] (zg k7):=Qd (by decide +kernel)
def Yo:zr ["rows","left","owners","tried","right"] ["rows","left","owners","tried"] (zg vT):=Qd (by decide +kernel)
def qe:zr ["rows","owners","left"] ["rows"] (zg qp):=Qd (by decide +kernel)
def JT:zr ["rows","owners"] ["rows"] (zg Qc):=Qd (by decide +kernel)
def Yp:zr ["name","given","chain"] ["name","given"] (zg vU):=Qd (by decide +kernel)
def JU:zr ["order","given","followers"] ["order"] (zg VB):=Qd (by decide +kernel)
def zM:zr ["_law_order_here","_law_heights_here","_law_name","_law_rises","_law_other"] ["_law_order_here"] (zg k8):=Qd (by decide +kernel)
def qx:zr ["_law_found","_law_order_here","_law_seen","_law_chain","_law_k"] ["_law_found","_law_order_here"] (zg k9):=Qd (by decide +kernel)
def zV:zr ["_law_order_here","_law_heights_here","_law_ends","_law_name","_law_put","_law_k"] ["_law_order_here","_law_heights_here"] (zg jq):=Qd (by decide +kernel)
def k_:zr ["_law_heights_here","_law_counts","_law_name"] ["_law_heights_here"] (zg vV):=Qd (by decide +kernel)
def vW:zr ["_law_script","_law_order_here","_law_handed","_law_found","_law_heights_here","_law_kept","_law_turned","_law_name","_law_other","_law_chain","_law_again"] ["_law_script"] (zg o_):=Qd (by decide +kernel)
abbrev NsN(K:CZ)(x:Str):Prop:=W.nsIn K mainGlobals x=some none
abbrev NsR(K:CZ)(x:Str)(c:Addr):Prop:=W.nsIn K mainGlobals x=some (some (.ref c))
def ev(i:Nat)(hN:X.N[i]?=some x:=by rfl)(hv:Vis X.env.scope x:=by first|exact Or.inl rfl|exact Or.inr (Or.inl rfl)|exact Or.inr (Or.inr rfl))(hd:(x==("__debug__":Str))=false:=by decide)(hcd:(x==("__classdict__":Str))=false:=by decide):EM X C S true (.Name x pos) (zd i):=sL (pv i hN hv hd hcd)
def ei{j}:EM X C S false (.Constant (.int i) j pos) (mC (.i i)):=cF i5
def rm(hr:jd k A)(h:j<=k:=by decide):jd j A:=hr.mono h
def uL(h1:W.findIn K (.ref C) "__init__"=some (some (.ref f)))(h2:K.lookup C=some (excClassObj nm q C N bs bm true sn sub ab col dd k0 k1 k2 k3 k5 "ValueError.__new__"))(h3:Wl K bm=true)(h4:W.typeIn K (.ref f)=some (.type "function"))(h5:W.keepIn K (.ref C)=true):XMk K C f:=⟨⟨_,_,_,_,_,_,_,_,_,_,_,_,_,_,_,h2,h3⟩,h1,h4,h5⟩
abbrev fnT(st:CV)(sh q:Str)(kV dc pm:Value)(an:CH)(cd ct:Value):FuncData:=W.fnOf sh q (Jp st) (kO st) (zg st) .none kV dc pm an cd ct
abbrev DfN(K:CZ)(x:Str)(st:CV)(f:Addr)(fd:CA):Prop:=W.nsIn K mainGlobals x=some (some (.ref f))/\Fun K x x st f fd
structure Def(K:CZ)(mg:Cc)(x:Str)(st:CV)(ps:Cn)(f:Addr)(fd:CA):Prop where
 g:mg x=some (.ref f)
 F:Fun K x x st f fd
 b:Binds K fd ps []
def Def.k(D:Def K mg x st ps f fd):W.keepIn K (.ref f)=true:=D.F.kp
abbrev BN(x q:Str)(st:CV)(ps:Cn):Prop:=∀(kV dc pm:Value)(an:CH)(cd ct:Value)(us:Cg),us.length=ps.length->bindArgs (fnT st x q kV dc pm an cd ct) ⟨us,[]⟩=pure (ps.zip us)
def yz(X:K.In h)(G:h.Ns mainGlobals mg)(D:DfN K x st f fd)(b:BN x x st ps):Def K mg x st ps f fd:=⟨a1i X G D.1,D.2,D.2.binds b⟩
def ec{X:Cx}{C:LC}{S:Cb}{k j:Nat}{f:Addr}{fd:CA}{ps:Cn}{fr:Bool}{ws:Cj}{g:Cw}{x:Str}{st:CV}{e:Co}{es:Ci}{ms:MA}{p pos:Pos}(F:qQ X.prog X.w X.K X.mg X.base (CXe X.prog X.w) k f fd ps (lsp C.W fr ws g))(hr:jd j X.A)(D:Def X.K X.mg x st ps f fd)(hx:Passes (CXe X.prog X.w) X C.E)(ha:AM X C S ws (e::es) ms)(hj:k<=j:=by decide)(hg:Gl X x:=by rfl)
  (hdb:(x==("__debug__":Str))=false:=by decide) (he:starEach (e::es) X.env=(false,eval e X.env)::starEach es X.env:=by rfl) (hpl:(backTo pos (starEach es X.env)).any (·.1)=false:=by rfl):EM X C S false (.Call (.Name x p) (e::es) [] pos) (zh g ms):=nP F (hr.mono hj) hg D.g D.k D.b hx ha hdb he hpl
def gn(i:Nat)(hN:X.N.Nodup)(hi:X.N[i]?=some x:=by rfl)(hx:Loc X.env.scope x:=by exact .inl rfl)(hf:X.fn x=true\/X.env.scope.names.lookup x=some .local:=by first|exact .inl rfl|exact .inr rfl|assumption):GM X C S (S.set i 0) (.Name x pos) (gNm i):=qN hN hi hx hf
def se(i:Nat)(hN:X.N.Nodup)(h:EM X C S false e m)(hi:X.N[i]?=some x:=by rfl)(hx:Loc X.env.scope x:=by exact .inl rfl)(hs:swapsWith e (some (.Name x pos')) pos.line X.env=pure false:=by rfl)(hf:X.fn x=true\/X.env.scope.names.lookup x=some .local:=by first|exact .inl rfl|exact .inr rfl|assumption):SM X C S (S.set i 0) Sb Sc (.Assign [.Name x pos'] e pos) (qS i m):=cU hN hi hx h hs hf
def ix(hr:jd k X.A)(h1:EM X C S w1 a m1)(h2:EM X C S w2 b m2)(hs:Xt b:=by intro _ _;rfl):EM X C S false (.Subscript a b pos) (mOp pIx m1 m2):=Ad (jn hr) h1 h2 hs
def hse(i:Nat)(hN:X.N.Nodup)(h:HE X W E e m)(hi:X.N[i]?=some x:=by rfl)(hx:Loc X.env.scope x:=by exact .inl rfl)(hs:swapsWith e (some (.Name x pos')) pos.line X.env=pure false:=by rfl)(hf:X.fn x=true\/X.env.scope.names.lookup x=some .local:=by first|exact .inl rfl|exact .inr rfl|assumption):HS X W E (.Assign [.Name x pos'] e pos) (wQ i m):=WE hN hi hx h hs hf
def hp(h:EM X ⟨W,E,false⟩ (List.replicate 30 0) false e m):HE X W E e (hP bs m):=BW bs h (P5.mpr λ_ h=>by rw[a1u h];rfl)
def hf(h:FM X ⟨W,E,false⟩ (List.replicate 30 0) e m):HE X W E e (hF bs m):=BY bs h (P5.mpr λ_ h=>by rw[a1u h];rfl)
def bn1(h:∀kV dc pm an cd ct u0,bindArgs (fnT st x q kV dc pm an cd ct) ⟨[u0],[]⟩=pure (ps.zip [u0]):=by intros;rfl)(hp:ps.length=1:=by rfl):BN x q st ps:=λkV dc pm an cd ct us hl=>As (P:=λus=>bindArgs (fnT st x q kV dc pm an cd ct) ⟨us,[]⟩=pure (ps.zip us)) (hl.trans hp) λu0=>h kV dc pm an cd ct u0
def bn2(h:∀kV dc pm an cd ct u0 u1,bindArgs (fnT st x q kV dc pm an cd ct) ⟨[u0,u1],[]⟩=pure (ps.zip [u0,u1]):=by intros;rfl)(hp:ps.length=2:=by rfl):BN x q st ps:=λkV dc pm an cd ct us hl=>Au (P:=λus=>bindArgs (fnT st x q kV dc pm an cd ct) ⟨us,[]⟩=pure (ps.zip us)) (hl.trans hp) λu0 u1=>h kV dc pm an cd ct u0 u1
def bn3(h:∀kV dc pm an cd ct u0 u1 u2,bindArgs (fnT st x q kV dc pm an cd ct) ⟨[u0,u1,u2],[]⟩=pure (ps.zip [u0,u1,u2]):=by intros;rfl)(hp:ps.length=3:=by rfl):BN x q st ps:=λkV dc pm an cd ct us hl=>Av (P:=λus=>bindArgs (fnT st x q kV dc pm an cd ct) ⟨us,[]⟩=pure (ps.zip us)) (hl.trans hp) λu0 u1 u2=>h kV dc pm an cd ct u0 u1 u2
def bn4(h:∀kV dc pm an cd ct u0 u1 u2 u3,bindArgs (fnT st x q kV dc pm an cd ct) ⟨[u0,u1,u2,u3],[]⟩=pure (ps.zip [u0,u1,u2,u3]):=by intros;rfl)(hp:ps.length=4:=by rfl):BN x q st ps:=λkV dc pm an cd ct us hl=>Aw (P:=λus=>bindArgs (fnT st x q kV dc pm an cd ct) ⟨us,[]⟩=pure (ps.zip us)) (hl.trans hp) λu0 u1 u2 u3=>h kV dc pm an cd ct u0 u1 u2 u3
structure Adr where
 (jG vj Ka zI zQ y8 yI jj yb yB y6 kn zH zD vk yJ Z1 yK qt zW zL QD kI KW yA aI yg zB wu yc xj pS pT:Addr)
 (Xd QE KY KZ QF Kb K0 kr QG QH vm YJ Z2 YK qu vq YL QI kJ K1 QJ aJ YM YN jH QK xk:CA)
 (Xe:Tok)
abbrev Bp(K:CZ)(mg:Cc)(a:Adr):Prop:=
 (mg "MOST_LEFTS"=some (.int 40 a.Xe))/\
 (mg "TooMany"=some (.ref a.jG))/\
 (mg "NoTrip"=some (.ref a.vj))/\
 (mg "Ring"=some (.ref a.Ka))/\
 (mg "NotOrdered"=some (.ref a.zI))/\
 (mg "dict"=none)/\
 (mg "isinstance"=none)/\
 (mg "len"=none)
abbrev Bq(K:CZ)(mg:Cc)(a:Adr):Prop:=
 (mg "list"=none)/\
 (mg "max"=none)/\
 (mg "range"=none)/\
 (mg "reversed"=none)/\
 (mg "sorted"=none)/\
 (mg "str"=none)/\
 (Def K mg "_law_mix" JR ["_law_cell_here","_law_turn"] a.zQ a.Xd)/\
 (Def K mg "_law_points" vP ["_law_cells","_law_wide","_law_some"] a.y8 a.QE)
abbrev Txt2(K:CZ)(mg:Cc)(a:Adr):Prop:=
 (Def K mg "_law_cell" Y_ ["_law_script","_law_k"] a.yI a.KY)/\
 (Def K mg "_law_word" Qa ["_law_cell_here","_law_k"] a.jj a.KZ)/\
 (Def K mg "_law_beyond" vQ ["_law_one","_law_other"] a.yb a.QF)/\
 (Def K mg "_law_order" ZQ ["_law_script","_law_most"] a.yB a.Kb)/\
 (Def K mg "_law_copy" Qb ["_law_order_here"] a.y6 a.K0)/\
 (Fun K "__init__" "TooMany.__init__" ke a.kn a.kr)/\
 (Binds K a.kr ["self","most"] [])/\
 (Def K mg "check_most" vR ["things","most"] a.zH a.QG)
abbrev Br(K:CZ)(mg:Cc)(a:Adr):Prop:=
 (Def K mg "check_rows" vS ["rows"] a.zD a.QH)/\
 (Fun K "__init__" "NoTrip.__init__" kX a.vk a.vm)/\
 (Binds K a.vm ["self","name"] [])/\
 (Def K mg "check_known" kY ["order"] a.yJ a.YJ)/\
 (Fun K "__init__" "Ring.__init__" ZR a.Z1 a.Z2)/\
 (Binds K a.Z2 ["self","name"] [])/\
 (Def K mg "check_rings" kZ ["order"] a.yK a.YK)/\
 (Fun K "__init__" "NotOrdered.__init__" qo a.qt a.qu)
abbrev Bt(K:CZ)(mg:Cc)(a:Adr):Prop:=
 (Binds K a.qu ["self","first","second","third"] [])/\
 (Def K mg "check_going_on" qO ["order","first"] a.zW a.vq)/\
 (Def K mg "check_order" k7 ["order"] a.zL a.YL)/\
 (Def K mg "find_right" vT ["rows","left","owners","tried"] a.QD a.QI)/\
 (Def K mg "greatest_owners" qp ["rows"] a.kI a.kJ)/\
 (Def K mg "matching" Qc ["rows"] a.KW a.K1)/\
 (Def K mg "chain_from" vU ["name","given"] a.yA a.QJ)/\
 (Def K mg "chains" VB ["order"] a.aI a.aJ)
abbrev Bu(K:CZ)(mg:Cc)(a:Adr):Prop:=
 (Def K mg "_law_heights" k8 ["_law_order_here"] a.yg a.YM)/\
 (Def K mg "_law_chained" k9 ["_law_found","_law_order_here"] a.zB a.YN)/\
 (Def K mg "_law_first_fit" jq ["_law_order_here","_law_heights_here"] a.wu a.jH)/\
 (Def K mg "_law_widest" vV ["_law_heights_here"] a.yc a.QK)/\
 (Def K mg "law" o_ ["_law_script"] a.xj a.xk)/\
 (Ki K a.jG)/\
 (XMk K a.jG a.kn)/\
 (W.takerIn K a.jG "most"=some none)
abbrev Bv(K:CZ)(mg:Cc)(a:Adr):Prop:=
 (Ki K a.vj)/\
 (XMk K a.vj a.vk)/\
 (W.takerIn K a.vj "name"=some none)/\
 (Ki K a.Ka)/\
 (XMk K a.Ka a.Z1)/\
 (W.takerIn K a.Ka "name"=some none)/\
 (Ki K a.zI)/\
 (XMk K a.zI a.qt)
abbrev Bw(K:CZ)(mg:Cc)(a:Adr):Prop:=
 (W.takerIn K a.zI "first"=some none)/\
 (W.takerIn K a.zI "second"=some none)/\
 (W.takerIn K a.zI "third"=some none)/\
 (W.kitOne K (.type "list") (.type "list")=some true)/\
 (W.kitOne K (.type "str") (.type "str")=some true)/\
 (W.kitOne K (.type "int") (.type "str")=some false)/\
 (a.jH.code=.ref a.pS)
abbrev Txt(K:CZ)(mg:Cc)(a:Adr):Prop:=Bp K mg a/\Bq K mg a/\Txt2 K mg a/\Br K mg a/\Bt K mg a/\Bu K mg a/\Bv K mg a/\Bw K mg a
section
variable {K:CZ}{mg:Cc}{a:Adr}(T:Txt K mg a)
include T
def Txt.cc0:Bp K mg a:=T.1
def Txt.jQ:=T.cc0.1
def Txt.JV:=T.cc0.2.1
def Txt.VE:=T.cc0.2.2.1
def Txt.et:=T.cc0.2.2.2.1
def Txt.vX:=T.cc0.2.2.2.2.1
def Txt.WV:=T.cc0.2.2.2.2.2.1
def Txt.qF:=T.cc0.2.2.2.2.2.2.1
def Txt.vB:=T.cc0.2.2.2.2.2.2.2
def Txt.cc1:Bq K mg a:=T.2.1
def Txt.JW:=T.cc1.1
def Txt.pb:=T.cc1.2.1
def Txt.vc:=T.cc1.2.2.1
def Txt.Qe:=T.cc1.2.2.2.1
def Txt.VF:=T.cc1.2.2.2.2.1
def Txt.pd:=T.cc1.2.2.2.2.2.1
def Txt.yp:=T.cc1.2.2.2.2.2.2.1
def Txt.y0:=T.cc1.2.2.2.2.2.2.2
def Txt.cc2:Txt2 K mg a:=T.2.2.1
def Txt.jf:=T.cc2.1
def Txt.wU:=T.cc2.2.1
def Txt.jR:=T.cc2.2.2.1
def Txt.qr:=T.cc2.2.2.2.1
def Txt.jg:=T.cc2.2.2.2.2.1
def Txt.Kr:=T.cc2.2.2.2.2.2.1
def Txt.Ks:=T.cc2.2.2.2.2.2.2.1
def Txt.qG:=T.cc2.2.2.2.2.2.2.2
def Txt.cc3:Br K mg a:=T.2.2.2.1
def Txt.qH:=T.cc3.1
def Txt.VG:=T.cc3.2.1
def Txt.VH:=T.cc3.2.2.1
def Txt.qY:=T.cc3.2.2.2.1
def Txt.Uc:=T.cc3.2.2.2.2.1
def Txt.Ud:=T.cc3.2.2.2.2.2.1
def Txt.qZ:=T.cc3.2.2.2.2.2.2.1
def Txt.Qf:=T.cc3.2.2.2.2.2.2.2
def Txt.cc4:Bt K mg a:=T.2.2.2.2.1
def Txt.Qg:=T.cc4.1
def Txt.yS:=T.cc4.2.1
def Txt.q0:=T.cc4.2.2.1
def Txt.zZ:=T.cc4.2.2.2.1
def Txt.zN:=T.cc4.2.2.2.2.1
def Txt.jh:=T.cc4.2.2.2.2.2.1
def Txt.y3:=T.cc4.2.2.2.2.2.2.1
def Txt.yT:=T.cc4.2.2.2.2.2.2.2
def Txt.cc5:Bu K mg a:=T.2.2.2.2.2.1
def Txt.yG:=T.cc5.1
def Txt.yH:=T.cc5.2.1
def Txt.zG:=T.cc5.2.2.1
def Txt.jS:=T.cc5.2.2.2.1
def Txt.eA:=T.cc5.2.2.2.2.1
def Txt.WX:=T.cc5.2.2.2.2.2.1
def Txt.eB:=T.cc5.2.2.2.2.2.2.1
def Txt.JX:=T.cc5.2.2.2.2.2.2.2
def Txt.cc6:Bv K mg a:=T.2.2.2.2.2.2.1
def Txt.ae:=T.cc6.1
def Txt.iG:=T.cc6.2.1
def Txt.Kt:=T.cc6.2.2.1
def Txt.mw:=T.cc6.2.2.2.1
def Txt.uM:=T.cc6.2.2.2.2.1
def Txt.WY:=T.cc6.2.2.2.2.2.1
def Txt.jT:=T.cc6.2.2.2.2.2.2.1
def Txt.WZ:=T.cc6.2.2.2.2.2.2.2
def Txt.cc7:Bw K mg a:=T.2.2.2.2.2.2.2
def Txt.ZT:=T.cc7.1
def Txt.Za:=T.cc7.2.1
def Txt.ZU:=T.cc7.2.2.1
def Txt.jU:=T.cc7.2.2.2.1
def Txt.Qh:=T.cc7.2.2.2.2.1
def Txt.Qi:=T.cc7.2.2.2.2.2.1
def Txt.af:=T.cc7.2.2.2.2.2.2
end
def cls(a:Adr):Nat->Addr
 |1=>a.jG
 |2=>a.vj
 |3=>a.Ka
 |4=>a.zI
 |1000=>a.pT
 |_=>0
abbrev WW(K:CZ)(a:Adr):RC:=⟨K,cls a⟩
abbrev JY:MS:=
  (y9 (qS 2 (mOp qU (mOp Ko (mOp yQ (zd 0) (mC (.i 2147483647))) (mC (.i 48271))) (mOp Ko (zd 1) (mC (.i 69621)))))
  (Jz (mOp j_ (mOp yQ (mOp Ko (zd 2) (zd 2)) (mC (.i 2147483629))) (mC (.i 8)))))
def zQ:List PV->Out PV:=Kk false 3 JY
abbrev Qj:MS:=
  (y9 (sIf (yP (mOp pLt (zd 1) (zh vy (ze (zd 0) zC)))) (Jz (mOp pIx (zd 0) (zd 1))) vz)
  (Jz (mOp Ko (zd 1) (zd 1))))
def yI:List PV->Out PV:=Kk false 2 Qj
abbrev Qy:MS:=
  (Jz (Y0 (mOp pGt (mOp pIx (zd 1) (mC (.i 0))) (mOp pIx (zd 0) (mC (.i 0)))) (Y0 (mOp pGt (mOp pIx (zd 1) (mC (.i 1))) (mOp pIx (zd 0) (mC (.i 1)))) (mOp pGt (mOp pIx (zd 1) (mC (.i 2))) (mOp pIx (zd 0) (mC (.i 2)))))))
def yb:List PV->Out PV:=Kk false 2 Qy
abbrev vY:MG:=
  (gNm 2)
abbrev vZ:MS:=
  (cV 1 (zd 2) (zh KJ (ze (mOp pIx (zd 0) (zd 2)) zC)))
abbrev wV:MS:=
  (y9 (qS 1 QV)
  (y9 (kN (zv 0) vY vZ)
  (Jz (zd 1))))
def y6:List PV->Out PV:=Kk true 3 wV
abbrev v5(self:List HV->AH->HX HV):HMG:=
  (hgN 4)
abbrev zw(self:List HV->AH->HX HV):HMS:=
  (hIf (hPT [false,false,false,true,true] (yP (mOp (pIn true) (zd 4) (zd 3)))) (jO (f6 (yj 3) (yj 4) (hP [] (mC (.b true))))
  (hIf (hOr (hPT [false,false,true,false,true] (yP (mOp (pIn true) (zd 4) (zd 2)))) (fZ (vA self (ya (yj 0) (ya (hP [false,false,true,false,true] (mOp pIx (zd 2) (zd 4))) (ya (yj 2) (ya (yj 3) Kl))))))) (jO (f6 (yj 2) (yj 4) (yj 1))
  (Km (hP [] (mC (.b true))))) JM)) JM)
abbrev q_(self:List HV->AH->HX HV):HMS:=
  (jO (g9 [true,true] (yy (mOp pIx (zd 0) (zd 1))) (v5 self) (zw self))
  (Km (hP [] (mC (.b false)))))
def zA:Nat->List HV->AH->HX HV
 |0=>λ_ _=>.wall
 |d+1=>f7 5 (q_ (zA d))
abbrev kg:MT:=
  (yP (mOp (pIn false) (mOp pIx (zd 2) (mUn Aa (mC (.i 1)))) (zd 1)))
abbrev qy:MS:=
  (tJ 2 (mOp pIx (zd 1) (mOp pIx (zd 2) (mUn Aa (mC (.i 1))))))
abbrev jV:MS:=
  (y9 (qS 2 (XG (ze (zd 0) zC)))
  (y9 (JC kg qy)
  (Jz (zd 2))))
def yA:List PV->Out PV:=Kk true 3 jV
abbrev jr:MG:=
  (gNm 2)
abbrev jt:MS:=
  (cV 1 (zd 2) (mC (.i 0)))
abbrev v7:MG:=
  (gNm 4)
abbrev qf:MS:=
  (sIf (yP (mOp pLe (mOp pIx (zd 1) (zd 4)) (mOp pIx (zd 1) (zd 2)))) (y9 (cV 1 (zd 4) (mOp qU (mOp pIx (zd 1) (zd 2)) (mC (.i 1))))
  (qS 3 (mC (.b true)))) vz)
abbrev v8:MG:=
  (gNm 2)
abbrev v9:MS:=
  (kN (yy (mOp pIx (zd 0) (zd 2))) v7 qf)
abbrev v_:MT:=
  (yP (zd 3))
abbrev zR:MS:=
  (y9 (qS 3 (mC (.b false)))
  (kN (zv 0) v8 v9))
abbrev Yq:MS:=
  (y9 (qS 1 QV)
  (y9 (kN (zv 0) jr jt)
  (y9 (qS 3 (mC (.b true)))
  (y9 (JC v_ zR)
  (Jz (zd 1))))))
def yg:List PV->Out PV:=Kk true 5 Yq
abbrev ju:MG:=
  (gNm 4)
abbrev jv:MS:=
  (y9 (sIf (mOr (XH (yP (mUn (p0 [(.str,true),(.int,false)]) (mOp pIx (zd 3) (zd 4))))) (mOr (yP (mOp (pIn true) (mOp pIx (zd 3) (zd 4)) (zd 1))) (yP (mOp (pIn false) (mOp pIx (zd 3) (zd 4)) (zd 2))))) (Jz (mC (.b false))) vz)
  (y9 (sIf (fW (yP (mOp pGt (zd 4) (mC (.i 0)))) (yP (mOp (pIn true) (mOp pIx (zd 3) (zd 4)) (mOp pIx (zd 1) (mOp pIx (zd 3) (mOp Be (zd 4) (mC (.i 1)))))))) (Jz (mC (.b false))) vz)
  (cV 2 (mOp pIx (zd 3) (zd 4)) (mC (.b true)))))
abbrev wa:MG:=
  (gNm 3)
abbrev jw:MS:=
  (y9 (sIf (mOr (XH (yP (mUn (p0 [(.list,true)]) (zd 3)))) (yP (mOp (Xh false) (zd 3) (XG zC)))) (Jz (mC (.b false))) vz)
  (kN (Yb (ze (zh vy (ze (zd 3) zC)) zC)) ju jv))
abbrev Yr:MS:=
  (y9 (sIf (XH (yP (mUn (p0 [(.list,true)]) (zd 0)))) (Jz (mC (.b false))) vz)
  (y9 (qS 2 QV)
  (y9 (kN (yy (zd 0)) wa jw)
  (Jz (mOp (Xh false) (zh vy (ze (zd 2) zC)) (zh vy (ze (zd 1) zC)))))))
def zB:List PV->Out PV:=Kk false 5 Yr
abbrev Zk:MG:=
  (gNm 2)
abbrev Zl:MS:=
  (cV 1 (mOp pIx (zd 0) (zd 2)) (mOp qU (ij (zd 1) (mOp pIx (zd 0) (zd 2)) (mC (.i 0))) (mC (.i 1))))
abbrev wb:MG:=
  (gNm 0)
abbrev wc:MT:=
  Ws
abbrev wd:ME:=
  (mOp pIx (zd 1) (zd 0))
abbrev Qz:MS:=
  (y9 (qS 1 QV)
  (y9 (kN (zv 0) Zk Zl)
  (Jz (zh (dZ 0) (ze (mLC (zv 1) [none,some 1] wb wc wd) zC)))))
def yc:List PV->Out PV:=Kk false 3 Qz
abbrev Zm:MG:=
  (gNm 4)
abbrev kh:MS:=
  (y9 (qS 5 (mOp yQ (zh zQ (ze (zd 4) (ze (mC (.i 61)) zC))) (zd 1)))
  (y9 (qS 6 (mOp pIx (XG (ze (zd 5) (ze (mOp yQ (zh zQ (ze (zd 4) (ze (mC (.i 62)) zC))) (zd 1)) zC))) (mOp yQ (zd 2) (mC (.i 2)))))
  (tJ 3 (lJ (ze (zd 5) (ze (zd 6) (ze (mOp pIx (XG (ze (zd 5) (ze (mOp yQ (zh zQ (ze (zd 4) (ze (mC (.i 63)) zC))) (zd 1)) zC))) (mOp yQ (mOp j_ (zd 2) (mC (.i 2))) (mC (.i 2)))) zC)))))))
abbrev jW:MS:=
  (y9 (qS 3 (XG zC))
  (y9 (kN (yy (zd 0)) Zm kh)
  (Jz (zd 3))))
def y8:List PV->Out PV:=Kk true 7 jW
abbrev we:MG:=
  (gNm 4)
abbrev jX:MS:=
  (qS 3 (mOp qU (zd 3) (mOp pIx (zd 2) (mOp yQ (zh zQ (ze (zd 0) (ze (mOp qU (mC (.i 3)) (zd 4)) zC))) (mC (.i 36))))))
abbrev wW:MS:=
  (y9 (qS 2 (mC (.s "abcdefghijklmnopqrstuvwxyz0123456789")))
  (y9 (qS 3 (mC (.s "")))
  (y9 (kN (Yb (ze (mC (.i 10)) zC)) we jX)
  (y9 (qS 5 (mOp yQ (zh zQ (ze (zd 0) (ze (mC (.i 2)) zC))) (mC (.i 10))))
  (y9 (qS 6 (mOp yQ (zh zQ (ze (zd 0) (ze (mC (.i 15)) zC))) (mOp qU (zd 5) (mC (.i 1)))))
  (y9 (qS 7 (mOp qU (mOp yQ (zh zQ (ze (zd 0) (ze (mC (.i 16)) zC))) (mC (.i 36))) (zd 1)))
  (y9 (qS 8 (mOp qU (mOp pIx (zd 2) (mOp j_ (zd 7) (mC (.i 36)))) (mOp pIx (zd 2) (mOp yQ (zd 7) (mC (.i 36))))))
  (Jz (mOp qU (mOp qU (mOp qU (mSl pSl (zd 3) p4 (Jy (zd 6))) (zd 8)) (mSl pSl (zd 3) (Jy (zd 6)) (Jy (zd 5)))) (mOp Ko (mSl pSl (zd 3) (Jy (mC (.i 9))) p4) (mOp yQ (zd 1) (mC (.i 2)))))))))))))
def jj:List PV->Out PV:=Kk false 9 wW
abbrev ki:MG:=
  (gNm 0)
abbrev Zn:MT:=
  Ws
abbrev qz:ME:=
  (zh zQ (ze (zh yI (ze (zd 1) (ze (mC (.i 2)) zC))) (ze (mOp qU (mC (.i 70)) (zd 0)) zC)))
abbrev kj:MG:=
  (gNm 0)
abbrev Ku:MT:=
  Ws
abbrev qA:ME:=
  (zh jj (ze (zh yI (ze (zd 1) (ze (mC (.i 1)) zC))) (ze (zd 0) zC)))
abbrev qB:MG:=
  (gNm 0)
abbrev qC:MT:=
  (yP (zh yb (ze (mOp pIx (zd 1) (zd 2)) (ze (mOp pIx (zd 1) (zd 0)) zC))))
abbrev qD:ME:=
  (mOp pIx (zd 3) (zd 0))
abbrev vd:MG:=
  (gNm 9)
abbrev qg:MS:=
  (y9 (qS 10 (mLC (Yb (ze (zh vy (ze (zd 7) zC)) zC)) [none,some 6,some 9,some 7] qB qC qD))
  (y9 (sIf (yP (mOp (Xh false) (mOp yQ (zd 2) (mC (.i 2))) (mC (.i 1)))) (qS 10 (zh je (ze (zd 10) zC))) vz)
  (y9 (sIf (yP (mOp (Xh false) (mOp yQ (mOp j_ (zd 2) (mC (.i 2))) (mC (.i 4))) (mC (.i 1)))) (qS 10 (mOp qU (zd 10) (mSl pSl (zd 10) p4 (Jy (mC (.i 1)))))) vz)
  (cV 8 (mOp pIx (zd 7) (zd 9)) (zd 10)))))
abbrev ve:MS:=
  (y9 (qS 2 (zh zQ (ze (zh yI (ze (zd 0) (ze (mC (.i 0)) zC))) (ze (mC (.i 41)) zC))))
  (y9 (qS 3 (mSl pSl (zd 0) (Jy (mC (.i 3))) (Jy (mOp qU (mC (.i 3)) (zd 1)))))
  (y9 (qS 4 (mOp pIx (XG (ze (mC (.i 2)) (ze (mC (.i 4)) (ze (mC (.i 9)) (ze (mC (.i 50)) zC))))) (mOp yQ (mOp j_ (zd 2) (mC (.i 8))) (mC (.i 4)))))
  (y9 (sIf (yP (mOp (Xh false) (mOp yQ (mOp j_ (zd 2) (mC (.i 128))) (mC (.i 6))) (mC (.i 0)))) (y9 (qS 5 (mOp pIx (XG (ze (mC (.i 40)) (ze (mC (.i 39)) (ze (mOp yQ (mOp j_ (zd 2) (mC (.i 4096))) (mC (.i 41))) zC)))) (mOp yQ (mOp j_ (zd 2) (mC (.i 1024))) (mC (.i 3)))))
  (y9 (qS 3 (mLC (Yb (ze (zd 5) zC)) [none,some 0] ki Zn qz))
  (qS 4 (mOp pIx (XG (ze (mC (.i 2)) (ze (mC (.i 4)) zC))) (mOp yQ (mOp j_ (zd 2) (mC (.i 8))) (mC (.i 2))))))) vz)
  (y9 (qS 6 (zh y8 (ze (zd 3) (ze (zd 4) (ze (mOp j_ (zd 2) (mC (.i 32))) zC)))))
  (y9 (qS 7 (mLC (Yb (ze (zh vy (ze (zd 3) zC)) zC)) [none,some 0] kj Ku qA))
  (y9 (qS 8 QV)
  (y9 (kN (Yb (ze (zh vy (ze (zd 7) zC)) zC)) vd qg)
  (Jz (zd 8))))))))))
def yB:List PV->Out PV:=Kk true 11 ve
abbrev qI:MS:=
  (sIf (yP (mOp pGt (zh vy (ze (zd 0) zC)) (zd 1))) (JH 1 ["most"] (ze (zd 1) zC)) vz)
def zH:List PV->Out PV:=Kk false 2 qI
abbrev jx:MG:=
  (gNm 2)
abbrev jA:MS:=
  (sIf (yP (mOp (pIn true) (zd 2) (zd 0))) (JH 2 ["name"] (ze (zd 2) zC)) vz)
abbrev wg:MG:=
  (gNm 1)
abbrev wj:MS:=
  (kN (yy (mOp pIx (zd 0) (zd 1))) jx jA)
abbrev ja:MS:=
  (kN (zv 0) wg wj)
def yJ:List PV->Out PV:=Kk false 3 ja
abbrev wm:MG:=
  (gNm 1)
abbrev wo:MS:=
  (sIf (yP (mOp (pIn false) (zd 1) (mOp pIx (zd 0) (zd 1)))) (JH 3 ["name"] (ze (zd 1) zC)) vz)
abbrev jb:MS:=
  (kN (zv 0) wm wo)
def yK:List PV->Out PV:=Kk false 2 jb
abbrev yh:MG:=
  (gNm 0)
abbrev yY:MT:=
  Ws
abbrev yi:ME:=
  (lJ (ze (zd 0) (ze (mC (.b true)) zC)))
abbrev qh:MG:=
  (gNm 4)
abbrev qi:MS:=
  (sIf (yP (mOp (pIn true) (zd 4) (zd 2))) (JH 4 ["first","second","third"] (ze (zd 1) (ze (zd 3) (ze (zd 4) zC)))) vz)
abbrev jY:MG:=
  (gNm 3)
abbrev jZ:MS:=
  (kN (yy (mOp pIx (zd 0) (zd 3))) qh qi)
abbrev yU:MS:=
  (y9 (qS 2 (zh kD (ze (mLC (yy (mOp pIx (zd 0) (zd 1))) [none] yh yY yi) zC)))
  (kN (yy (mOp pIx (zd 0) (zd 1))) jY jZ))
def zW:List PV->Out PV:=Kk false 5 yU
abbrev kl:MG:=
  (gNm 1)
abbrev km:MS:=
  (QU (zh zH (ze (mOp pIx (zd 0) (zd 1)) (ze (mC (.i 40)) zC))))
abbrev qJ:MS:=
  (y9 (QU (zh zH (ze (zd 0) (ze (mC (.i 40)) zC))))
  (kN (zv 0) kl km))
def zD:List PV->Out PV:=Kk false 2 qJ
abbrev z0:HMG:=
  (hgN 5)
abbrev z5:HMS:=
  (hIf (hPT [true,false,true,true,true,true] (fW (XH (yP (zd 4))) (yP (mOp (pIn false) (zd 3) (mOp pIx (zd 0) (mOp pIx (zd 2) (zd 5))))))) (jO (g7 (yj 2) (yj 5) (yj 3))
  (wQ 4 (hP [] (mC (.b true))))) JM)
abbrev zk:ME:=
  (mOp pIx (zd 1) (zd 0))
abbrev qj:HMG:=
  (hgN 3)
abbrev yt:HMS:=
  (jO (wQ 4 (hP [] (mC (.b false))))
  (jO (iz (hP [false,false,true] (zh vy (ze (zd 2) zC))) z0 z5)
  (hIf (hPT [false,false,false,false,true] (XH (yP (zd 4)))) (xu (yj 2) (yj 3)) JM)))
abbrev yV:HMS:=
  (jO (wQ 2 (hF [] (XG zC)))
  (jO (X8 (JO (bK 2 zk) 1 (ya (yj 0) Kl)) qj yt)
  (Km (hP [false,false,true] (zh vy (ze (zd 2) zC))))))
def yW:List HV->AH->HX HV:=f7 6 yV
abbrev wq:MG:=
  (gNm 1)
abbrev wt:MS:=
  (QU (zh zW (ze (zd 0) (ze (zd 1) zC))))
abbrev jc:MS:=
  (y9 (QU (zh zD (ze (zd 0) zC)))
  (y9 (QU (zh yJ (ze (zd 0) zC)))
  (y9 (QU (zh yK (ze (zd 0) zC)))
  (kN (zv 0) wq wt))))
def zL:List PV->Out PV:=Kk false 2 jc
abbrev zt:HMG:=
  (hgN 2)
abbrev zm:HMS:=
  (X4 (vA (zA 45) (ya (yj 0) (ya (yj 2) (ya (yj 1) (ya (hF [] QV) Kl))))))
abbrev yw:HMS:=
  (jO (X4 (hP [true] (zh zD (ze (zd 0) zC))))
  (jO (wQ 1 (hF [] QV))
  (jO (WH 0 zt zm)
  (Km (yj 1)))))
def z6:List HV->AH->HX HV:=f7 3 yw
abbrev Ys:MG:=
  (gNm 0)
abbrev Yt:MT:=
  Ws
abbrev Yu:ME:=
  (lJ (ze (mOp pIx (zd 1) (zd 0)) (ze (zd 0) zC)))
abbrev vf:HMS:=
  (jO (wQ 1 (vA z6 (ya (yj 0) Kl)))
  (Km (hF [false,true] (zh kD (ze (mLC (zv 1) [none,some 1] Ys Yt Yu) zC)))))
def jB:List HV->AH->HX HV:=f7 2 vf
abbrev ZV:MG:=
  (gNm 0)
abbrev ZW:MT:=
  Ws
abbrev ZX:ME:=
  (lJ (ze (mOp pIx (zd 1) (zd 0)) (ze (mC (.b true)) zC)))
abbrev jC:MG:=
  (gNm 0)
abbrev jD:MT:=
  (yP (mOp (pIn true) (zd 0) (zd 1)))
abbrev jE:ME:=
  (zh yA (ze (zd 0) (ze (zd 2) zC)))
abbrev Yv:HMS:=
  (jO (X4 (hP [true] (zh zL (ze (zd 0) zC))))
  (jO (wQ 1 (vA jB (ya (yj 0) Kl)))
  (jO (wQ 2 (hF [false,true] (zh kD (ze (mLC (zv 1) [none,some 1] ZV ZW ZX) zC))))
  (Km (oX [true,true,true] (mLC (zv 0) [none,some 2,some 1] jC jD (mLI jE)))))))
def yq:List HV->AH->HX HV:=f7 3 Yv
abbrev wX:MG:=
  (gNm 0)
abbrev wY:MT:=
  Ws
abbrev wZ:ME:=
  (zh KJ (ze (zd 0) zC))
abbrev Yw:MG:=
  (gNm 0)
abbrev Yx:MT:=
  (yP (mOp (pIn false) (zd 1) (mOp pIx (zd 2) (zd 0))))
abbrev Yy:ME:=
  (zd 0)
abbrev w4:HMG:=
  (hgN 7)
abbrev j4:HMS:=
  (f6 (yj 6) (yj 7) (hW [false,true,false,false,false,false,false,true] (mLC (zv 1) [none,some 7,some 1] Yw Yx Yy)))
abbrev VI:HMG:=
  (hgN 9)
abbrev VJ:HMS:=
  (Bk (yj 9))
abbrev ah:HMS:=
  (jO (wQ 1 (hP [true] (zh yB (ze (zd 0) (ze (mC (.i 24)) zC)))))
  (jO (wQ 2 (hW [false,true] (zh y6 (ze (zd 1) zC))))
  (jO (wQ 3 (vA yq (ya (yj 2) Kl)))
  (jO (hIf (hPT [false,true,true,true] (mOr (yP (mOp (V3 true) (zd 2) (zd 1))) (XH (yP (zh zB (ze (zd 3) (ze (zd 1) zC))))))) (Km (hP [] (mC (.b false)))) JM)
  (jO (wQ 4 (hP [false,true] (zh yg (ze (zd 1) zC))))
  (jO (hIf (hOr (fZ (hOp pGt (hP [false,false,false,true] (zh vy (ze (zd 3) zC))) (vA yW (ya (yj 1) (ya (yj 4) Kl))))) (hPT [false,false,false,true,true] (yP (mOp pLt (zh vy (ze (zd 3) zC)) (zh yc (ze (zd 4) zC)))))) (Km (hP [] (mC (.b false)))) JM)
  (jO (wQ 5 (p9 [false,false,false,true] (mLC (yy (zd 3)) [none] wX wY (mLI wZ))))
  (jO (wQ 6 (hF [] QV))
  (jO (WH 1 w4 j4)
  (jO (wQ 8 (WJ yq (ya (yj 6) Kl)))
  (jO (hIf (hPT [false,false,false,true,false,true,true,false,true] (mOr (XH (yP (zh zB (ze (zd 8) (ze (zd 6) zC))))) (mOr (yP (mOp (V3 true) (zh vy (ze (zd 8) zC)) (zh vy (ze (zd 5) zC)))) (yP (mOp (V3 true) (zd 3) (zd 5)))))) (Km (hP [] (mC (.b false)))) JM)
  (jO (X8 (yj 3) VI VJ)
  (jO (wQ 10 (vA yq (ya (yj 2) Kl)))
  (Km (hP [false,true,false,false,false,true,false,false,false,false,true] (Y0 (zh zB (ze (zd 10) (ze (zd 1) zC))) (mOp (V3 false) (zh vy (ze (zd 10) zC)) (zh vy (ze (zd 5) zC)))))))))))))))))))
def eC:List HV->AH->HX HV:=f7 11 ah
section
variable {P:Cq}{w:Cv}{K:CZ}{mg:Cc}{base:Heap}{a:Adr}
def qk(T:Txt K mg a):qQ P w K mg base (CXe P w) 1 a.zQ a.Xd ["_law_cell_here","_law_turn"] (lsp (WW K a) false [true,true] zQ):=
 zX (ms:=JY) (S':=[1,1,0]) (Sb:=[]) (Sc:=[]) T.yp.F KQ rfl rfl rfl (by decide) λcdv A outer s H E hr=>
  (zi (se 2 KQ.nd (zJ qa qb (zJ Jr Js (zJ z9 z_ (ev 0) ei) ei) (zJ Jr Js (ev 1) ei)))
   (zo (vG (zJ j9 kc (zJ z9 z_ (zJ Jr Js (ev 2) (ev 2)) ei) ei))))
def Qk(T:Txt K mg a):qQ P w K mg base (CXe P w) 1 a.yI a.KY ["_law_script","_law_k"] (lsp (WW K a) false [true,true] yI):=
 zX (ms:=Qj) (S':=[1,1]) (Sb:=[]) (Sc:=[]) T.jf.F Ub rfl rfl rfl (by decide) λcdv A outer s H E hr=>
  (zi (Y4 (Qu rP sU (ev 1) (qR rfl T.vB (za (ev 0) zf)) (Z4 _))
    (zo (vG (ix hr (ev 0) (ev 1))))
    kC)
   (zo (vG (zJ Jr Js (ev 1) (ev 1)))))
def W0(T:Txt K mg a):qQ P w K mg base (CXe P w) 1 a.yb a.QF ["_law_one","_law_other"] (lsp (WW K a) false [true,true] yb):=
 zX (ms:=Qy) (S':=[1,1]) (Sb:=[]) (Sc:=[]) T.jR.F VC rfl rfl rfl (by decide) λcdv A outer s H E hr=>
  (zo (vG (cI (UJ aO a7 (ix hr (ev 1) ei) (ix hr (ev 0) ei) (Z4 _)) (cI (UJ aO a7 (ix hr (ev 1) ei) (ix hr (ev 0) ei) (Z4 _)) (lL (UJ aO a7 (ix hr (ev 1) ei) (ix hr (ev 0) ei) (Z4 _)))))))
def br(T:Txt K mg a):qQ P w K mg base (CXe P w) 1 a.y6 a.K0 ["_law_order_here"] (lsp (WW K a) true [true] y6):=
 zX (ms:=wV) (S':=[1,0,0]) (Sb:=[]) (Sc:=[]) T.jg.F ZS rfl rfl rfl (by decide) λcdv A outer s H E hr=>
  (zi (ZK (i:=1) ZS.nd rfl (.inl rfl) vH)
   (zi (vL rfl ⟨rfl,rfl⟩ (λE=>(pv 0)) (λE=>(gn 2 ZS.nd))
    (λE=>(zo (KH (jn hr) (pv 1) (ev 2) (FM.em (UZ rfl rfl T.JW (za (ix hr (ev 0) (ev 2)) zf)))))))
   (zo (JA (pv 1)))))
def Kv(T:Txt K mg a):qQ P w K mg base (CXe P w) 1 a.kn a.kr ["self","most"] (tP a.jG ["most"]):=by
 refine T.Kr.okX JS (λvs H Q E h=>by obtain⟨e,us,rfl,hl,_⟩:=h;rw[B0,hl];rfl) λcdv A outer s H vs Q E hr h=>?_;obtain⟨e,us,rfl,hl,he,k⟩:=h
 match us,hl with
 |[v],_=>exact⟨_,YX (YY (pv 0) (pv 1) rfl),_,rfl,_,rfl,e,a.jG,.none,rfl,T.WX,T.JX,.inl ⟨he,k⟩⟩
def VL(T:Txt K mg a):qQ P w K mg base (CXe P w) 1 a.vk a.vm ["self","name"] (tP a.vj ["name"]):=by
 refine T.VG.okX Kq (λvs H Q E h=>by obtain⟨e,us,rfl,hl,_⟩:=h;rw[B0,hl];rfl) λcdv A outer s H vs Q E hr h=>?_;obtain⟨e,us,rfl,hl,he,k⟩:=h
 match us,hl with
 |[v],_=>exact⟨_,YX (YY (pv 0) (pv 1) rfl),_,rfl,_,rfl,e,a.vj,.none,rfl,T.ae,T.Kt,.inl ⟨he,k⟩⟩
def Ue(T:Txt K mg a):qQ P w K mg base (CXe P w) 1 a.Z1 a.Z2 ["self","name"] (tP a.Ka ["name"]):=by
 refine T.Uc.okX WU (λvs H Q E h=>by obtain⟨e,us,rfl,hl,_⟩:=h;rw[B0,hl];rfl) λcdv A outer s H vs Q E hr h=>?_;obtain⟨e,us,rfl,hl,he,k⟩:=h
 match us,hl with
 |[v],_=>exact⟨_,YX (YY (pv 0) (pv 1) rfl),_,rfl,_,rfl,e,a.Ka,.none,rfl,T.mw,T.WY,.inl ⟨he,k⟩⟩
def Ql(T:Txt K mg a):qQ P w K mg base (CXe P w) 1 a.qt a.qu ["self","first","second","third"] (tP a.zI ["first","second","third"]):=by
 refine T.Qf.okX Yn (λvs H Q E h=>by obtain⟨e,us,rfl,hl,_⟩:=h;rw[B0,hl];rfl) λcdv A outer s H vs Q E hr h=>?_;obtain⟨e,us,rfl,hl,he,k⟩:=h
 match us,hl with
 |[v,u,z],_=>
  have ne:∀{dx},H dx=none->dx≠e:=λh z=>by rw[z,he]at h;cases h
  exact⟨_,Q2 (YY (pv 0) (pv 1) rfl) (Q2 (YY (pv 0) (pv 2) rfl) (YX (YY (pv 0) (pv 3) rfl))),_,rfl,_,rfl,e,a.zI,.none,rfl,T.jT,T.ZT,.inl ⟨he,λdx hd=>⟨_,rfl,_,rfl,e,a.zI,.none,rfl,T.jT,T.Za,.inr ⟨dx,[(("first":Str),v)],by rw[zb],by rw[zc (ne hd),zb],ne hd,(show 1<1000 by decide),⟨_,rfl,_,rfl,e,a.zI,.none,rfl,T.jT,T.ZU,.inr ⟨dx,[(("first":Str),v),(("second":Str),u)],by rw[zc (Ne.symm (ne hd)),zb],by rw[zb];rfl,ne hd,(show 2<1000 by decide),by
   have q:=k dx hd;have e1:Xf ("third":Str) z [(("first":Str),v),(("second":Str),u)]=[(("first":Str),v),(("second":Str),u),(("third":Str),z)]:=rfl;rw[e1];have e2:∀{A B C D:HO},upd (upd (upd (upd H dx A) e B) dx C) dx D=upd (upd H dx D) e B:=λ{A B C D}=>funext λb=>by
    by_cases hb:b=dx
    .subst hb;rw[zb,zc (ne hd),zb]
    .rw[zc hb,zc hb];by_cases hb2:b=e
     .subst hb2;rw[zb,zb]
     .rw[zc hb2,zc hb2,zc hb,zc hb]
   rw[e2];exact q⟩⟩⟩⟩⟩⟩
def Yz(T:Txt K mg a):∀d,qQ P w K mg base (CXe P w) (1+d) a.QD a.QI ["rows","left","owners","tried"] (hsp (WW K a) 4 (zA d))
 |0=>oH rfl
 |d+1=>by
  have F:=Yz T d;exact WG (k:=1+d) (ms:=q_ (zA d)) T.zZ.F Yo rfl rfl rfl λcdv A outer s H E hr=>
  (zp (oG (S:=[0,0,0,0,0]) (fr:=false) [true,true] (zx ⟨rfl,rfl⟩) rfl (JD (EM.en (ix hr (ev 0) (ev 1)))) (Y7 (i:=4) Yo.nd rfl (.inl rfl))
    (yd (X6 (oC (S:=[0,0,0,0,0]) (fr:=false) [false,false,false,true,true] (kR (jn hr) (ev 4) (ev 3)))
    (zp (dM (jn hr) (zY (pv 3)) (zY (pv 4)) (hp (vx vv)))
   (yd (X6 (HTW.tm (ur (oC (S:=[0,0,0,0,0]) (fr:=false) [false,false,true,false,true] (kR (jn hr) (ev 4) (ev 2))) (l7 (uu (ZO F hr rfl T.zZ.g T.zZ.k T.zZ.b yD (yO (zY (pv 0)) (yO (hp (ix hr (ev 2) (ev 4))) (yO (zY (pv 2)) (yO (zY (pv 3)) Yi)))) (yX (yX (yX (yX Qv)))))))))
    (zp (dM (jn hr) (zY (pv 2)) (zY (pv 4)) (zY (pv 1)))
   (yd (Zg (hp (vx vv)))))
    ZP)))
    ZP)))
   (yd (Zg (hp (vx vv)))))
def W2(T:Txt K mg a):qQ P w K mg base (CXe P w) 1 a.yA a.QJ ["name","given"] (lsp (WW K a) true [false,true] yA):=
 zX (ms:=jV) (S':=[0,1,0]) (Sb:=[]) (Sc:=[]) T.y3.F Yp rfl rfl rfl (by decide) λcdv A outer s H E hr=>
  (zi (ZK (i:=2) Yp.nd rfl (.inl rfl) (Z6 (za (qE (pv 0)) zf)))
   (zi (UO (zx ⟨rfl,rfl⟩) (cN (jn hr) (ix hr (ev 2) (sO i_ lG ei)) (ev 1))
    (zo (Wq (pv 2) (ix hr (ev 1) (ix hr (ev 2) (sO i_ lG ei))))))
   (zo (JA (pv 2)))))
def VM(T:Txt K mg a):qQ P w K mg base (CXe P w) 1 a.yg a.YM ["_law_order_here"] (lsp (WW K a) true [true] yg):=
 zX (ms:=Yq) (S':=[1,0,0,0,0]) (Sb:=[]) (Sc:=[]) T.yG.F zM rfl rfl rfl (by decide) λcdv A outer s H E hr=>
  (zi (ZK (i:=1) zM.nd rfl (.inl rfl) vH)
   (zi (vL rfl ⟨rfl,rfl⟩ (λE=>(pv 0)) (λE=>(gn 2 zM.nd))
    (λE=>(zo (KH (jn hr) (pv 1) (ev 2) ei))))
   (zi (se 3 zM.nd (vx vv))
   (zi (UO (zx ⟨rfl,rfl⟩) (Z7 (ev 3))
    (zi (se 3 zM.nd (vx vv))
   (zo (vL rfl ⟨rfl,rfl⟩ (λE=>(pv 0)) (λE=>(gn 2 zM.nd))
    (λE=>(zo (Ya (zx ⟨rfl,rfl⟩) rfl (JD (EM.en (ix hr (ev 0) (ev 2)))) (gn 4 zM.nd)
    (zo (Y4 (Qu xO Ab (ix hr (ev 1) (ev 4)) (ix hr (ev 1) (ev 2)) (Z4 _))
    (zi (KH (jn hr) (pv 1) (ev 4) (zJ qa qb (ix hr (ev 1) (ev 2)) ei))
   (zo (se 3 zM.nd (vx vv))))
    kC)))))))))
   (zo (JA (pv 1)))))))
def vg(T:Txt K mg a):qQ P w K mg base (CXe P w) 1 a.zB a.YN ["_law_found","_law_order_here"] (lsp (WW K a) false [true,true] zB):=
 zX (ms:=Yr) (S':=[1,1,0,0,0]) (Sb:=[]) (Sc:=[]) T.yH.F qx rfl rfl rfl (by decide) λcdv A outer s H E hr=>
  (zi (Y4 (Jt (Z7 (cS rfl T.qF (ev 0) (Xo rfl T.JW PyProof.Rows.Boot.«list» (v:=.ty "list") rfl) rfl ⟨⟨trivial,T.jU⟩,trivial⟩)))
    (zo (vG (vx vv)))
    kC)
   (zi (ZK (i:=2) qx.nd rfl (.inl rfl) vH)
   (zi (Ya (zx ⟨rfl,rfl⟩) rfl (JD (lT (pv 0))) (gn 3 qx.nd)
    (zi (Y4 (TWM.tm (a_ (Jt (Z7 (cS rfl T.qF (ev 3) (Xo rfl T.JW PyProof.Rows.Boot.«list» (v:=.ty "list") rfl) rfl ⟨⟨trivial,T.jU⟩,trivial⟩))) (UL (gH hr.units (ev 3) (FM.em (Z6 zf))))))
    (zo (vG (vx vv)))
    kC)
   (zo (Ya (zx ⟨rfl,rfl⟩) rfl (Y5 rfl T.vc (za (qR rfl T.vB (za (ev 3) zf)) zf)) (gn 4 qx.nd)
    (zi (Y4 (TWM.tm (a_ (Jt (Z7 (cS rfl T.qF (ix hr (ev 3) (ev 4)) (Xo rfl T.pd PyProof.Rows.Boot.«str» (v:=.ty "str") rfl) rfl ⟨⟨trivial,T.Qh⟩,⟨⟨trivial,T.Qi⟩,trivial⟩⟩))) (a_ (kR (jn hr) (ix hr (ev 3) (ev 4)) (ev 1)) (UL (cN (jn hr) (ix hr (ev 3) (ev 4)) (ev 2))))))
    (zo (vG (vx vv)))
    kC)
   (zi (Y4 (TWM.tm (lK (Qu aO a7 (ev 4) ei (Z4 _)) (cH (kR (jn hr) (ix hr (ev 3) (ev 4)) (ix hr (ev 1) (ix hr (ev 3) (zJ rL sP (ev 4) ei)))))))
    (zo (vG (vx vv)))
    kC)
   (zo (KH (jn hr) (pv 2) (ix hr (ev 3) (ev 4)) (vx vv)))))))))
   (zo (vG (Ae hr.units (qR rfl T.vB (za (ev 2) zf)) (qR rfl T.vB (za (ev 1) zf))))))))
def W3(T:Txt K mg a):qQ P w K mg base (CXe P w) 1 a.yc a.QK ["_law_heights_here"] (lsp (WW K a) false [true] yc):=
 zX (ms:=Qz) (S':=[1,0,0]) (Sb:=[]) (Sc:=[]) T.jS.F k_ rfl rfl rfl (by decide) λcdv A outer s H E hr=>
  (zi (ZK (i:=1) k_.nd rfl (by first|exact .inl rfl|exact .inr rfl) vH)
   (zi (vL rfl ⟨rfl,rfl⟩ (λE=>(pv 0)) (λE=>(gn 2 k_.nd))
    (λE=>(zo (KH (jn hr) (pv 1) (ix hr (ev 0) (ev 2)) (zJ qa qb (oM (jn hr) (ev 1) (ix hr (ev 0) (ev 2)) ei ⟨rfl,rfl,rfl,rfl⟩) ei)))))
   (tI 1 (zo (vG (oK rfl rfl T.pb (za (FM.em (UR ["_law_height","_law_counts"] [none,some 1] [0,0] rfl (by kernel_rfl) (pv 1) (λ_=>(qN (i:=0) (show List.Nodup (["_law_height","_law_counts"]:List Str)from by decide +kernel) rfl (.inl rfl))) (λ_=>JE) (λ_=>(ix hr (ev 1) (ev 0))))) zf)))))))
def W4(T:Txt K mg a):qQ P w K mg base (CXe P w) 2 a.y8 a.QE ["_law_cells","_law_wide","_law_some"] (lsp (WW K a) true [true,true,true] y8):=
 zX (ms:=jW) (S':=[1,1,1,0,0,0,0]) (Sb:=[]) (Sc:=[]) T.y0.F qd rfl rfl rfl (by decide) λcdv A outer s H E hr=>
  (zi (ZK (i:=3) qd.nd rfl (.inl rfl) (Z6 zf))
   (zi (Ya (zx ⟨rfl,rfl⟩) rfl (JD (lT (pv 0))) (gn 4 qd.nd)
    (zi (se 5 qd.nd (zJ z9 z_ (ec (qk T) hr T.yp yD (za (ev 4) (za (EM.weak ei) zf))) (ev 1)))
   (zi (se 6 qd.nd (ix hr (FM.em (Z6 (za (qE (pv 5)) (za (zJ z9 z_ (ec (qk T) hr T.yp yD (za (ev 4) (za (EM.weak ei) zf))) (ev 1)) zf)))) (zJ z9 z_ (ev 2) ei)))
   (zo (Wq (pv 3) (UK (za (qE (pv 5)) (za (qE (pv 6)) (za (ix hr (FM.em (Z6 (za (qE (pv 5)) (za (zJ z9 z_ (ec (qk T) hr T.yp yD (za (ev 4) (za (EM.weak ei) zf))) (ev 1)) zf)))) (zJ z9 z_ (zJ j9 kc (ev 2) ei) ei)) zf)))))))))
   (zo (JA (pv 3)))))
def bt(T:Txt K mg a):qQ P w K mg base (CXe P w) 2 a.jj a.KZ ["_law_cell_here","_law_k"] (lsp (WW K a) false [true,true] jj):=
 zX (ms:=wW) (S':=[1,1,0,0,0,0,0,0,0]) (Sb:=[]) (Sc:=[]) T.wU.F yf rfl rfl rfl (by decide) λcdv A outer s H E hr=>
  (zi (se 2 yf.nd (lF i6))
   (zi (se 3 yf.nd (lF i6))
   (zi (Ya (zx ⟨rfl,rfl⟩) rfl (Y5 rfl T.vc (za ei zf)) (gn 4 yf.nd)
    (zo (se 3 yf.nd (zJ qa qb (ev 3) (ix hr (ev 2) (zJ z9 z_ (ec (qk T) hr T.yp yD (za (ev 0) (za (EM.weak (zJ qa qb ei (ev 4))) zf))) ei))))))
   (zi (se 5 yf.nd (zJ z9 z_ (ec (qk T) hr T.yp yD (za (ev 0) (za (EM.weak ei) zf))) ei))
   (zi (se 6 yf.nd (zJ z9 z_ (ec (qk T) hr T.yp yD (za (ev 0) (za (EM.weak ei) zf))) (zJ qa qb (ev 5) ei)))
   (zi (se 7 yf.nd (zJ qa qb (zJ z9 z_ (ec (qk T) hr T.yp yD (za (ev 0) (za (EM.weak ei) zf))) ei) (ev 1)))
   (zi (se 8 yf.nd (zJ qa qb (ix hr (ev 2) (zJ j9 kc (ev 7) ei)) (ix hr (ev 2) (zJ z9 z_ (ev 7) ei))))
   (zo (vG (zJ qa qb (zJ qa qb (zJ qa qb (Z8 (ev 3) XM (ZJ (ev 6))) (ev 8)) (Z8 (ev 3) (ZJ (ev 6)) (ZJ (ev 5)))) (zJ Jr Js (Z8 (ev 3) (ZJ ei) XM) (zJ z9 z_ (ev 1) ei))))))))))))
def Ug(T:Txt K mg a):qQ P w K mg base (CXe P w) 3 a.yB a.Kb ["_law_script","_law_most"] (lsp (WW K a) true [true,true] yB):=
 zX (ms:=ve) (S':=[1,1,0,0,0,0,0,0,0,0,0]) (Sb:=[]) (Sc:=[]) T.qr.F zu rfl rfl rfl (by decide) λcdv A outer s H E hr=>
  (zi (se 2 zu.nd (ec (qk T) hr T.yp yD (za (EM.weak (ec (Qk T) hr T.jf yD (za (ev 0) (za (EM.weak ei) zf)))) (za (EM.weak ei) zf))))
   (zi (se 3 zu.nd (Z8 (ev 0) (ZJ ei) (ZJ (zJ qa qb ei (ev 1)))))
   (zi (se 4 zu.nd (ix hr (FM.em (Z6 (za ei (za ei (za ei (za ei zf)))))) (zJ z9 z_ (zJ j9 kc (ev 2) ei) ei)))
   (zi (Y4 (gH hr.units (zJ z9 z_ (zJ j9 kc (ev 2) ei) ei) ei)
    (zi (se 5 zu.nd (ix hr (FM.em (Z6 (za ei (za ei (za (zJ z9 z_ (zJ j9 kc (ev 2) ei) ei) zf))))) (zJ z9 z_ (zJ j9 kc (ev 2) ei) ei)))
   (zi (tO (i:=3) ["_law_k","_law_script"] [none,some 0] [0,1] zu.nd rfl rfl rfl (by kernel_rfl) (Y5 rfl T.vc (za (ev 5) zf)) (λ_=>(qN (i:=0) (show List.Nodup (["_law_k","_law_script"]:List Str)from by decide +kernel) rfl (by first|exact .inl rfl|exact .inr rfl))) (λ_=>JE) (λ_=>(ec (qk T) hr T.yp KG (za (EM.weak (ec (Qk T) hr T.jf KG (za (ev 1) (za (EM.weak ei) zf)))) (za (EM.weak (zJ qa qb ei (ev 0))) zf)))))
   (zo (se 4 zu.nd (ix hr (FM.em (Z6 (za ei (za ei zf)))) (zJ z9 z_ (zJ j9 kc (ev 2) ei) ei))))))
    kC)
   (zi (cU (i:=6) zu.nd rfl (by first|exact .inl rfl|exact .inr rfl) (FM.em (Jx (W4 T) (rm hr) rfl T.y0.g T.y0.k T.y0.b yD (za (ev 3) (za (ev 4) (za (EM.weak (zJ j9 kc (ev 2) ei)) zf))))))
   (zi (cU (i:=7) zu.nd rfl (by first|exact .inl rfl|exact .inr rfl) (FM.em (tN ["_law_k","_law_script"] [none,some 0] [0,1] rfl (by kernel_rfl) (Y5 rfl T.vc (za (qR rfl T.vB (za (ev 3) zf)) zf)) (λ_=>(qN (i:=0) (show List.Nodup (["_law_k","_law_script"]:List Str)from by decide +kernel) rfl (by first|exact .inl rfl|exact .inr rfl))) (λ_=>JE) (λ_=>(ec (bt T) hr T.wU KG (za (EM.weak (ec (Qk T) hr T.jf KG (za (ev 1) (za (EM.weak ei) zf)))) (za (ev 0) zf)))))))
   (zi (ZK (i:=8) zu.nd rfl (.inl rfl) vH)
   (zi (Ya (zx ⟨rfl,rfl⟩) rfl (Y5 rfl T.vc (za (qR rfl T.vB (za (ev 7) zf)) zf)) (qN (i:=9) zu.nd rfl (by first|exact .inl rfl|exact .inr rfl))
    (zi (tO (i:=10) ["_law_j","_law_points_here","_law_k","_law_names"] [none,some 6,some 9,some 7] [0,0,0,0] zu.nd rfl rfl rfl (by kernel_rfl) (Y5 rfl T.vc (za (qR rfl T.vB (za (ev 7) zf)) zf)) (λ_=>(qN (i:=0) (show List.Nodup (["_law_j","_law_points_here","_law_k","_law_names"]:List Str)from by decide +kernel) rfl (.inl rfl))) (λ_=>(c7 (Z7 (ec (W0 T) hr T.jR KG (za (EM.weak (ix hr (ev 1) (ev 2))) (za (EM.weak (ix hr (ev 1) (ev 0))) zf)))))) (λ_=>(ix hr (ev 3) (ev 0))))
   (zi (Y4 (gH hr.units (zJ z9 z_ (ev 2) ei) ei)
    (zo (se 10 zu.nd (FM.em (XT rfl rfl T.JW rfl T.Qe (za (ev 10) zf)))))
    kC)
   (zi (Y4 (gH hr.units (zJ z9 z_ (zJ j9 kc (ev 2) ei) ei) ei)
    (zo (se 10 zu.nd (zJ qa qb (ev 10) (Z8 (ev 10) XM (ZJ ei)))))
    kC)
   (zo (KH (jn hr) (pv 8) (ix hr (ev 7) (ev 9)) (qE (pv 10))))))))
   (zo (JA (pv 8)))))))))))
def QA(T:Txt K mg a):qQ P w K mg base (CXe P w) 3 a.zH a.QG ["things","most"] (lsp (WW K a) false [true,false] zH):=
 zX (ms:=qI) (S':=[1,0]) (Sb:=[]) (Sc:=[]) T.qG.F VD rfl rfl rfl (by decide) λcdv A outer s H E hr=>
  (zo (Y4 (Qu aO a7 (qR rfl T.vB (za (ev 0) zf)) (ev 1) (Z4 _))
    (zo (Q4 (c:=1) rfl T.eB T.WX (Kv T) (rm hr) rfl T.JV T.Ks (za (qE (pv 1)) zf)))
    kC))
def VN(T:Txt K mg a):qQ P w K mg base (CXe P w) 3 a.yJ a.YJ ["order"] (lsp (WW K a) false [true] yJ):=
 zX (ms:=ja) (S':=[1,0,0]) (Sb:=[]) (Sc:=[]) T.qY.F kf rfl rfl rfl (by decide) λcdv A outer s H E hr=>
  (zo (vL rfl ⟨rfl,rfl⟩ (λE=>(pv 0)) (λE=>(gn 1 kf.nd))
    (λE=>(zo (Ya (zx ⟨rfl,rfl⟩) rfl (JD (EM.en (ix hr (ev 0) (ev 1)))) (gn 2 kf.nd)
    (zo (Y4 (kR (jn hr) (ev 2) (ev 0))
    (zo (Q4 (c:=2) rfl T.iG T.ae (VL T) (rm hr) rfl T.VE T.VH (za (qE (pv 2)) zf)))
    kC)))))))
def VO(T:Txt K mg a):qQ P w K mg base (CXe P w) 3 a.yK a.YK ["order"] (lsp (WW K a) false [true] yK):=
 zX (ms:=jb) (S':=[1,0]) (Sb:=[]) (Sc:=[]) T.qZ.F Zi rfl rfl rfl (by decide) λcdv A outer s H E hr=>
  (zo (vL rfl ⟨rfl,rfl⟩ (λE=>(pv 0)) (λE=>(gn 1 Zi.nd))
    (λE=>(zo (Y4 (cN (jn hr) (ev 1) (ix hr (ev 0) (ev 1)))
    (zo (Q4 (c:=3) rfl T.uM T.mw (Ue T) (rm hr) rfl T.et T.Ud (za (qE (pv 1)) zf)))
    kC)))))
def QX(T:Txt K mg a):qQ P w K mg base (CXe P w) 3 a.zW a.vq ["order","first"] (lsp (WW K a) false [true,false] zW):=
 zX (ms:=yU) (S':=[1,0,0,0,0]) (Sb:=[]) (Sc:=[]) T.yS.F yF rfl rfl rfl (by decide) λcdv A outer s H E hr=>
  (zi (se 2 yF.nd (FM.em (Vo rfl rfl T.WV (za (FM.em (tN ["name"] [none] [0] rfl (by kernel_rfl) (c6 (ix hr (ev 0) (ev 1))) (λ_=>(qN (i:=0) (show List.Nodup (["name"]:List Str)from by decide +kernel) rfl (.inl rfl))) (λ_=>JE) (λ_=>(UK (za (qE (pv 0)) (za (vx vv) zf)))))) zf))))
   (zo (Ya (zx ⟨rfl,rfl⟩) rfl (JD (EM.en (ix hr (ev 0) (ev 1)))) (gn 3 yF.nd)
    (zo (Ya (zx ⟨rfl,rfl⟩) rfl (JD (EM.en (ix hr (ev 0) (ev 3)))) (gn 4 yF.nd)
    (zo (Y4 (kR (jn hr) (ev 4) (ev 2))
    (zo (Q4 (c:=4) rfl T.WZ T.jT (Ql T) (rm hr) rfl T.vX T.Qg (za (qE (pv 1)) (za (qE (pv 3)) (za (qE (pv 4)) zf)))))
    kC)))))))
def QB(T:Txt K mg a):qQ P w K mg base (CXe P w) 4 a.zD a.QH ["rows"] (lsp (WW K a) false [true] zD):=
 zX (ms:=qJ) (S':=[1,0]) (Sb:=[]) (Sc:=[]) T.qH.F Ym rfl rfl rfl (by decide) λcdv A outer s H E hr=>
  (zi (Y3 (ec (QA T) hr T.qG yD (za (ev 0) (za (cF (bP (v:=.int 40) rfl T.jQ ⟨_,rfl⟩)) zf))))
   (zo (vL rfl ⟨rfl,rfl⟩ (λE=>(pv 0)) (λE=>(gn 1 Ym.nd))
    (λE=>(zo (Y3 (ec (QA T) hr T.qG yD (za (EM.weak (ix hr (ev 0) (ev 1))) (za (cF (bP (v:=.int 40) rfl T.jQ ⟨_,rfl⟩)) zf)))))))))
def QY(T:Txt K mg a)(TB:mq base mg a.pS a.pT):qQ P w K mg base (CXe P w) 4 a.wu a.jH ["_law_order_here","_law_heights_here"] (hsp (WW K a) 2 yW):=
 oP (ms:=yV) T.zG.F T.af zV rfl rfl rfl λA outer s H E hr=>
  (zp (hse 2 zV.nd (hf (Z6 zf)))
   (zp (dP (zx ⟨rfl,rfl⟩) rfl (ee (k:=0) (i:=1) (x:="_law_one") (y:="_law_heights_here") rfl rfl TB rfl (λa h=>by first|exact uH rfl h|exact clos_b rfl h) rfl (AF (by decide +kernel)) rfl rfl (λpm a c' ctv s u=>.of_eq rfl) (λf a c' A outer s H vs Q E hr q=>il rfl rfl (by decide) (ix hr (ev 1) (ev 0)) q) (rm hr) rfl T.VF (yO (zY (pv 0)) Yi)) (Y7 (i:=3) zV.nd rfl (.inl rfl))
    (zp (hse 4 zV.nd (hp (vx vv)))
   (zp (o7 (zx ⟨rfl,rfl⟩) rfl rfl T.vc (hp (qR rfl T.vB (za (ev 2) zf))) (Y7 (i:=5) zV.nd rfl (.inl rfl))
    (yd (X6 (oC (S:=[0,0,0,0,0,0]) (fr:=false) [true,false,true,true,true,true] (TWM.tm (lK (Jt (Z7 (ev 4))) (cH (cN (jn hr) (ev 3) (ix hr (ev 0) (ix hr (ev 2) (ev 5))))))))
    (zp (oF (zY (pv 2)) (zY (pv 5)) (zY (pv 3)))
   (yd (hse 4 zV.nd (hp (vx vv)))))
    ZP)))
   (yd (X6 (oC (S:=[0,0,0,0,0,0]) (fr:=false) [false,false,false,false,true] (Jt (Z7 (ev 4))))
    (yd (dJ (zY (pv 2)) (zY (pv 3))))
    ZP)))))
   (yd (Zg (hp (qR rfl T.vB (za (ev 2) zf)))))))
def VP(T:Txt K mg a):qQ P w K mg base (CXe P w) 5 a.zL a.YL ["order"] (lsp (WW K a) false [true] zL):=
 zX (ms:=jc) (S':=[1,0]) (Sb:=[]) (Sc:=[]) T.q0.F Zj rfl rfl rfl (by decide) λcdv A outer s H E hr=>
  (zi (Y3 (ec (QB T) hr T.qH yD (za (ev 0) zf)))
   (zi (Y3 (ec (VN T) hr T.qY yD (za (ev 0) zf)))
   (zi (Y3 (ec (VO T) hr T.qZ yD (za (ev 0) zf)))
   (zo (vL rfl ⟨rfl,rfl⟩ (λE=>(pv 0)) (λE=>(gn 1 Zj.nd))
    (λE=>(zo (Y3 (ec (QX T) hr T.yS yD (za (ev 0) (za (qE (pv 1)) zf)))))))))))
def YA(T:Txt K mg a):qQ P w K mg base (CXe P w) 47 a.kI a.kJ ["rows"] (hsp (WW K a) 1 z6):=
 WG (ms:=yw) T.zN.F qe rfl rfl rfl λcdv A outer s H E hr=>
  (zp (X5 (hp (ec (QB T) hr T.qH yD (za (ev 0) zf))))
   (zp (hse 1 qe.nd (hf vH))
   (zp (dO rfl ⟨rfl,rfl⟩ (λE=>(pv 0)) (λE=>(Y7 (i:=2) qe.nd rfl (.inl rfl)))
    (λE=>(yd (X5 (ZO (Yz T 45) (rm hr) rfl T.zZ.g T.zZ.k T.zZ.b yD (yO (zY (pv 0)) (yO (zY (pv 2)) (yO (zY (pv 1)) (yO (hf vH) Yi)))) (yX (yX (yX (yX Qv)))))))))
   (yd (Zg (zY (pv 1)))))))
def Uh(T:Txt K mg a):qQ P w K mg base (CXe P w) 48 a.KW a.K1 ["rows"] (hsp (WW K a) 1 jB):=
 WG (ms:=vf) T.jh.F JT rfl rfl rfl λcdv A outer s H E hr=>
  (zp (WE (i:=1) JT.nd rfl (by first|exact .inl rfl|exact .inr rfl) (ZO (YA T) (rm hr) rfl T.zN.g T.zN.k T.zN.b yD (yO (zY (pv 0)) Yi) (yX Qv)))
   (yd (Zg (hf (Vo rfl rfl T.WV (za (FM.em (UR ["right","owners"] [none,some 1] [0,0] rfl (by kernel_rfl) (pv 1) (λ_=>(qN (i:=0) (show List.Nodup (["right","owners"]:List Str)from by decide +kernel) rfl (.inl rfl))) (λ_=>JE) (λ_=>(UK (za (ix hr (ev 1) (ev 0)) (za (qE (pv 0)) zf)))))) zf))))))
def JZ(T:Txt K mg a):qQ P w K mg base (CXe P w) 49 a.aI a.aJ ["order"] (hsp (WW K a) 1 yq):=
 WG (ms:=Yv) T.yT.F JU rfl rfl rfl λcdv A outer s H E hr=>
  (zp (X5 (hp (ec (VP T) hr T.q0 yD (za (ev 0) zf))))
   (zp (WE (i:=1) JU.nd rfl (by first|exact .inl rfl|exact .inr rfl) (ZO (Uh T) (rm hr) rfl T.jh.g T.jh.k T.jh.b yD (yO (zY (pv 0)) Yi) (yX Qv)))
   (zp (WE (i:=2) JU.nd rfl (by first|exact .inl rfl|exact .inr rfl) (hf (Vo rfl rfl T.WV (za (FM.em (UR ["name","given"] [none,some 1] [0,0] rfl (by kernel_rfl) (pv 1) (λ_=>(qN (i:=0) (show List.Nodup (["name","given"]:List Str)from by decide +kernel) rfl (.inl rfl))) (λ_=>JE) (λ_=>(UK (za (ix hr (ev 1) (ev 0)) (za (vx vv) zf)))))) zf))))
   (yd (Zg (oY (S:=[1,1,1]) [true,true,true] ["name","followers","given"] [none,some 2,some 1] [0,1,1] rfl (by kernel_rfl) (pv 0) (λ_=>(qN (i:=0) (show List.Nodup (["name","followers","given"]:List Str)from by decide +kernel) rfl (.inl rfl))) (λ_=>(c7 (kR (jn hr) (ev 0) (ev 1)))) (λ_=>(Jx (W2 T) (rm hr) rfl T.y3.g T.y3.k T.y3.b KG (za (qE (pv 0)) (za (ev 2) zf))))))))))
def uN(T:Txt K mg a)(TB:mq base mg a.pS a.pT):qQ P w K mg base (CXe P w) 50 a.xj a.xk ["_law_script"] (hsp (WW K a) 1 eC):=
 WG (ms:=ah) T.eA.F vW rfl rfl rfl λcdv A outer s H E hr=>
  (zp (WE (i:=1) vW.nd rfl (by first|exact .inl rfl|exact .inr rfl) (hp (FM.em (Jx (Ug T) (rm hr) rfl T.qr.g T.qr.k T.qr.b yD (za (ev 0) (za (EM.weak ei) zf))))))
   (zp (hse 2 vW.nd (Bl (S:=[1,1,1,1,1,1,1,1,1,1,1]) (fr:=false) [false,true] (FM.em (Jx (br T) (rm hr) rfl T.jg.g T.jg.k T.jg.b yD (za (ev 1) zf)))))
   (zp (hse 3 vW.nd (ZO (JZ T) (rm hr) rfl T.yT.g T.yT.k T.yT.b yD (yO (zY (pv 2)) Yi) (yX Qv)))
   (zp (X6 (oC (S:=Dt) (fr:=false) [false,true,true,true] (TWM.tm (a_ (dz hr.units (WA (ev 2)) (WA (ev 1))) (UL (Jt (Z7 (ec (vg T) hr T.yH yD (za (ev 3) (za (ev 1) zf)))))))))
    (yd (Zg (hp (vx vv))))
    ZP)
   (zp (hse 4 vW.nd (hp (FM.em (Jx (VM T) (rm hr) rfl T.yG.g T.yG.k T.yG.b yD (za (ev 1) zf)))))
   (zp (X6 (HTW.tm (ur (uA aO a7 (hp (qR rfl T.vB (za (ev 3) zf))) (ZO (QY T TB) (rm hr) rfl T.zG.g T.zG.k T.zG.b yD (yO (zY (pv 1)) (yO (zY (pv 4)) Yi)) (yX (yX Qv))) (Z4 _)) (l7 (oC (S:=Dt) (fr:=false) [false,false,false,true,true] (Qu rP sU (qR rfl T.vB (za (ev 3) zf)) (ec (W3 T) hr T.jS yD (za (ev 4) zf)) (Z4 _))))))
    (yd (Zg (hp (vx vv))))
    ZP)
   (zp (oZ (S:=Dt) (fr':=false) (j:=5) [false,false,false,true] ["_law_chain"] [none] [0] vW.nd rfl rfl rfl (by kernel_rfl) (c6 (ev 3)) (λ_=>(qN (i:=0) (show List.Nodup (["_law_chain"]:List Str)from by decide +kernel) rfl (.inl rfl))) (λ_=>JE) (λ_=>(UZ rfl rfl T.JW (za (ev 0) zf))))
   (zp (hse 6 vW.nd (hf vH))
   (zp (dO rfl ⟨rfl,rfl⟩ (λE=>(pv 1)) (λE=>(Y7 (i:=7) vW.nd rfl (by first|exact .inl rfl|exact .inr rfl)))
    (λE=>(yd (dM (jn hr) (zY (pv 6)) (zY (pv 7)) (Bl (S:=[1,1,1,1,1,1,1,1,1,1,1]) (fr:=false) [false,true,false,false,false,false,false,true] (FM.em (UR ["_law_other","_law_name","_law_order_here"] [none,some 7,some 1] [0,1,1] rfl (by kernel_rfl) (pv 1) (λ_=>(qN (i:=0) (show List.Nodup (["_law_other","_law_name","_law_order_here"]:List Str)from by decide +kernel) rfl (.inl rfl))) (λ_=>(c7 (cN (jn hr) (ev 1) (ix hr (ev 2) (ev 0))))) (λ_=>(qE (pv 0))))))))))
   (zp (hse 8 vW.nd (h8 (JZ T) (rm hr) rfl T.yT.g T.yT.k T.yT.b yD (yO (zY (pv 6)) Yi) (yX Qv)))
   (zp (X6 (oC (S:=Dt) (fr:=false) [false,false,false,true,false,true,true,false,true] (TWM.tm (a_ (Jt (Z7 (ec (vg T) hr T.yH yD (za (ev 8) (za (ev 6) zf))))) (a_ (dz hr.units (WA (qR rfl T.vB (za (ev 8) zf))) (WA (qR rfl T.vB (za (ev 5) zf)))) (UL (dz hr.units (WA (ev 3)) (WA (ev 5))))))))
    (yd (Zg (hp (vx vv))))
    ZP)
   (zp (dP (zx ⟨rfl,rfl⟩) rfl (zY (pv 3)) (Y7 (i:=9) vW.nd rfl (.inl rfl))
    (yd (g6 (zY (pv 9)))))
   (zp (hse 10 vW.nd (ZO (JZ T) (rm hr) rfl T.yT.g T.yT.k T.yT.b yD (yO (zY (pv 2)) Yi) (yX Qv)))
   (yd (Zg (hp (cI (ec (vg T) hr T.yH yD (za (ev 10) (za (ev 1) zf))) (lL (ug hr.units (WA (qR rfl T.vB (za (ev 10) zf))) (WA (qR rfl T.vB (za (ev 5) zf))))))))))))))))))))))
end
local macro_rules | `(tactic| simp_all[$xs,*])=>`(tactic| simp(maxSteps:=1000000) (disch:=first|decide|omega) only[Kk,t8,n4,n5,n6,n8,Ao,Ap,Aq,qS,Jz,vz,QU,tJ,cV,kN,JH,yy,items,Yb,Kp,yP,mOp,mUn,mC,zd,zh,ze,zC,XG,lJ,fW,mOr,XH,Y0,mSl,Jy,p4,QV,mLC,w_,gNm,asI,pSl,okb,tQ,BU,BV,df,tR,Ah,Ai,tS,Aj,vI,tT,tU,nV,tV,tW,Ak,Al,gK,p0,kd,noX,List.map_cons,List.map_nil,List.length_cons,List.length_nil,List.replicate,List.cons_append,List.nil_append,List.append_nil,List.getElem?_cons_zero,List.getElem?_cons_succ,List.getElem?_nil,List.set_cons_zero,List.set_cons_succ,tY,nX,tZ,t4,nY,t5,nZ,List.mem_singleton,List.mem_cons,List.not_mem_nil,or_false,true_or,or_true,eq_self,and_self,true_and,and_true,Option.map_some,Option.bind_some,Option.join_some,Nat.reduceAdd,Nat.reduceSub,Nat.reduceLeDiff,Nat.reduceLT,Nat.zero_add,Int.reduceEq,Int.reduceLT,Int.reduceLE,Int.reduceNeg,if_true,if_false,ite_true,ite_false,reduceIte,Bool.false_eq_true,Bool.not_true,Bool.not_false,Bool.true_and,Bool.and_true,Bool.false_and,Bool.and_false,Bool.true_or,Bool.or_true,Bool.false_or,Bool.or_false,Bool.false_xor,Bool.true_xor,decide_true,t6,Am,An,decide_false,Option.isSome_some,Option.isSome_none,$xs,*])
local macro_rules | `(tactic| simp_all)=>`(tactic| simp_all[okb])
def cell(ns:CC)(k:Int):Int:=if k<ns.length then ns[k.toNat]?.getD 0 else k*k
def Ui(h:0<=k)(h2:k<1000):yI [.sc ns,.i k]=.ok (.i (cell ns k)):=by
 unfold yI Qj cell;by_cases c:k<ns.length
 .have e:atI ns k=some (ns[k.toNat]?.getD 0):=by rw[Wu h,B9 (by omega)];rfl
  simp_all[de,c,e]
 .simp_all [de,c]
def mix(c t:Int):Int:=(c % 2147483647*48271+t*69621)*(c % 2147483647*48271+t*69621) % 2147483629 / 8
def J3(h1:-100000<t)(h2:t<100000):zQ [.i c,.i t]=.ok (.i (mix c t)):=by
 unfold zQ JY mix
 simp_all[de]
def uO:0<=mix c t:=by unfold mix;have:=a0P ((c % 2147483647*48271+t*69621)*(c % 2147483647*48271+t*69621)) (show(2147483629:Int)≠0 by decide);omega
def uP(h:a.length+b.length<=1000):qU (.s a) (.s b)=.ok (.s (a++b)):=by have:a.length+b.length<=sizeLine:=E3 h (by decide);unfold qU;simp only[this,if_true]
def slS(h:z.length<=1000):pSl (.s z) lo hi=.ok (.s (Txt.slice z lo hi)):=by have:z.length<=sizeLine:=E3 h (by decide);unfold pSl;simp only[this,if_true]
def pe(h0:0<=k)(h1:k<=1):(Txt.mul z k).length<=z.length:=by
 unfold Txt.mul;by_cases h:k<1
 .rw[if_pos h];exact F7 _
 .rw[if_neg h];have:k=1:=by omega
  subst this;exact B7 _
def signs:Str:="abcdefghijklmnopqrstuvwxyz0123456789"
def W5:signs.length=36:=by decide +kernel
abbrev Rw:=List (Key×List Key)
def rwP(R:Rw):PV:=.d (R.map λp=>(p.1,.l (p.2.map kP)))
def zU(R:Rw)(l:CT):List Key:=(zq R l).getD []
def owP(ow:Cs):List (Key×PV):=ow.map λp=>(p.1,kP p.2)
def trP(tr:Cp):List (Key×PV):=tr.map λk=>(k,.b true)
def W6{G:AH}{n:Nat}:∀{kvs:Cu},XY (qV G (n+1)) (vK kvs)=some kvs
 |[]=>rfl
 | (k,x)::kvs=>by show((qV G (n+1) (.v x)).bind λy=>(XY (qV G (n+1)) (vK kvs)).map ((k,y)::·))=_;rw[W6];rfl
def any_map{κ α β:Type}[DecidableEq κ]{f:α->β}{kvs:List (κ×α)}{k:κ}:(kvs.map λp=>(p.1,f p.2)).any (λkv=>decide (kv.1=k))=kvs.any (λkv=>decide (kv.1=k)):=by rw[List.any_map];rfl
def w6{κ α β:Type}[DecidableEq κ]{f:α->β}{kvs:List (κ×α)}{k:κ}{x:α}:dput (kvs.map λp=>(p.1,f p.2)) k (f x)=(dput kvs k x).map λp=>(p.1,f p.2):=by
 unfold dput;rw[any_map];split
 .rw[D3,D3];refine O9 λp _=>?_;show(if p.1=k then(p.1,f x)else(p.1,f p.2))=((if p.1=k then(p.1,x)else p).1,f (if p.1=k then(p.1,x)else p).2);split<;>rfl
 .rw[F8];rfl
def yR{κ α β:Type}[DecidableEq κ]{f:α->β}:∀{kvs:List (κ×α)}{k:κ},zq (kvs.map λp=>(p.1,f p.2)) k=(zq kvs k).map f
 |[],_=>rfl
 | (j,u)::kvs,k=>by rw[C8,zP,zP,yR];split<;>rfl
def YB:∀{tr:Cp}{k:CT},k∈tr->zq (trP tr) k=some (PV.b true)
 |j::tr,k,h=>by
  show zq ((j,PV.b true)::trP tr) k=_;rw[zP];split
  .rfl
  .rename_i n;exact YB ((C5.mp h).elim (λz=>absurd z.symm n) id)
def YC:∀{tr:Cp}{k:CT},k∉tr->zq (trP tr) k=none
 |[],k,_=>rfl
 |j::tr,k,h=>by show zq ((j,PV.b true)::trP tr) k=_;rw[zP,if_neg (λz=>h (by rw[z];exact B3))];exact YC λz=>h (B4 _ z)
def Uj(h:k∉tr):dput (trP tr) k (.b true)=trP (tr++[k]):=by unfold dput;rw[jP,YC h];show trP tr++[(k,.b true)]=trP (tr++[k]);unfold trP;rw[F8];rfl
def W7(k:CT):pk (kP k)=some k:=by cases k<;>rfl
def eE:pIn true (kP r) (.d kvs)=.ok (.b (!(zq kvs r).isSome)):=by cases r<;>exact M5 (λb=>Out.ok (PV.b b)) (a04 _)
def W8:pIx (.d kvs) (kP r)=vp (zq kvs r):=by cases r<;>rfl
def W9(k:CT):imm (kP k)=true:=by cases k<;>rfl
def stH(G:AH)(o t:Nat)(ow:Cs)(tr:Cp):AH:=(G.set o (.d (vK (owP ow)))).set t (.d (vK (trP tr)))
def AI(ht:t<G.length):(stH G o t ow tr)[t]?=some (.d (vK (trP tr))):=by unfold stH;rw[E4 (by rw[F5];exact ht)]
def xA(ho:o<G.length)(n:o≠t):(stH G o t ow tr)[o]?=some (.d (vK (owP ow))):=by unfold stH;rw[E5 (Ne.symm n),E4 ho]
def AJ:(stH G o t ow tr).set t (.d (vK (trP tr2)))=stH G o t ow tr2:=by unfold stH;rw[a1v]
def AK(n:o≠t):(stH G o t ow tr).set o (.d (vK (owP ow2)))=stH G o t ow2 tr:=by unfold stH;rw[List.set_comm _ _ (Ne.symm n),a1v]
def eF(h:G[t]?=some (.d (vK kvs))):hPT [false,false,false,true,true] (yP (mOp (pIn true) (zd 4) (zd 3))) [a,b,c,some (.g t),some (.v (kP r))] G=.ok (!(zq kvs r).isSome) G:=by
 have e1:ZN [false,false,false,true,true] [a,b,c,some (.g t),some (.v (kP r))]=none:=rfl;have e2:vN G [false,false,false,true,true] [a,b,c,some (.g t),some (.v (kP r))]=some [none,none,none,some (.d kvs),some (kP r)]:=by
  have:qV G 8 (.g t)=some (.d kvs):=by unfold qV;rw[h];show(XY _ (vK kvs)).map PV.d=_;rw[W6];rfl
  show((((qV G 8 (.g t)).bind λy=>_).map _).map _).map _=_;rw[this];rfl
 unfold hPT;rw[e1,e2];show(match(pIn true (kP r) (.d kvs)).bind asB with | .ok x=>_ | .exc c fs=>_ | .wall=>_)=_;rw[eE];rfl
def eI(h:G[o]?=some (.d (vK kvs))):hPT [false,false,true,false,true] (yP (mOp (pIn true) (zd 4) (zd 2))) [a,b,some (.g o),d,some (.v (kP r))] G=.ok (!(zq kvs r).isSome) G:=by
 have e1:ZN [false,false,true,false,true] [a,b,some (.g o),d,some (.v (kP r))]=none:=rfl;have e2:vN G [false,false,true,false,true] [a,b,some (.g o),d,some (.v (kP r))]=some [none,none,some (.d kvs),none,some (kP r)]:=by
  have:qV G 8 (.g o)=some (.d kvs):=by unfold qV;rw[h];show(XY _ (vK kvs)).map PV.d=_;rw[W6];rfl
  show(((qV G 8 (.g o)).bind λy=>_).map _).map _=_;rw[this];rfl
 unfold hPT;rw[e1,e2];show(match(pIn true (kP r) (.d kvs)).bind asB with | .ok x=>_ | .exc c fs=>_ | .wall=>_)=_;rw[eE];rfl
def pf(h:G[o]?=some (.d (vK kvs)))(hx:zq kvs r=some x)(hi:imm x=true):hP [false,false,true,false,true] (mOp pIx (zd 2) (zd 4)) [a,b,some (.g o),d,some (.v (kP r))] G=.ok (.v x) G:=by
 have e1:ZN [false,false,true,false,true] [a,b,some (.g o),d,some (.v (kP r))]=none:=rfl;have e2:vN G [false,false,true,false,true] [a,b,some (.g o),d,some (.v (kP r))]=some [none,none,some (.d kvs),none,some (kP r)]:=by
  have:qV G 8 (.g o)=some (.d kvs):=by unfold qV;rw[h];show(XY _ (vK kvs)).map PV.d=_;rw[W6];rfl
  show(((qV G 8 (.g o)).bind λy=>_).map _).map _=_;rw[this];rfl
 unfold hP;rw[e1,e2];show(match pIx (.d kvs) (kP r)with | .ok x=>_ | .exc c fs=>_ | .wall=>_)=_;rw[W8,hx];show(if imm x=true then _ else _)=_;rw[if_pos hi]
def Jd{rc:Key->List (Key×Key)->List Key->FrO Key}{left:CT}(hrc:∀{l ow tr b ow' tr'},rc l ow tr=some (b,ow',tr')->tr.length<=tr'.length/\ow.length<=ow'.length):
  ∀{rs:Cp}{ow:Cs}{tr:Cp}{b:Bool}{ow':Cs}{tr':Cp},frL rc left rs ow tr=some (b,ow',tr')->tr.length<=tr'.length/\ow.length<=ow'.length
 |[],ow,tr,b,ow',tr',e=>by cases e;exact⟨B7 _,B7 _⟩
 |r::rs,ow,tr,b,ow',tr',e=>by
  have pl:∀{ow:Cs},ow.length<=(dput ow r left).length:=λ{ow}=>by
   unfold dput;split
   .rw[u8];exact B7 _
   .rw[B5];exact T1 _ _
  unfold frL at e;split at e
  .exact Jd hrc e
  .split at e
   .cases e;exact⟨by rw[B5];exact T1 _ _,pl⟩
   .split at e
    .cases e
    .rename_i h1;cases e;obtain⟨p,q⟩:=hrc h1;rw[B5]at p;exact⟨E3 (T1 _ _) p,E3 q pl⟩
    .rename_i h1;obtain⟨p,q⟩:=hrc h1;obtain⟨p2,q2⟩:=Jd hrc e;rw[B5]at p;exact⟨E3 (E3 (T1 _ _) p) p2,E3 q q2⟩
def VQ{rows:Key->List Key}:∀{n:Nat}{l:CT}{ow:Cs}{tr:Cp}{b:Bool}{ow':Cs}{tr':Cp},fr rows n l ow tr=some (b,ow',tr')->tr.length<=tr'.length/\ow.length<=ow'.length
 |0,_,_,_,_,_,_,e=>by cases e
 |n+1,_,_,_,_,_,_,e=>Jd (VQ (n:=n)) e
section
variable {self:List HV->AH->HX HV}{R:PV}{l r:CT}{o t:Nat}{G:AH}{kv ko:Cu}
abbrev rho(R:PV)(l:CT)(o t:Nat)(x:Option HV):kA:=[some (.v R),some (.v (kP l)),some (.g o),some (.g t),x]
def eJ(h:G[t]?=some (.d (vK kv)))(hx:zq kv r=some x):zw self (rho R l o t (some (.v (kP r)))) G=.nx (rho R l o t (some (.v (kP r)))) G:=by show(hPT _ _ _ _).fw _=_;rw[eF h,hx];rfl
def eK(h:G[t]?=some (.d (vK kv)))(hl:kv.length<sizeLine):f6 (yj 3) (yj 4) (hP [] (mC (.b true))) (rho R l o t (some (.v (kP r)))) G=.nx (rho R l o t (some (.v (kP r)))) (G.set t (.d (vK (dput kv r (.b true))))):=by show(match G[t]?,pk (kP r)with|some (.d kvs),some q=>if kvs.length<sizeLine then HFw.nx _ (G.set t (.d (dput kvs q (.v (.b true)))))else .wall|_,_=>.wall)=_;rw[h,W7];show(if(vK kv).length<sizeLine then _ else _)=_;rw[if_pos (by unfold vK;rw[u8];exact hl)];exact M5 (λz=>HFw.nx _ (G.set t (.d z))) (w6 (f:=HV.v))
def eM(h:G[o]?=some (.d (vK ko)))(hl:ko.length<sizeLine):f6 (yj 2) (yj 4) (yj 1) (rho R l o t (some (.v (kP r)))) G=.nx (rho R l o t (some (.v (kP r)))) (G.set o (.d (vK (dput ko r (kP l))))):=by show(match G[o]?,pk (kP r)with|some (.d kvs),some q=>if kvs.length<sizeLine then HFw.nx _ (G.set o (.d (dput kvs q (.v (kP l)))))else .wall|_,_=>.wall)=_;rw[h,W7];show(if(vK ko).length<sizeLine then _ else _)=_;rw[if_pos (by unfold vK;rw[u8];exact hl)];exact M5 (λz=>HFw.nx _ (G.set o (.d z))) (w6 (f:=HV.v))
end
section
variable {R:Rw}{o t:Nat}{G:AH}
def my(h:zq R l=some xs):pIx (rwP R) (kP l)=.ok (.l (xs.map kP)):=by unfold rwP;rw[W8,yR (f:=λxs:List Key=>PV.l (xs.map kP)),h];rfl
def OkR(R:Rw)(ow:Cs):Prop:=∀x l,zq ow x=some l->∃xs,zq R l=some xs
def J5{self:List HV->AH->HX HV}{d:Nat}{left:CT}(ho:o<G.length)(ht:t<G.length)(n:o≠t)
  (hself:∀{l ow tr b ow' tr'},fr (zU R) d l ow tr=some (b,ow',tr')->OkR R ow->(∃x,zq ow x=some l)->ow'.length<sizeLine->tr'.length<sizeLine->self [.v (rwP R),.v (kP l),.g o,.g t] (stH G o t ow tr)=.ok (.v (.b b)) (stH G o t ow' tr')):
  ∀{rs:Cp}{x:Option HV}{ow:Cs}{tr:Cp}{b:Bool}{ow':Cs}{tr':Cp},frL (fr (zU R) d) left rs ow tr=some (b,ow',tr')->OkR R ow->ow'.length<sizeLine->tr'.length<sizeLine->
   ∃x',Zh (hgN 4) (zw self) ((rs.map kP).map .v) (rho (rwP R) left o t x) (stH G o t ow tr)=if b=true then .rt (.v (.b true)) (stH G o t ow' tr')else .nx (rho (rwP R) left o t x') (stH G o t ow' tr')
 |[],x,ow,tr,b,ow',tr',e,_,_,_=>by cases e;exact⟨x,rfl⟩
 |r::rs,x,ow,tr,b,ow',tr',e,ok,l1,l2=>by
  have step:∀{o':HFw},zw self (rho (rwP R) left o t (some (.v (kP r)))) (stH G o t ow tr)=o'->Zh (hgN 4) (zw self) (((r::rs).map kP).map .v) (rho (rwP R) left o t x) (stH G o t ow tr)=(match o' with
   |.nx ρ2 G2=>Zh (hgN 4) (zw self) ((rs.map kP).map .v) ρ2 G2
   |.ct ρ2 G2=>Zh (hgN 4) (zw self) ((rs.map kP).map .v) ρ2 G2
   |.bk ρ2 G2=>.nx ρ2 G2
   |.rt v G2=>.rt v G2
   |.exc c fs G2=>.exc c fs G2
   |.wall=>.wall):=λ{o'} h=>by subst h;rfl
  have len:∀{ow:Cs},(owP ow).length=ow.length:=λ{ow}=>by unfold owP;rw[u8]
  have lenT:∀{tr:Cp},(trP tr).length=tr.length:=λ{tr}=>by unfold trP;rw[u8]
  unfold frL at e;split at e
  .rename_i hr;obtain⟨x',h⟩:=J5 ho ht n hself (x:=some (.v (kP r))) e ok l1 l2;exact⟨x',(step (eJ (AI ht) (YB hr))).trans h⟩
  .rename_i hr;have nt:hPT [false,false,false,true,true] (yP (mOp (pIn true) (zd 4) (zd 3))) (rho (rwP R) left o t (some (.v (kP r)))) (stH G o t ow tr)=.ok true (stH G o t ow tr):=by rw[eF (AI ht),YC hr];rfl
   have put:tr.length<sizeLine->f6 (yj 3) (yj 4) (hP [] (mC (.b true))) (rho (rwP R) left o t (some (.v (kP r)))) (stH G o t ow tr)=.nx (rho (rwP R) left o t (some (.v (kP r)))) (stH G o t ow (tr++[r])):=λhl=>by rw[eK (AI ht) (by rw[lenT];exact hl),Uj hr,AJ]
   have body:tr.length<sizeLine->zw self (rho (rwP R) left o t (some (.v (kP r)))) (stH G o t ow tr)=((hOr (hPT [false,false,true,false,true] (yP (mOp (pIn true) (zd 4) (zd 2)))) (fZ (vA self (ya (yj 0) (ya (hP [false,false,true,false,true] (mOp pIx (zd 2) (zd 4))) (ya (yj 2) (ya (yj 3) Kl))))))) (rho (rwP R) left o t (some (.v (kP r)))) (stH G o t ow (tr++[r]))).fw λc G1=>if c=true then jO (f6 (yj 2) (yj 4) (yj 1)) (Km (hP [] (mC (.b true)))) (rho (rwP R) left o t (some (.v (kP r)))) G1 else .nx (rho (rwP R) left o t (some (.v (kP r)))) G1:=λhl=>by show(hPT _ _ _ _).fw _=_;rw[nt];show jO (f6 _ _ _) _ _ _=_;unfold jO;rw[put hl];rfl
   have fin:∀{ow1:Cs}{tr1:Cp},ow1.length<sizeLine->jO (f6 (yj 2) (yj 4) (yj 1)) (Km (hP [] (mC (.b true)))) (rho (rwP R) left o t (some (.v (kP r)))) (stH G o t ow1 tr1)=.rt (.v (.b true)) (stH G o t (dput ow1 r left) tr1):=λ{ow1 tr1} hl=>by unfold jO;rw[eM (xA ho n) (by rw[len];exact hl)];unfold owP;rw[w6 (f:=kP)];show HFw.rt _ ((stH G o t ow1 tr1).set o (.d (vK (owP (dput ow1 r left)))))=_;rw[AK n]
   have pl:∀{ow:Cs},ow.length<=(dput ow r left).length:=λ{ow}=>by
    unfold dput;split
    .rw[u8];exact B7 _
    .rw[B5];exact T1 _ _
   split at e
   .rename_i hn;cases e;rw[B5]at l2;refine⟨x,(step (o':=.rt (.v (.b true)) (stH G o t (dput ow r left) (tr++[r]))) ((body (by omega)).trans ?_))⟩;unfold hOr;rw[eI (xA ho n)];unfold owP;rw[yR (f:=kP),hn];exact fin (F1 pl l1)
   .rename_i l hl;have call:∀{b1:Bool}{ow1:Cs}{tr1:Cp},fr (zU R) d l ow (tr++[r])=some (b1,ow1,tr1)->ow1.length<sizeLine->tr1.length<sizeLine->
      (hOr (hPT [false,false,true,false,true] (yP (mOp (pIn true) (zd 4) (zd 2)))) (fZ (vA self (ya (yj 0) (ya (hP [false,false,true,false,true] (mOp pIx (zd 2) (zd 4))) (ya (yj 2) (ya (yj 3) Kl))))))) (rho (rwP R) left o t (some (.v (kP r)))) (stH G o t ow (tr++[r]))=.ok b1 (stH G o t ow1 tr1):=λ{b1 ow1 tr1} h1 a b=>by
     unfold hOr;rw[eI (xA ho n)];have g:zq (owP ow) r=some (kP l):=by unfold owP;rw[yR (f:=kP),hl];rfl
     rw[g];show HX.bind (vA self _ _ _) _=_;have ar:(ya (yj 0) (ya (hP [false,false,true,false,true] (mOp pIx (zd 2) (zd 4))) (ya (yj 2) (ya (yj 3) Kl)))) (rho (rwP R) left o t (some (.v (kP r)))) (stH G o t ow (tr++[r]))=.ok [.v (rwP R),.v (kP l),.g o,.g t] (stH G o t ow (tr++[r])):=by show HX.bind (HX.bind (hP _ _ _ _) _) _=_;rw[pf (xA ho n) g (W9 l)];rfl
     unfold vA;rw[ar];show HX.bind (self _ _) _=_;rw[hself h1 ok ⟨r,hl⟩ a b];rfl
    split at e
    .cases e
    .rename_i ow1 tr1 h1;cases e;have m:=VQ h1;rw[B5]at m;have lo:ow1.length<sizeLine:=F1 pl l1;refine⟨x,(step (o':=.rt (.v (.b true)) (stH G o t (dput ow1 r left) tr')) ((body (by omega)).trans ?_))⟩;rw[call h1 lo l2];exact fin lo
    .rename_i ow1 tr1 h1;have m:=VQ h1;have m2:=Jd (VQ (rows:=zU R) (n:=d)) e;rw[B5]at m;have lo:ow1.length<sizeLine:=F1 m2.2 l1;have lt:tr1.length<sizeLine:=F1 m2.1 l2;obtain⟨x',h⟩:=J5 ho ht n hself (x:=some (.v (kP r))) e (by rw[(Yk h1).1];exact ok) l1 l2;refine⟨x',(step (o':=.nx (rho (rwP R) left o t (some (.v (kP r)))) (stH G o t ow1 tr1)) ((body (by omega)).trans ?_)).trans h⟩;rw[call h1 lo lt];rfl
def eN(ho:o<G.length)(ht:t<G.length)(n:o≠t):∀{d:Nat}{l:CT}{ow:Cs}{tr:Cp}{b:Bool}{ow':Cs}{tr':Cp},fr (zU R) d l ow tr=some (b,ow',tr')->OkR R ow->(∃xs,zq R l=some xs)->ow'.length<sizeLine->tr'.length<sizeLine->
  zA d [.v (rwP R),.v (kP l),.g o,.g t] (stH G o t ow tr)=.ok (.v (.b b)) (stH G o t ow' tr')
 |0,_,_,_,_,_,_,e,_,_,_,_=>by cases e
 |d+1,l,ow,tr,b,ow',tr',e,ok,⟨xs,hx⟩,l1,l2=>by
  have e:frL (fr (zU R) d) l (zU R l) ow tr=some (b,ow',tr'):=e;have er:zU R l=xs:=by unfold zU;rw[hx];rfl
  rw[er]at e;obtain⟨x',h⟩:=J5 (self:=zA d) ho ht n (λ{l ow tr b ow' tr'} h ok ⟨x,hx⟩ a b=>eN ho ht n h ok (ok x l hx) a b) (x:=none) e ok l1 l2;have hv:g9 [true,true] (yy (mOp pIx (zd 0) (zd 1))) (v5 (zA d)) (zw (zA d)) (rho (rwP R) l o t none) (stH G o t ow tr)=Zh (hgN 4) (zw (zA d)) ((xs.map kP).map .v) (rho (rwP R) l o t none) (stH G o t ow tr):=by show(match(pIx (rwP R) (kP l)).bind items with | .ok xs=>Zh _ _ (xs.map HV.v) _ _|_=>HFw.wall)=_;rw[my hx];rfl
  show(match q_ (zA d) (rho (rwP R) l o t none) (stH G o t ow tr)with | .nx _ G'=>HX.ok (HV.v PV.n) G' | .rt x G'=>.ok x G' | .exc c fs G'=>.exc c fs G'|_=>.wall)=_;unfold q_ jO;rw[hv,h];cases b<;>rfl
end
def eO{rc:Key->List (Key×Key)->List Key->FrO Key}{left:CT}{A:Cp}(hrc:∀{l ow tr b ow' tr'},rc l ow tr=some (b,ow',tr')->tr.Nodup->(∀x∈tr,x∈A)->tr'.Nodup/\∀x∈tr',x∈A):
  ∀{rs:Cp}{ow:Cs}{tr:Cp}{b:Bool}{ow':Cs}{tr':Cp},frL rc left rs ow tr=some (b,ow',tr')->(∀x∈rs,x∈A)->tr.Nodup->(∀x∈tr,x∈A)->tr'.Nodup/\∀x∈tr',x∈A
 |[],ow,tr,b,ow',tr',e,_,n,h=>by cases e;exact⟨n,h⟩
 |r::rs,ow,tr,b,ow',tr',e,hA,n,h=>by
  have hA':∀x∈rs,x∈A:=λx hx=>hA x (B4 _ hx);unfold frL at e;split at e
  .exact eO hrc e hA' n h
  .rename_i hr;have n1:(tr++[r]).Nodup:=L6.mpr ⟨n,by simp,λx hx y hy z=>hr (by rw[<- List.mem_singleton.mp hy,<- z];exact hx)⟩;have h1:∀x∈tr++[r],x∈A:=λx hx=>(E9.mp hx).elim (h x) λz=>by rw[C7.mp z];exact hA r B3
   split at e
   .cases e;exact⟨n1,h1⟩
   .split at e
    .cases e
    .rename_i q;cases e;exact hrc q n1 h1
    .rename_i q;obtain⟨n2,h2⟩:=hrc q n1 h1;exact eO hrc e hA' n2 h2
def uQ{rows:Key->List Key}{A:Cp}(hA:∀l,∀x∈rows l,x∈A):∀{n:Nat}{l:CT}{ow:Cs}{tr:Cp}{b:Bool}{ow':Cs}{tr':Cp},fr rows n l ow tr=some (b,ow',tr')->tr.Nodup->(∀x∈tr,x∈A)->tr'.Nodup/\∀x∈tr',x∈A
 |0,_,_,_,_,_,_,e,_,_=>by cases e
 |n+1,l,_,_,_,_,_,e,a,b=>eO (uQ hA (n:=n)) e (hA l) a b
def allR(R:Rw):List Key:=R.flatMap (·.2)
def eQ:∀{R:Rw}{k:Nat},(∀p∈R,p.2.length<=k)->(allR R).length<=R.length*k
 |[],k,_=>by simp[allR]
 |p::R,k,h=>by have:=eQ (R:=R) (k:=k) λq hq=>h q (B4 _ hq);have h1:=h p B3;unfold allR at this ⊢;rw[List.flatMap_cons,B5,B0,Nat.succ_mul];omega
def iH(l:CT):∀x∈zU R l,x∈allR R:=λx hx=>by
 unfold zU at hx;cases e:zq R l with
 |none=>rw[e]at hx;cases hx
 |some xs=>rw[e]at hx;exact List.mem_flatMap.mpr ⟨_,qW e,hx⟩
structure rg(R:Rw):Prop where
 nd:(R.map (·.1)).Nodup
 few:R.length<=40
 short:∀p∈R,p.2.length<=40
def eR:stH (G++c::(X++[c'])) G.length (G.length+1+X.length) ow tr=G++.d (vK (owP ow))::(X++[.d (vK (trP tr))]):=by unfold stH;rw[S4 _ _ (B7 _),N8,a00,S4 _ _ (by omega),show G.length+1+X.length-G.length=X.length+1 from by omega,a2d,S4 _ _ (B7 _),N8,a00]
def J6{R:Rw}{G:AH}(hR:rg R):∀{ls done:Cp}{ow:Cs}{X:AH}{x:Option HV},done++ls=R.map (·.1)->Good (zU R) done ow->
  ∃x' ow' X',Zh zt zm ((ls.map kP).map .v) [some (.v (rwP R)),some (.g G.length),x] (G++.d (vK (owP ow))::X)=.nx [some (.v (rwP R)),some (.g G.length),x'] (G++.d (vK (owP ow'))::X')/\Good (zU R) (R.map (·.1)) ow'/\gr (zU R) 45 ls ow=some ow'
 |[],done,ow,X,x,e,g=>⟨x,ow,X,rfl,by rw[<- e,F0];exact g,rfl⟩
 |l::ls,done,ow,X,x,e,g=>by
  have nd:=hR.nd;rw[<- e]at nd;have hl:l∉done:=λz=>(L6.mp nd).2.2 l z l B3 rfl;have hlen:done.length+(ls.length+1)=R.length:=by have:=M5 List.length e;rw[B5,u8,B0]at this;exact this
  have few:=hR.few;obtain⟨b,ow1,tr1,h1,g1⟩:=g.one (n:=45) hl (by omega);have has:∀k∈R.map (·.1),∃xs,zq R k=some xs:=λk hk=>L8.mp (qX.mpr hk);have l1:ow1.length<sizeLine:=by have:=g1.len;rw[B5]at this;exact F1 (m:=41) (by simp at this;omega) (by decide)
  have l2:tr1.length<sizeLine:=by obtain⟨n2,h2⟩:=uQ (rows:=zU R) (A:=allR R) iH h1 P8 (λx hx=>(O5 hx).elim);have:=Qx n2 h2;have a:=eQ hR.short;have:(allR R).length<=40*40:=E3 a (Nat.mul_le_mul_right _ few);exact F1 (m:=1600) (by omega) (by decide)
  have ca:=eN (R:=R) (G:=G++.d (vK (owP ow))::(X++[.d (vK [])])) (o:=G.length) (t:=G.length+1+X.length) (by simp) (by simp;omega) (by omega) h1 (λy l' hy=>has l' (by rw[<- e];exact D7 _ (g.sub y l' hy))) (has l (by rw[<- e];exact C6 _ B3)) l1 l2;rw[eR,eR]at ca;have hb:zm [some (.v (rwP R)),some (.g G.length),some (.v (kP l))] (G++.d (vK (owP ow))::X)=.nx [some (.v (rwP R)),some (.g G.length),some (.v (kP l))] (G++.d (vK (owP ow1))::(X++[.d (vK (trP tr1))])):=by
   have ln:(G++Cell.d (vK (owP ow))::X).length=G.length+1+X.length:=by rw[B5,B0];omega
   show HX.fw (zA 45 [.v (rwP R),.v (kP l),.g G.length,.g (G++Cell.d (vK (owP ow))::X).length] ((G++Cell.d (vK (owP ow))::X)++[.d (vK [])])) _=_;rw[ln,F3,a1t];rw[show([Cell.d (vK [])]:AH)=[Cell.d (vK (trP []))]from rfl,ca];rfl
  obtain⟨x',ow2,X2,h,g2,hgr⟩:=J6 hR (ls:=ls) (done:=done++[l]) (ow:=ow1) (X:=X++[.d (vK (trP tr1))]) (x:=some (.v (kP l))) (by rw[<- e];simp) g1;refine⟨x',ow2,X2,?_,g2,by unfold gr;rw[h1];exact hgr⟩;show(match zm [some (.v (rwP R)),some (.g G.length),some (.v (kP l))] (G++.d (vK (owP ow))::X)with
   |.nx ρ2 G2=>Zh zt zm ((ls.map kP).map .v) ρ2 G2
   |.ct ρ2 G2=>Zh zt zm ((ls.map kP).map .v) ρ2 G2
   |.bk ρ2 G2=>.nx ρ2 G2
   |.rt v G2=>.rt v G2
   |.exc c fs G2=>.exc c fs G2
   |.wall=>.wall)=_
  rw[hb];exact h
def eS(hR:rg R)(hck:zD [rwP R]=.ok .n):∃ow X,z6 [.v (rwP R)] G=.ok (.g G.length) (G++.d (vK (owP ow))::X)/\Good (zU R) (R.map (·.1)) ow/\gr (zU R) 45 (R.map (·.1)) []=some ow:=by
 obtain⟨x',ow,X,h,g,hgr⟩:=J6 (G:=G) hR (ls:=R.map (·.1)) (done:=[]) (ow:=[]) (X:=[]) (x:=none) rfl iD;refine⟨ow,X,?_,g,hgr⟩;have c1:X4 (hP [true] (zh zD (ze (zd 0) zC))) [some (.v (rwP R)),none,none] G=.nx [some (.v (rwP R)),none,none] G:=by show HX.fw (match zD [rwP R]with | .ok x=>HX.ok (HV.v x) G | .exc c fs=>.exc c fs G | .wall=>.wall) _=_;rw[hck];rfl
 have ek:((R.map λp=>(p.1,PV.l (p.2.map kP))).map λkx=>kP kx.1).map HV.v=((R.map (·.1)).map kP).map .v:=by rw[D3,D3,D3,D3];rfl
 have c2:WH 0 zt zm [some (.v (rwP R)),some (.g G.length),none] (G++[.d (vK [])])=.nx [some (.v (rwP R)),some (.g G.length),x'] (G++.d (vK (owP ow))::X):=by show Zh _ _ (((R.map λp=>(p.1,PV.l (p.2.map kP))).map λkx=>kP kx.1).map .v) _ _=_;rw[ek];exact h
 show(match yw [some (.v (rwP R)),none,none] G with | .nx _ G'=>HX.ok (HV.v PV.n) G' | .rt x G'=>.ok x G' | .exc c fs G'=>.exc c fs G'|_=>.wall)=_;unfold yw;rw[show jO (X4 (hP [true] (zh zD (ze (zd 0) zC)))) (jO (wQ 1 (hF [] QV)) (jO (WH 0 zt zm) (Km (yj 1)))) [some (.v (rwP R)),none,none] G=(match WH 0 zt zm [some (.v (rwP R)),some (.g G.length),none] (G++[.d (vK [])])with
   |.nx ρ' G'=>Km (yj 1) ρ' G' | .rt x G'=>.rt x G' | .bk ρ' G'=>.bk ρ' G' | .ct ρ' G'=>.ct ρ' G' | .exc c fs G'=>.exc c fs G' | .wall=>.wall)from by
  unfold jO;rw[c1];rfl,c2]
 rfl
def YD{α:Type}{a:List (Key×α)}{v:α}(h:k∉a.map (·.1)):dput a k v=a++[(k,v)]:=by unfold dput;rw[jP,if_neg (λz=>h (qX.mp z))]
def ai:∀{es acc:Cu},((acc++es).map (·.1)).Nodup->es.foldl (λacc kv=>dput acc kv.1 kv.2) acc=acc++es
 |[],acc,_=>by rw[F0];rfl
 | (k,v)::es,acc,h=>by
  have ha:(acc++(k,v)::es)=(acc++[(k,v)])++es:=by simp
  rw[ha]at h ⊢;have hk:k∉acc.map (·.1):=λz=>by rw[F8,F8]at h;have:=(L6.mp (L6.mp h).1).2.2 k z k;exact this (by simp) rfl
  rw[a0l];show es.foldl _ (dput acc k v)=_;rw[YD hk];exact ai h
def aj{f:Key×Key->PV}:∀{ow:Cs},fY (ow.map λp=>PV.t [kP p.2,f p])=some (ow.map λp=>(p.2,f p))
 |[]=>rfl
 |p::ow=>by show((pk (kP p.2)).bind λq=>(fY (ow.map λp=>PV.t [kP p.2,f p])).map ((q,f p)::·))=_;rw[W7,aj];rfl
def ao{mx:ME}{f:Key×Key->PV}{ow:Cs}(nd:(ow.map (·.1)).Nodup)(nv:(ow.map (·.2)).Nodup)(hl:ow.length<=1000)(hx:∀p∈ow,∀z:Option PV,mx [some (kP p.1),z]=.ok (f p)){r0:CJ}{rest:Sto}:
  zh kD (ze (mLC (zv 1) [none,some 1] (gNm 0) Ws (lJ (ze (mOp pIx (zd 1) (zd 0)) (ze mx zC)))) zC) (r0::some (.d (owP ow))::rest)=.ok (.d (ow.map λp=>(p.2,f p))):=by
 have e1:mLC (zv 1) [none,some 1] (gNm 0) Ws (lJ (ze (mOp pIx (zd 1) (zd 0)) (ze mx zC))) (r0::some (.d (owP ow))::rest)=.ok (.l (ow.map λp=>PV.t [kP p.2,f p])):=by refine Vj (xs:=ow.map λp=>kP p.1) (by show Out.ok ((owP ow).map _)=_;unfold owP;rw[D3];rfl) ?_;refine Vg (λp:Key×Key=>kP p.1) (λp=>PV.t [kP p.2,f p]) (λρ=>∃z,ρ=[z,some (.d (owP ow))]) ow _ ⟨none,rfl⟩ (λp hp ρ ⟨z,e⟩=>?_) (by omega);subst e;refine⟨_,rfl,⟨_,rfl⟩,?_⟩;show((pIx (.d (owP ow)) (kP p.1)).bind λx=>((mx [some (kP p.1),some (.d (owP ow))]).bind λy=>Out.ok [y]).bind λxs=>.ok (x::xs)).bind _=_;rw[W8,show zq (owP ow) p.1=some (kP p.2)from by unfold owP;rw[yR (f:=kP),zF nd (show(p.1,p.2)∈ow from hp)];rfl,hx p hp];show(if([kP p.2,f p]:List PV).length<=sizeLine then Out.ok (PV.t [kP p.2,f p])else .wall)=_;exact if_pos (show 2<=sizeLine from by decide)
 show((mLC _ _ _ _ _ _).bind λx=>Out.ok [x]).bind kD=_;rw[e1];show vp ((fY _).map λes=>PV.d (JL es))=_;rw[aj];show Out.ok (PV.d (JL _))=_;unfold JL;rw[ai (acc:=[]) (by rw[a0I,D3];exact nv)];rfl
def YE{α:Type}{f:α->PV}(h:∀x,imm (f x)=true):∀{xs:List α},Vq (xs.map f)=true
 |[]=>rfl
 |x::xs=>by show(imm (f x)&&Vq (xs.map f))=true;rw[h,YE h];rfl
def ph(h:G[k]?=some (.d (vK kvs))):qV G 8 (.g k)=some (.d kvs):=by unfold qV;rw[h];show(XY _ (vK kvs)).map PV.d=_;rw[W6];rfl
def mz(h0:ZN bs ρ=none)(h1:vN G bs ρ=some r)(h2:m r=.ok x)(hi:Ay x=true)(hc:gZ x=some c):hF bs m ρ G=.ok (.g G.length) (G++[c]):=by unfold hF;rw[h0,h1];dsimp only;rw[h2];dsimp only;rw[if_pos hi,hc]
def eU(hR:rg R)(g:Good (zU R) (R.map (·.1)) ow):ow.length<=40:=by have:=g.len;rw[u8]at this;exact E3 this hR.few
def Uk(hR:rg R)(hck:zD [rwP R]=.ok .n):∃ow X k D,jB [.v (rwP R)] G=.ok (.g k) (G++X)/\(G++X)[k]?=some (.d (vK D))/\D=ow.map (λp=>(p.2,kP p.1))/\Good (zU R) (R.map (·.1)) ow/\gr (zU R) 45 (R.map (·.1)) []=some ow:=by
 obtain⟨ow,X,h,g,hgr⟩:=eS (G:=G) hR hck;have hg:(G++.d (vK (owP ow))::X)[G.length]?=some (.d (vK (owP ow))):=by rw[F4 (B7 _),N8];rfl
 have e:=ao (mx:=zd 0) (f:=λp=>kP p.1) g.nd g.vals (E3 (eU hR g) (by decide)) (λp _ z=>rfl) (r0:=none) (rest:=[]);have hf:=mz (ρ:=[some (.v (rwP R)),some (.g G.length)]) (G:=G++.d (vK (owP ow))::X) (bs:=[false,true]) (m:=zh kD (ze (mLC (zv 1) [none,some 1] Ys Yt Yu) zC)) (r:=[none,some (.d (owP ow))]) (c:=.d (vK (ow.map λp=>(p.2,kP p.1)))) rfl
  (by show((qV _ 8 (.g G.length)).bind λy=>_).map _=_;rw[ph hg];rfl) e (by show Vq _=true;rw[D3];exact YE λp=>W9 _) rfl
 refine⟨ow,.d (vK (owP ow))::X++[.d (vK (ow.map λp=>(p.2,kP p.1)))],(G++.d (vK (owP ow))::X).length,ow.map (λp=>(p.2,kP p.1)),?_,?_,rfl,g,hgr⟩
 .show(match vf [some (.v (rwP R)),none] G with | .nx _ G'=>HX.ok (HV.v PV.n) G' | .rt x G'=>.ok x G' | .exc c fs G'=>.exc c fs G'|_=>.wall)=_;unfold vf jO;rw[show wQ 1 (vA z6 (ya (yj 0) Kl)) [some (.v (rwP R)),none] G=.nx [some (.v (rwP R)),some (.g G.length)] (G++.d (vK (owP ow))::X)from by
   show HX.fw (z6 [.v (rwP R)] G) _=_;rw[h];rfl]
  show(match HX.fw (hF _ _ _ _) _ with | .nx _ G'=>HX.ok (HV.v PV.n) G' | .rt x G'=>.ok x G' | .exc c fs G'=>.exc c fs G'|_=>.wall)=_;rw[hf];show HX.ok _ _=_;rw[F3]
 .rw[<- F3,F4 (B7 _),N8];rfl
section
variable {c:HMT}{b:HMS}
end
section
variable {R:PV}{o w:Nat}{a x y:Option HV}{P:AH}{ls rs:Cp}{ow:Cs}{r:CT}
def mB{G:AH}{n:Nat}:∀{xs:Cy},Q7 (qV G (n+1)) (xs.map .v)=some xs
 |[]=>rfl
 |x::xs=>by show((qV G (n+1) (.v x)).bind λy=>(Q7 (qV G (n+1)) (xs.map .v)).map (y::·))=_;rw[mB];rfl
end
section
variable {R:Rw}{o:Nat}{a:Option HV}{P:AH}{ow:Cs}
end
def zS(h:p ρ G=.nx ρ' G')(h2:q ρ' G'=o):jO p q ρ G=o:=by unfold jO;rw[h];exact h2
def ZY{R:Rw}{rest:Sto}:zv 0 (some (rwP R)::rest)=.ok (R.map λp=>kP p.1):=by show Out.ok ((R.map λp=>(p.1,PV.l (p.2.map kP))).map λkx=>kP kx.1)=_;rw[D3];rfl
def jF(nd:(R.map (·.1)).Nodup)(hp:p∈R):pIx (rwP R) (kP p.1)=.ok (.l (p.2.map kP)):=my (zF nd (show(p.1,p.2)∈R from hp))
def eV{x:PV}{n:Nat}(h:vy [x]=.ok (.i (n:Int)))(hn:n<=40):zH [x,.i 40]=.ok .n:=by
 have hd:decide ((n:Int)>40)=false:=G5 (by omega);have ht:yP (mOp pGt (zh vy (ze (zd 0) zC)) (zd 1)) [some x,some (.i 40)]=.ok false:=by show((vy [x]).bind λa=>pGt a (.i 40)).bind asB=_;rw[h];show Out.ok (decide ((n:Int)>40))=_;rw[hd]
 have hs:qI [some x,some (.i 40)]=.ok (.nx [some x,some (.i 40)]):=by unfold qI sIf;rw[ht];rfl
 show(match qI [some x,some (.i 40)]with | .ok (.nx _)=>_ | .ok (.rt x)=>_ | .ok (.bk _)=>_ | .ok (.ct _)=>_ | .exc c fs=>_ | .wall=>_)=_;rw[hs];rfl
def mD:vy [rwP R]=.ok (.i (R.length:Int)):=by show Out.ok (PV.i ((R.map λp=>(p.1,PV.l (p.2.map kP))).length:Int))=_;rw[u8]
def aq(hR:rg R):zD [rwP R]=.ok .n:=by
 obtain⟨_,ρ',_,h⟩:=vM (g:=kl) (b:=km) (λp:Key×List Key=>kP p.1) (λ(_:Unit) ρ=>∃z,ρ=[some (rwP R),z]) (λ_ _ _=>True) R () [some (rwP R),none] ⟨none,rfl⟩ (λp hp u ρ ⟨z,e⟩=>by
  subst e;refine⟨[some (rwP R),some (kP p.1)],rfl,(),[some (rwP R),some (kP p.1)],trivial,⟨_,rfl⟩,.inl ?_⟩;show(((pIx (rwP R) (kP p.1)).bind λx=>Out.ok [x,.i 40]).bind zH).bind _=_;rw[jF hR.nd hp];show(zH [.l (p.2.map kP),.i 40]).bind _=_;rw[eV (x:=.l (p.2.map kP)) (n:=p.2.length) (by show Out.ok (PV.i ((p.2.map kP).length:Int))=_;rw[u8]) (hR.short p hp)];rfl)
 have h2:kN (zv 0) kl km [some (rwP R),none]=.ok (.nx ρ'):=ql ZY h;have h1:QU (zh zH (ze (zd 0) (ze (mC (.i 40)) zC))) [some (rwP R),none]=.ok (.nx [some (rwP R),none]):=by show(zH [rwP R,.i 40]).bind _=_;rw[eV mD hR.few];rfl
 show(match qJ [some (rwP R),none]with | .ok (.nx _)=>_ | .ok (.rt x)=>_ | .ok (.bk _)=>_ | .ok (.ct _)=>_ | .exc c fs=>_ | .wall=>_)=_;rw[show qJ [some (rwP R),none]=.ok (.nx ρ')from by
  unfold qJ y9;rw[h1];exact h2]
 rfl
def eW{A:Rw}{k:CT}{xs:Cp}:dput (A.map λp=>(p.1,PV.l (p.2.map kP))) k (.l (xs.map kP))=(dput A k xs).map λp=>(p.1,PV.l (p.2.map kP)):=w6 (f:=λxs:List Key=>PV.l (xs.map kP))
def iI{R:Rw}(nd:(R.map (·.1)).Nodup){k:Nat}(h:k<R.length):dput (R.take k) R[k].1 R[k].2=R.take (k+1):=by
 have e:R.take (k+1)=R.take k++[R[k]]:=by rw[List.take_succ_eq_append_getElem h]
 rw[e];refine YD λz=>?_;have:((R.take (k+1)).map (·.1)).Nodup:=nd.sublist ((List.take_sublist _ _).map _);rw[e,F8]at this;exact(L6.mp this).2.2 _ z _ (by simp) rfl
def pq(nd:(R.map (·.1)).Nodup)(hl:R.length<=1000):y6 [rwP R]=.ok (rwP R):=by
 obtain⟨ρ',⟨z,e⟩,h⟩:=XX (g:=vY) (b:=vZ) (λp:Key×List Key=>kP p.1) (λk ρ=>∃z,ρ=[some (rwP R),some (rwP (R.take k)),z]) R [some (rwP R),some (.d []),none] ⟨none,rfl⟩ (λk hk ρ ⟨z,e⟩=>by
  subst e;refine⟨[some (rwP R),some (rwP (R.take k)),some (kP R[k].1)],rfl,[some (rwP R),some (rwP (R.take (k+1))),some (kP R[k].1)],⟨_,rfl⟩,.inl ?_⟩;show(((pIx (rwP R) (kP R[k].1)).bind λx=>Out.ok [x]).bind KJ).bind _=_;rw[jF nd (T2 hk)];show(match pk (kP R[k].1)with|some q=>if((R.take k).map λp:Key×List Key=>(p.1,PV.l (p.2.map kP))).length<sizeLine then Out.ok (Fw.nx [some (rwP R),some (.d (dput ((R.take k).map λp:Key×List Key=>(p.1,PV.l (p.2.map kP))) q (.l (R[k].2.map kP)))),some (kP R[k].1)])else .wall|none=>.wall)=_;rw[W7];show(if((R.take k).map λp:Key×List Key=>(p.1,PV.l (p.2.map kP))).length<sizeLine then _ else _)=_;rw[if_pos (by rw[u8,P4];exact F1 (E3 (Nat.min_le_right _ _) hl) (by decide)),eW,iI nd hk];rfl)
 subst e;refine kT ?_;show wV [some (rwP R),none,none]=_;unfold wV y9;show(kN (zv 0) vY vZ [some (rwP R),some (.d []),none]).bind _=_;rw[ql ZY h];show Out.ok (Fw.rt (rwP (R.take R.length)))=_;rw[a0B]
def mE:pIn false (kP r) (.d kvs)=.ok (.b (zq kvs r).isSome):=by cases r<;>exact M5 (λb=>Out.ok (PV.b b)) (a0t _)
def au:∀{tr:Cp}{k:CT},(trP tr).map (λkv=>if kv.1=k then(kv.1,PV.b true)else kv)=trP tr
 |[],_=>rfl
 |j::tr,k=>by show(if j=k then(j,PV.b true)else(j,PV.b true))::(trP tr).map _=(j,PV.b true)::trP tr;rw[au,ite_self]
def iJ(h:k∈tr):dput (trP tr) k (.b true)=trP tr:=by unfold dput;rw[jP,YB h,if_pos (show(some (PV.b true)).isSome=true from rfl),au]
def eX:(trP tr).length=tr.length:=by unfold trP;rw[u8]
def eY:∀{kvs:Cu},X7 (vK kvs)=some kvs
 |[]=>rfl
 | (k,x)::kvs=>by show(X7 (vK kvs)).map ((k,x)::·)=_;rw[eY];rfl
def rwK(R:Rw):List (Key×PV):=R.map λp=>(p.1,.l (p.2.map kP))
section
variable {G X:AH}{x:HV}{R:Rw}
end
def AL(k:CT):Z3 (n+1) (kP k) (kP k)=some true:=by
 cases k with
 |inl i=>show Z3 (n+1) (.i i) (.i i)=_;rw[dg,L5 rfl]
 |inr z=>show Z3 (n+1) (.s z) (.s z)=_;rw[tX,L5 rfl]
def uR{n:Nat}:∀{xs:Cp},Xg (Z3 (n+1)) (xs.map kP) (xs.map kP)=some true
 |[]=>rfl
 |x::xs=>by show lM (Z3 (n+1) (kP x) (kP x)) (Xg (Z3 (n+1)) (xs.map kP) (xs.map kP))=_;rw[AL,uR];rfl
def eZ{R:Rw}(nd:(R.map (·.1)).Nodup):∀{ps:Rw},(∀p∈ps,p∈R)->bb (Z3 7) (rwK R) (rwK ps)=some true
 |[],_=>rfl
 |p::ps,h=>by show(match zq (rwK R) p.1 with|none=>some false|some y=>lM (Z3 7 (.l (p.2.map kP)) y) (bb (Z3 7) (rwK R) (rwK ps)))=_;rw[show zq (rwK R) p.1=some (.l (p.2.map kP))from by unfold rwK;rw[yR (f:=λxs:List Key=>PV.l (xs.map kP)),zF nd (show(p.1,p.2)∈R from h p B3)];rfl,eZ nd λq hq=>h q (B4 _ hq)];show lM (Xg (Z3 6) (p.2.map kP) (p.2.map kP)) (some true)=_;rw[uR];rfl
def AN(nd:(R.map (·.1)).Nodup):V3 true (rwP R) (rwP R)=.ok (.b false):=by
 have:Vi 8 (rwP R) (rwP R)=some true:=by show(if(rwK R).length=(rwK R).length then bb (Z3 7) (rwK R) (rwK R)else some false)=_;rw[if_pos rfl,eZ nd λp hp=>hp]
 unfold V3;rw[this];rfl
def mF:V3 neg (.i a) (.i b)=.ok (.b (xor neg (decide (a=b)))):=by
 have:Vi 8 (.i a) (.i b)=some (decide (a=b)):=by show Z3 8 (.i a) (.i b)=_;rw[dg]
 unfold V3;rw[this]
def pw{κ α:Type}[DecidableEq κ]{A:List (κ×α)}{k:κ}{v:α}:(dput A k v).length<=A.length+1:=by
 unfold dput;split
 .rw[u8];omega
 .rw[B5];exact B7 _
def kV:Key->V
 |.inl i=>.int i
 |.inr x=>.str x
def e_(k:CT):toV (kP k)=some (kV k):=by cases k<;>rfl
def AO:eqV (kV a) (kV b)=true↔a=b:=by
 cases a<;>cases b
 .show(_==_)=true↔_;rw[F9];exact⟨λh=>by rw[h],λh=>a2h h⟩
 .exact⟨λh=>(by cases h),λh=>(by cases h)⟩
 .exact⟨λh=>(by cases h),λh=>(by cases h)⟩
 .show(_==_)=true↔_;rw[F9];exact⟨λh=>by rw[h],λh=>a2i h⟩
def px{k:CT}:∀{ls:Cp},∃b,inP (kV k) (ls.map kP)=some b/\(b=true↔k∈ls)
 |[]=>⟨false,rfl,by simp⟩
 |l::ls=>by
  obtain⟨b,e,h⟩:=px (k:=k) (ls:=ls);refine⟨eqV (kV l) (kV k)||b,?_,?_⟩
  .show(match toV (kP l),inP (kV k) (ls.map kP)with|some u,some b=>some (eqV u (kV k)||b)|_,_=>none)=_;rw[e_,e]
  .rw[Bool.or_eq_true,AO,h,C5];exact⟨λz=>z.imp Eq.symm id,λz=>z.imp Eq.symm id⟩
def AQ:pIn true (kP k) (.l (ls.map kP))=.ok (.b (outside ls k)):=by
 obtain⟨b,e,h⟩:=px (k:=k) (ls:=ls);have:xor true b=outside ls k:=by
  cases b with
  |true=>cases q:outside ls k with
   |false=>rfl
   |true=>exact absurd (h.mp rfl) (zz.mp q)
  |false=>rw[zz.mpr (λz=>by cases h.mpr z)];rfl
 have h2:pIn true (kP k) (.l (ls.map kP))=vp (((toV (kP k)).bind λv=>inP v (ls.map kP)).map λb=>.b (xor true b)):=by cases k<;>rfl
 rw[h2,e_];show vp ((inP (kV k) (ls.map kP)).map λb=>PV.b (xor true b))=_;rw[e,<- this];rfl
def fb(h:G[k]?=some (.l (xs.map .v))):qV G (n+2) (.g k)=some (.l xs):=by unfold qV;rw[h];show(Q7 _ (xs.map HV.v)).map PV.l=_;rw[mB];rfl
def J7(h0:ZN bs ρ=none)(h1:vN G bs ρ=some r)(h2:m r=.ok b):hPT bs m ρ G=.ok b G:=by unfold hPT;rw[h0,h1];dsimp only;rw[h2]
def bu(h:c ρ G=.ok false G'):hIf c p q ρ G=q ρ G':=by unfold hIf;rw[h];rfl
def uS(h:c ρ G=.ok true G'):hIf c p q ρ G=p ρ G':=by unfold hIf;rw[h];rfl
def sgn(r:Int):Str:=⟨#[(signs.cps.toList[r.toNat]?).getD 0]⟩
def fc(h0:0<=r)(h1:r<36):pIx (.s "abcdefghijklmnopqrstuvwxyz0123456789") (.i r)=.ok (.s (sgn r)):=by
 show pIx (.s signs) (.i r)=_;unfold pIx;have hs:signs.length<=sizeLine:=by rw[W5];decide
 simp only[hs,if_true];have hl:r.toNat<signs.cps.toList.length:=by have:=W5;unfold Str.length at this;simp;omega
 rw[Wu h0];unfold sgn;rw[B9 hl];rfl
def pA:∀a:Fin 36,∀b:Fin 36,sgn (a.val:Int)=sgn (b.val:Int)->a=b:=by decide +kernel
def fe(r0:0<=r)(r1:r<36)(s0:0<=s)(s1:s<36)(h:sgn r=sgn s):r=s:=by
 have:=pA ⟨r.toNat,by omega⟩ ⟨s.toNat,by omega⟩ (by
  show sgn (r.toNat:Int)=sgn (s.toNat:Int);rw[a10 r0,a10 s0];exact h)
 have:=M5 Fin.val this;simp only at this;omega
def YF(c:Int):Nat->Str
 |0=>""
 |j+1=>YF c j++sgn (mix c (3+j) % 36)
def VR{c:Int}:∀{j:Nat},(YF c j).length=j
 |0=>rfl
 |j+1=>by unfold YF;rw[N5,VR];rfl
def bw:∃(o:CJ),ZL we jX (Q3 0 10) ([some (.i c),k,some (.s "abcdefghijklmnopqrstuvwxyz0123456789"),some (.s ""),w]++z)=.ok (.nx ([some (.i c),k,some (.s "abcdefghijklmnopqrstuvwxyz0123456789"),some (.s (YF c 10)),o]++z)):=by
 obtain⟨ρ,⟨_,o,rfl⟩,e⟩:=Vk (g:=we) (b:=jX) (λj ρ=>j<=10/\∃(o:CJ),ρ=[some (.i c),k,some (.s "abcdefghijklmnopqrstuvwxyz0123456789"),some (.s (YF c j)),o]++z) 10 _ ⟨F7 _,w,rfl⟩ (λj hj ρ ⟨_,o,hρ⟩=>by
  subst hρ;have hs:=fc (r:=mix c (3+j) % 36) (a0P _ (by decide)) (a2e _ (by decide));have hb':qU (.s (YF c j)) (.s (sgn (mix c (3+j) % 36)))=.ok (.s (YF c (j+1))):=uP (by rw[VR];show j+1<=1000;omega);refine⟨_,rfl,_,⟨hj,some (.i j),rfl⟩,Or.inl ?_⟩;have hm:=J3 (c:=c) (t:=3+j) (by omega) (by omega);unfold jX
  simp_all[hm,hs,hb'])
 exact⟨o,e⟩
def aw(h:b.length=10):(Txt.slice b (some 9) none).length=1:=by
 unfold Txt.slice;rw[h];have e:Builtin.Str.strSliceIndices (some 9) none 1 10=[9]:=by decide +kernel
 rw[e];have hb:9<b.cps.size:=by have:b.cps.size=10:=h;omega
 show(Str.mk (([9]:List Nat).filterMap λx=>b.cps[x]?).toArray).length=1;rw[a0k,Array.getElem?_eq_getElem hb];rfl
def wordAt(p m t:Str)(r k:Int):Str:=p++(sgn ((r+k) / 36)++sgn ((r+k) % 36))++m++Txt.mul t (k % 2)
def pB:∃(p m t:Str)(r:Int),t.length=1/\p.length<=10/\m.length<=10/\0<=r/\r<36/\∀k:Int,0<=k->k<100->jj [.i c,.i k]=.ok (.s (wordAt p m t r k)):=by
 have m2:0<=mix c 2 % 10:=a0P _ (by decide);have m17:mix c 16 % 36<36:=a2e _ (by decide);have m16:0<=mix c 16 % 36:=a0P _ (by decide);have hd:0<mix c 2 % 10+1:=by omega
 have hb:(YF c 10).length=10:=VR;have ind:=λ{k w:CJ}{z:List (Option PV)}=>bw (c:=c) (k:=k) (w:=w) (z:=z);generalize YF c 10=b at hb ind;have sl:∀{lo hi:CU},(Txt.slice b lo hi).length<=10:=λ{lo hi}=>hb▸Txt.slice_le ..;refine⟨Txt.slice b none (some (mix c 15 % (mix c 2 % 10+1))),Txt.slice b (some (mix c 15 % (mix c 2 % 10+1))) (some (mix c 2 % 10)),Txt.slice b (some 9) none,mix c 16 % 36,aw hb,sl,sl,m16,m17,λk h0 h1=>kT ?_⟩;obtain⟨o,e⟩:=ind (k:=some (.i k)) (w:=none) (z:=[none,none,none,none]);have e1:=fc (r:=(mix c 16 % 36+k) / 36) (by omega) (by omega);have e2:=fc (r:=(mix c 16 % 36+k) % 36) (by omega) (by omega);have e3:=uP (a:=sgn ((mix c 16 % 36+k) / 36)) (b:=sgn ((mix c 16 % 36+k) % 36)) (by show 1+1<=1000;decide);have l3:(sgn ((mix c 16 % 36+k) / 36)++sgn ((mix c 16 % 36+k) % 36)).length=2:=by rw[N5];rfl
 have p1:=sl (lo:=none) (hi:=some (mix c 15 % (mix c 2 % 10+1)));have p2:=sl (lo:=some (mix c 15 % (mix c 2 % 10+1))) (hi:=some (mix c 2 % 10));have e5:=uP (a:=Txt.slice b none (some (mix c 15 % (mix c 2 % 10+1)))) (b:=sgn ((mix c 16 % 36+k) / 36)++sgn ((mix c 16 % 36+k) % 36)) (by omega);have e7:=uP (a:=Txt.slice b none (some (mix c 15 % (mix c 2 % 10+1)))++(sgn ((mix c 16 % 36+k) / 36)++sgn ((mix c 16 % 36+k) % 36))) (b:=Txt.slice b (some (mix c 15 % (mix c 2 % 10+1))) (some (mix c 2 % 10))) (by rw[N5];omega);have t1:=aw hb;have e9:Ko (.s (Txt.slice b (some 9) none)) (.i (k % 2))=.ok (.s (Txt.mul (Txt.slice b (some 9) none) (k % 2))):=by unfold Ko;exact if_pos ⟨by omega,by omega,by omega⟩
 have l9:(Txt.mul (Txt.slice b (some 9) none) (k % 2)).length<=1:=t1▸pe (by omega) (by omega);have ey:=uP (a:=Txt.slice b none (some (mix c 15 % (mix c 2 % 10+1)))++(sgn ((mix c 16 % 36+k) / 36)++sgn ((mix c 16 % 36+k) % 36))++Txt.slice b (some (mix c 15 % (mix c 2 % 10+1))) (some (mix c 2 % 10))) (b:=Txt.mul (Txt.slice b (some 9) none) (k % 2)) (by rw[N5,N5];omega);have z1:b.length<=sizeLine:=by rw[hb];decide
 have v1:pSl (.s b) none (some (mix c 15 % (mix c 2 % 10+1)))=.ok (.s (Txt.slice b none (some (mix c 15 % (mix c 2 % 10+1))))):=slS (by omega);have v2:pSl (.s b) (some (mix c 15 % (mix c 2 % 10+1))) (some (mix c 2 % 10))=.ok (.s (Txt.slice b (some (mix c 15 % (mix c 2 % 10+1))) (some (mix c 2 % 10)))):=slS (by omega);have v3:pSl (.s b) (some 9) none=.ok (.s (Txt.slice b (some 9) none)):=slS (by omega);show wW [some (.i c),some (.i k),none,none,none,none,none,none,none]=_;unfold wW wordAt;refine zj ⟨_,rfl,?_⟩;refine zj ⟨_,rfl,?_⟩;refine zj ⟨_,ql (WC (n:=10) rfl (by decide)) e,?_⟩
 simp_all[J3,df hd,e1,e2,e3,e5,e7,e9,ey,z1]
def str_inj{a b a' b':Str}(hl:a.length=a'.length)(h:a++b=a'++b'):a=a'/\b=b':=by have h1:a.cps++b.cps=a'.cps++b'.cps:=M5 Str.cps h;have:=Array.append_inj h1 hl;obtain⟨x⟩:=a;obtain⟨y⟩:=b;obtain⟨x'⟩:=a';obtain⟨y'⟩:=b';obtain⟨h1,h2⟩:=this;exact⟨M5 Str.mk h1,M5 Str.mk h2⟩
def bx{p m t:Str}{r j k:Int}(ht:t.length=1)(r0:0<=r)(r1:r<36)(j0:0<=j)(j1:j<100)(k0:0<=k)(k1:k<100)(h:wordAt p m t r j=wordAt p m t r k):j=k:=by
 have two:∀i:Int,(sgn ((r+i) / 36)++sgn ((r+i) % 36)).length=2:=λi=>by rw[N5];rfl
 unfold wordAt at h;have l1:∀i:Int,(p++(sgn ((r+i) / 36)++sgn ((r+i) % 36))).length=p.length+2:=λi=>by rw[N5,two]
 obtain⟨h1,_⟩:=str_inj (by rw[N5 _ m,N5 _ m,l1,l1]) h;obtain⟨h1,_⟩:=str_inj (by rw[l1,l1]) h1;obtain⟨_,h1⟩:=str_inj rfl h1;obtain⟨h1,h2⟩:=str_inj (a:=sgn ((r+j) / 36)) (a':=sgn ((r+k) / 36)) rfl h1;have a:=fe (by omega) (by omega) (by omega) (by omega) h1;have b:=fe (by omega) (by omega) (by omega) (by omega) h2;omega
abbrev Pt:=Int×Int×Int
def ptP(p:Pt):PV:=.t [.i p.1,.i p.2.1,.i p.2.2]
def mG:∃z:Int,vp (atI [PV.i a,.i b] (s % 2))=.ok (.i z):=by
 have:s % 2=0\/s % 2=1:=by omega
 rcases this with h|h<;>(rw[h];exact⟨_,rfl⟩)
def fg{xs:CC}{wide s:Int}(hw:0<wide)(hn:xs.length<=60):∃pts:List Pt,pts.length=xs.length/\y8 [.l (xs.map .i),.i wide,.i s]=.ok (.l (pts.map ptP)):=by
 obtain⟨ρ',⟨_,pts,o4,o5,o6,hl,rfl⟩,e⟩:=XX (g:=Zm) (b:=kh) PV.i (λj ρ=>j<=xs.length/\∃(pts:List Pt)(o4 o5 o6:CJ),pts.length=j/\ρ=[some (.l (xs.map .i)),some (.i wide),some (.i s),some (.l (pts.map ptP)),o4,o5,o6]) xs [some (.l (xs.map .i)),some (.i wide),some (.i s),some (.l (([]:List Pt).map ptP)),none,none,none] ⟨F7 _,[],none,none,none,rfl,rfl⟩ (λj hj ρ ⟨_,pts,o4,o5,o6,hl,hρ⟩=>by
  subst hρ;have h1:=J3 (c:=xs[j]) (t:=61) (by decide) (by decide);have h2:=J3 (c:=xs[j]) (t:=62) (by decide) (by decide);have h3:=J3 (c:=xs[j]) (t:=63) (by decide) (by decide);obtain⟨b,eb⟩:=mG (a:=mix xs[j] 61 % wide) (b:=mix xs[j] 62 % wide) (s:=s);obtain⟨c,ec⟩:=mG (a:=mix xs[j] 61 % wide) (b:=mix xs[j] 63 % wide) (s:=s / 2);refine⟨_,rfl,_,⟨hj,pts++[(mix xs[j] 61 % wide,b,c)],some (.i xs[j]),some (.i (mix xs[j] 61 % wide)),some (.i b),by rw[B5,hl];rfl,rfl⟩,.inl ?_⟩;have sz:(pts.map ptP).length<sizeLine:=by rw[u8];exact F1 (show pts.length<=60 by omega) (by decide)
  rw[F8];unfold kh
  simp_all[h1,h2,h3,eb,ec,df hw,sz]
  rfl)
 refine⟨pts,hl,kT ?_⟩;show jW [some (.l (xs.map .i)),some (.i wide),some (.i s),none,none,none,none]=_;unfold jW;refine zj ⟨_,rfl,?_⟩;exact zj ⟨_,ql (jN (xs:=xs.map .i) rfl) e,rfl⟩
def byd(p q:Pt):Bool:=decide (q.1>p.1)&&(decide (q.2.1>p.2.1)&&decide (q.2.2>p.2.2))
def fh:yb [ptP p,ptP q]=.ok (.b (byd p q)):=by
 unfold byd;have e:∀{b:Bool}{o:Out PV}{c:Bool},o=.ok (.b c)->((Out.ok (PV.b b)).bind λx=>(asB x).bind λc=>if c=true then o else Out.ok (PV.b false))=.ok (.b (b&&c)):=λ{b o c} h=>by cases b<;>(rw[h];rfl)
 refine kT ?_;show(Y0 (mOp pGt (mOp pIx (zd 1) (mC (.i 0))) (mOp pIx (zd 0) (mC (.i 0)))) (Y0 (mOp pGt (mOp pIx (zd 1) (mC (.i 1))) (mOp pIx (zd 0) (mC (.i 1)))) (mOp pGt (mOp pIx (zd 1) (mC (.i 2))) (mOp pIx (zd 0) (mC (.i 2))))) [some (ptP p),some (ptP q)]).bind _=_;have a1:Y0 (mOp pGt (mOp pIx (zd 1) (mC (.i 1))) (mOp pIx (zd 0) (mC (.i 1)))) (mOp pGt (mOp pIx (zd 1) (mC (.i 2))) (mOp pIx (zd 0) (mC (.i 2)))) [some (ptP p),some (ptP q)]=.ok (.b (decide (q.2.1>p.2.1)&&decide (q.2.2>p.2.2))):=e (b:=decide (q.2.1>p.2.1)) (c:=decide (q.2.2>p.2.2)) rfl;have a2:Y0 (mOp pGt (mOp pIx (zd 1) (mC (.i 0))) (mOp pIx (zd 0) (mC (.i 0)))) (Y0 (mOp pGt (mOp pIx (zd 1) (mC (.i 1))) (mOp pIx (zd 0) (mC (.i 1)))) (mOp pGt (mOp pIx (zd 1) (mC (.i 2))) (mOp pIx (zd 0) (mC (.i 2))))) [some (ptP p),some (ptP q)]=.ok (.b (decide (q.1>p.1)&&(decide (q.2.1>p.2.1)&&decide (q.2.2>p.2.2)))):=e (b:=decide (q.1>p.1)) a1;rw[a2];rfl
def fi:byd p p=false:=by unfold byd;rw[G5 (by omega)];rfl
def uT(h1:byd p q=true)(h2:byd q r=true):byd p r=true:=by unfold byd at *;simp only[Bool.and_eq_true,decide_eq_true_iff]at *;omega
def bh(n:Nat)(P:Nat->Pt)(nm:Dp)(k:Nat):List Key:=((List.range n).filter λj=>byd (P k) (P j)).map nm
def rowOf(s:Int)(b:Cp):List Key:=if s / 2 % 4=1 then(if s % 2=1 then b.reverse else b)++(if s % 2=1 then b.reverse else b).take 1 else(if s % 2=1 then b.reverse else b)
def W_:x∈rowOf s b↔x∈b:=by
 have h:∀c:List Key,(∀x,x∈c↔x∈b)->(x∈c++c.take 1↔x∈b):=λc hc=>by rw[E9,hc];exact⟨λz=>z.elim id λz=>(hc x).mp (List.mem_of_mem_take z),.inl⟩
 have h2:∀x,x∈(if s % 2=1 then b.reverse else b)↔x∈b:=λx=>by
  split
  .rw[List.mem_reverse]
  .exact a1h
 unfold rowOf;split
 .exact h _ h2
 .exact h2 x
def fj:(rowOf s b).length<=b.length+1:=by
 have h2:(if s % 2=1 then b.reverse else b).length=b.length:=by split<;>simp
 unfold rowOf;split
 .rw[B5,h2,P4];omega
 .omega
def mH(hk:k<n):(bh n P nm k).length<n:=by unfold bh;rw[u8,<- a0W];have:=WT (p:=λ_:Nat=>true) (q:=λj=>byd (P k) (P j)) (l:=List.range n) (r:=k) (F6.mpr hk) rfl fi (λ_ _=>rfl);rw[List.countP_true,D6]at this;exact this
def mI:x∈bh n P nm k↔∃j,j<n/\byd (P k) (P j)=true/\x=nm j:=by
 unfold bh;rw[E1];constructor
 .rintro ⟨j,hj,rfl⟩
  obtain⟨h1,h2⟩:=E7.mp hj;exact⟨j,F6.mp h1,h2,rfl⟩
 .rintro ⟨j,h1,h2,rfl⟩
  exact⟨j,E7.mpr ⟨F6.mpr h1,h2⟩,rfl⟩
structure Ord(R:Rw):Prop where
 ok:rg R
 known:∀l,∀x∈zU R l,x∈R.map (·.1)
 irr:∀l,l∉zU R l
 tr:∀l x y,x∈zU R l->y∈zU R x->y∈zU R l
 str:∀k∈R.map (·.1),∃z,k=.inr z
def YV(n:Nat)(P:Nat->Pt)(nm:Dp)(s:Int)(j:Nat):Rw:=(List.range j).map λk=>(nm k,rowOf s (bh n P nm k))
def YG:(YV n P nm s j).map (·.1)=(List.range j).map nm:=by unfold YV;rw[D3];rfl
def fk(inj:∀a b,a<j->b<j->nm a=nm b->a=b):((YV n P nm s j).map (·.1)).Nodup:=by
 rw[YG];exact List.pairwise_map.mpr ((List.pairwise_lt_range).imp_of_mem λ{a b} ha hb h e=>by
  have:=inj a b (F6.mp ha) (F6.mp hb) e;omega)
def YH(inj:∀a b,a<n->b<n->nm a=nm b->a=b):x∈zU (YV n P nm s n) l↔∃k j,k<n/\j<n/\l=nm k/\x=nm j/\byd (P k) (P j)=true:=by
 have nd:=fk (P:=P) (s:=s) (n:=n) inj;have at':∀k,k<n->zU (YV n P nm s n) (nm k)=rowOf s (bh n P nm k):=λk hk=>by unfold zU;rw[zF nd (show(nm k,rowOf s (bh n P nm k))∈YV n P nm s n from E1.mpr ⟨k,F6.mpr hk,rfl⟩)];rfl
 constructor
 .intro h;cases e:zq (YV n P nm s n) l with
  |none=>unfold zU at h;rw[e]at h;exact(O5 h).elim
  |some xs=>obtain⟨k,hk,ek⟩:=E1.mp (qW e);cases ek;rw[at' k (F6.mp hk),W_,mI]at h;obtain⟨j,h1,h2,h3⟩:=h;exact⟨k,j,F6.mp hk,h1,rfl,h3,h2⟩
 .rintro ⟨k,j,hk,hj,rfl,rfl,h⟩
  rw[at' k hk,W_,mI];exact⟨j,hj,h,rfl⟩
def iK{n:Nat}{P:Nat->Pt}{nm:Dp}{s:Int}(hn:n<=40)(inj:∀a b,a<n->b<n->nm a=nm b->a=b)(hs:∀k,∃z,nm k=.inr z):Ord (YV n P nm s n)where
 ok:={
  nd:=fk inj
  few:=by unfold YV;rw[u8,D6];exact hn
  short:=λp hp=>by
   obtain⟨k,hk,rfl⟩:=E1.mp hp;have:=mH (P:=P) (nm:=nm) (F6.mp hk);have:=fj (s:=s) (b:=bh n P nm k);show(rowOf s (bh n P nm k)).length<=40;omega }
 known:=λl x h=>by obtain⟨k,j,_,hj,_,rfl,_⟩:=(YH inj).mp h;rw[YG];exact E1.mpr ⟨j,F6.mpr hj,rfl⟩
 irr:=λl h=>by obtain⟨k,j,hk,hj,e1,e2,h⟩:=(YH inj).mp h;rw[inj k j hk hj (e1.symm.trans e2),fi]at h;cases h
 tr:=λl x y h1 h2=>by obtain⟨k,j,hk,hj,e1,e2,a⟩:=(YH inj).mp h1;obtain⟨k',i,hk',hi,e3,e4,b⟩:=(YH inj).mp h2;have:=inj j k' hj hk' (e2.symm.trans e3);subst this;exact(YH inj).mpr ⟨k,i,hk,hi,e1,e4,uT a b⟩
 str:=λk hk=>by rw[YG]at hk;obtain⟨j,_,rfl⟩:=E1.mp hk;exact hs j
def pC{α:Type}{ys:List α}:XN ys none (some 1)=ys.take 1:=by
 show(ys.drop 0).take ((if(1:Int)<0 then((1:Int)+ys.length).toNat else min (1:Int).toNat ys.length)-0)=_;rw[if_neg (by decide),List.drop_zero,Nat.sub_zero];cases ys with
 |nil=>rfl
 |cons a ys=>rw[show min (1:Int).toNat (a::ys).length=1 from by show min 1 (ys.length+1)=1;omega]
section
variable {ns xs:CC}{pts:List Pt}{s wide:Int}{nm:Dp}{o5:CJ}
abbrev Qm(pts:List Pt)(k:Nat):Pt:=pts[k]?.getD (0,0,0)
abbrev ax(ns xs:CC)(pts:List Pt)(s wide:Int)(nm:Dp)(n:Nat)(o5:CJ)(R:Rw)(o9 o10:CJ):Sto:=[some (.sc ns),some (.i 24),some (.i s),some (.l (xs.map .i)),some (.i wide),o5,some (.l (pts.map ptP)),some (.l ((List.range n).map λk=>kP (nm k))),some (rwP R),o9,o10]
def uU(hk:k<pts.length):pIx (.l (pts.map ptP)) (.i (k:Int))=.ok (ptP (Qm pts k)):=by show vp (atI (pts.map ptP) (k:Int))=_;rw[Wu (by omega),S6,D5,B9 hk];show Out.ok _=_;unfold Qm;rw[B9 hk];rfl
def uV(hk:k<n):pIx (.l ((List.range n).map λk=>kP (nm k))) (.i (k:Int))=.ok (kP (nm k)):=by show vp (atI _ (k:Int))=_;rw[Wu (by omega),S6,D5,List.getElem?_range hk];rfl
def AR(hp:pts.length=n)(hn:n<=40)(hk:k<n):lcP qB qC qD (Q3 0 n) [none,some (.l (pts.map ptP)),some (.i (k:Int)),some (.l ((List.range n).map λk=>kP (nm k)))] []=.ok (.l ((bh n (Qm pts) nm k).map kP)):=by
 have:=ZM (g:=qB) (c:=qC) (e:=qD) (λj:Nat=>PV.i (j:Int)) (λj=>byd (Qm pts k) (Qm pts j)) (λj=>kP (nm j)) (λρ=>∃z,ρ=[z,some (.l (pts.map ptP)),some (.i (k:Int)),some (.l ((List.range n).map λk=>kP (nm k)))]) (List.range n) [none,some (.l (pts.map ptP)),some (.i (k:Int)),some (.l ((List.range n).map λk=>kP (nm k)))] [] ⟨none,rfl⟩ (λj hj ρ ⟨z,ez⟩=>by
  subst ez;have hj:=F6.mp hj;refine⟨_,rfl,⟨_,rfl⟩,?_,λ_=>uV hj⟩;show(Out.bind (Out.bind (pIx (.l (pts.map ptP)) (.i (k:Int))) λx=>Out.bind (Out.bind (pIx (.l (pts.map ptP)) (.i (j:Int))) λy=>Out.ok [y]) λxs=>Out.ok (x::xs)) yb).bind asB=_;rw[uU (by omega),uU (by omega)];show(yb [ptP (Qm pts k),ptP (Qm pts j)]).bind asB=_;rw[fh];rfl) (by rw[D6];show 0+n<=_;omega)
 rw[Q6,this];unfold bh;rw[D3];rfl
def bz{o9 o10:CJ}(hp:pts.length=n)(hn:n<=40)(hk:k<n)(inj:∀a b,a<n->b<n->nm a=nm b->a=b):∃o10',qg (ax ns xs pts s wide nm n o5 (YV n (Qm pts) nm s k) (some (.i (k:Int))) o10)=.ok (.nx (ax ns xs pts s wide nm n o5 (YV n (Qm pts) nm s (k+1)) (some (.i (k:Int))) o10')):=by
 have hb:=mH (P:=Qm pts) (nm:=nm) hk;generalize hbb:bh n (Qm pts) nm k=b at hb;have f1:qS 10 (mLC (Yb (ze (zh vy (ze (zd 7) zC)) zC)) [none,some 6,some 9,some 7] qB qC qD) (ax ns xs pts s wide nm n o5 (YV n (Qm pts) nm s k) (some (.i (k:Int))) o10)=.ok (.nx (ax ns xs pts s wide nm n o5 (YV n (Qm pts) nm s k) (some (.i (k:Int))) (some (.l (b.map kP))))):=by refine UU (Vj (WC (n:=n) ?_ (by omega)) (hbb▸AR hp hn hk));show Out.ok [PV.i (((List.range n).map λk=>kP (nm k)).length:Int)]=_;rw[u8,D6]
 have f2:sIf (yP (mOp (Xh false) (mOp yQ (zd 2) (mC (.i 2))) (mC (.i 1)))) (qS 10 (zh je (ze (zd 10) zC))) vz (ax ns xs pts s wide nm n o5 (YV n (Qm pts) nm s k) (some (.i (k:Int))) (some (.l (b.map kP))))=.ok (.nx (ax ns xs pts s wide nm n o5 (YV n (Qm pts) nm s k) (some (.i (k:Int))) (some (.l ((if s % 2=1 then b.reverse else b).map kP))))):=by
  by_cases h:s % 2=1
  .rw[if_pos h,List.map_reverse]
   simp_all[h,je]
  .rw[if_neg h]
   simp_all[h]
 have l2:(if s % 2=1 then b.reverse else b).length=b.length:=by split<;>simp
 have f3:sIf (yP (mOp (Xh false) (mOp yQ (mOp j_ (zd 2) (mC (.i 2))) (mC (.i 4))) (mC (.i 1)))) (qS 10 (mOp qU (zd 10) (mSl pSl (zd 10) p4 (Jy (mC (.i 1)))))) vz (ax ns xs pts s wide nm n o5 (YV n (Qm pts) nm s k) (some (.i (k:Int))) (some (.l ((if s % 2=1 then b.reverse else b).map kP))))=.ok (.nx (ax ns xs pts s wide nm n o5 (YV n (Qm pts) nm s k) (some (.i (k:Int))) (some (.l ((rowOf s b).map kP))))):=by
  unfold rowOf;generalize(if s % 2=1 then b.reverse else b)=c at l2;by_cases h:s / 2 % 4=1
  .rw[if_pos h,F8];have ea:qU (.l (c.map kP)) (.l ((c.take 1).map kP))=.ok (.l (c.map kP++(c.take 1).map kP)):=by unfold qU;exact if_pos (by rw[u8,u8,P4];exact E3 (show c.length+min 1 c.length<=100 by omega) (by decide))
   simp_all[h,pC,<- List.map_take,ea]
  .rw[if_neg h]
   simp_all[h]
 refine⟨some (.l ((rowOf s b).map kP)),?_⟩;unfold qg;refine zj ⟨_,f1,?_⟩;refine zj ⟨_,f2,?_⟩;refine zj ⟨_,f3,?_⟩;have hz:mOp pIx (zd 7) (zd 9) (ax ns xs pts s wide nm n o5 (YV n (Qm pts) nm s k) (some (.i (k:Int))) (some (.l ((rowOf s b).map kP))))=.ok (kP (nm k)):=uV hk;have hl:(YV n (Qm pts) nm s k).length=k:=by unfold YV;rw[u8,D6]
 show(Out.bind (mOp pIx (zd 7) (zd 9) (ax ns xs pts s wide nm n o5 (YV n (Qm pts) nm s k) (some (.i (k:Int))) (some (.l ((rowOf s b).map kP))))) λy=>match pk y with
  |some q=>if((YV n (Qm pts) nm s k).map λp=>(p.1,PV.l (p.2.map kP))).length<sizeLine then Out.ok (Fw.nx (List.set _ 8 (some (.d (dput ((YV n (Qm pts) nm s k).map λp=>(p.1,PV.l (p.2.map kP))) q (.l ((rowOf s b).map kP)))))))else .wall
  |none=>.wall)=_
 rw[hz,okb,W7];dsimp only;rw[if_pos (by rw[u8,hl];exact F1 (show k<=40 by omega) (by decide)),eW,YD (by
  rw[YG];intro z;obtain⟨j,hj,e⟩:=E1.mp z;have hj:=F6.mp hj;have:=inj j k (by omega) hk e;omega)]
 rw[show YV n (Qm pts) nm s k++[(nm k,rowOf s b)]=YV n (Qm pts) nm s (k+1)from by
  unfold YV;rw[List.range_succ,F8,<- hbb];rfl]
 rfl
def bA(hp:pts.length=n)(hn:n<=40)(inj:∀a b,a<n->b<n->nm a=nm b->a=b):∃o9 o10,ZL vd qg (Q3 0 n) (ax ns xs pts s wide nm n o5 [] none none)=.ok (.nx (ax ns xs pts s wide nm n o5 (YV n (Qm pts) nm s n) o9 o10)):=by
 obtain⟨ρ,⟨_,o9,o10,rfl⟩,e⟩:=Vk (g:=vd) (b:=qg) (λj ρ=>j<=n/\∃(o9 o10:CJ),ρ=ax ns xs pts s wide nm n o5 (YV n (Qm pts) nm s j) o9 o10) n _ ⟨F7 _,none,none,rfl⟩ (λj hj ρ ⟨_,o9,o10,hρ⟩=>by
  subst hρ;obtain⟨o10',e⟩:=bz (ns:=ns) (xs:=xs) (s:=s) (wide:=wide) (o5:=o5) (o9:=o9) (o10:=o10) hp hn hj inj;exact⟨_,rfl,_,⟨hj,some (.i j),o10',rfl⟩,.inl e⟩)
 exact⟨o9,o10,e⟩
end
def iL{ns:CC}:(XN ns (some 3) (some 27)).length<=24:=by
 unfold XN;rw[P4,List.length_drop];have h1:HT.sIx ns.length 0 (some 3)=min 3 ns.length:=by show(if(3:Int)<0 then((3:Int)+ns.length).toNat else min (3:Int).toNat ns.length)=_;rw[if_neg (by decide)];rfl
 have h2:HT.sIx ns.length ns.length (some 27)=min 27 ns.length:=by show(if(27:Int)<0 then((27:Int)+ns.length).toNat else min (27:Int).toNat ns.length)=_;rw[if_neg (by decide)];rfl
 rw[h1,h2];omega
def iM:∃R:Rw,yB [.sc ns,.i 24]=.ok (rwP R)/\Ord R:=by
 have c0:=Ui (ns:=ns) (k:=0) (by decide) (by decide);have c1:=Ui (ns:=ns) (k:=1) (by decide) (by decide);have c2:=Ui (ns:=ns) (k:=2) (by decide) (by decide);have hm:=J3 (c:=cell ns 0) (t:=41) (by decide) (by decide);have hs:=uO (c:=cell ns 0) (t:=41);generalize mix (cell ns 0) 41=s at hm hs;obtain⟨w0,hw0,e4⟩:∃w:Int,0<w/\vp (atI [PV.i 2,.i 4,.i 9,.i 50] (s / 8 % 4))=.ok (.i w):=by
  have:s / 8 % 4=0\/s / 8 % 4=1\/s / 8 % 4=2\/s / 8 % 4=3:=by omega
  rcases this with h|h|h|h<;>(rw[h];exact⟨_,by decide,rfl⟩)
 obtain⟨xs,wide,o5,hx,hw,e5⟩:∃(xs:CC)(wide:Int)(o5:CJ),xs.length<=40/\0<wide/\sIf (yP (mOp (Xh false) (mOp yQ (mOp j_ (zd 2) (mC (.i 128))) (mC (.i 6))) (mC (.i 0)))) (y9 (qS 5 (mOp pIx (XG (ze (mC (.i 40)) (ze (mC (.i 39)) (ze (mOp yQ (mOp j_ (zd 2) (mC (.i 4096))) (mC (.i 41))) zC)))) (mOp yQ (mOp j_ (zd 2) (mC (.i 1024))) (mC (.i 3)))))
  (y9 (qS 3 (mLC (Yb (ze (zd 5) zC)) [none,some 0] ki Zn qz))
  (qS 4 (mOp pIx (XG (ze (mC (.i 2)) (ze (mC (.i 4)) zC))) (mOp yQ (mOp j_ (zd 2) (mC (.i 8))) (mC (.i 2))))))) vz [some (.sc ns),some (.i 24),some (.i s),some (.l ((XN ns (some 3) (some 27)).map .i)),some (.i w0),none,none,none,none,none,none]=.ok (.nx [some (.sc ns),some (.i 24),some (.i s),some (.l (xs.map .i)),some (.i wide),o5,none,none,none,none,none]):=by
  by_cases h:s / 128 % 6=0
  .obtain⟨m,m0,m1,em⟩:∃m:Int,0<=m/\m<=40/\vp (atI [PV.i 40,.i 39,.i (s / 4096 % 41)] (s / 1024 % 3))=.ok (.i m):=by
    have:s / 1024 % 3=0\/s / 1024 % 3=1\/s / 1024 % 3=2:=by omega
    rcases this with h|h|h
    .rw[h];exact⟨_,by decide,by decide,rfl⟩
    .rw[h];exact⟨_,by decide,by decide,rfl⟩
    .rw[h];exact⟨s / 4096 % 41,by omega,by omega,rfl⟩
   obtain⟨w1,hw1,e6⟩:∃w:Int,0<w/\vp (atI [PV.i 2,.i 4] (s / 8 % 2))=.ok (.i w):=by
    have:s / 8 % 2=0\/s / 8 % 2=1:=by omega
    rcases this with h|h<;>(rw[h];exact⟨_,by decide,rfl⟩)
   obtain⟨ys,y1,_,_,y4⟩:=Ax (g:=ki) (e:=qz) (λk:Nat=>PV.i (k:Int)) PV.i (λ_ _=>True) (λρ=>∃o,ρ=[o,some (.sc ns)]) (List.range m.toNat) [none,some (.sc ns)] ⟨none,rfl⟩ (λj hj ρ ⟨o,ho⟩=>by
    subst ho;have hj:=F6.mp hj;have hm:=J3 (c:=cell ns 2) (t:=70+j) (by omega) (by omega);refine⟨_,rfl,⟨_,rfl⟩,mix (cell ns 2) (70+j),trivial,?_⟩;unfold qz
    simp_all[c2,hm]) (by rw[D6];omega)
   rw[<- Q6]at y4;refine⟨ys,w1,some (.i m),by rw[y1,D6];omega,hw1,?_⟩;have f1:qS 5 (mOp pIx (XG (ze (mC (.i 40)) (ze (mC (.i 39)) (ze (mOp yQ (mOp j_ (zd 2) (mC (.i 4096))) (mC (.i 41))) zC)))) (mOp yQ (mOp j_ (zd 2) (mC (.i 1024))) (mC (.i 3)))) [some (.sc ns),some (.i 24),some (.i s),some (.l ((XN ns (some 3) (some 27)).map .i)),some (.i w0),none,none,none,none,none,none]=.ok (.nx [some (.sc ns),some (.i 24),some (.i s),some (.l ((XN ns (some 3) (some 27)).map .i)),some (.i w0),some (.i m),none,none,none,none,none]):=by
    simp_all[em]
   have f2:=UU (i:=3) (Vj (fr:=[none,some 0]) (ρ:=[some (.sc ns),some (.i 24),some (.i s),some (.l ((XN ns (some 3) (some 27)).map .i)),some (.i w0),some (.i m),none,none,none,none,none]) (dA (ms:=ze (zd 5) zC) (n:=m) rfl m0 (by omega)) y4);have t:yP (mOp (Xh false) (mOp yQ (mOp j_ (zd 2) (mC (.i 128))) (mC (.i 6))) (mC (.i 0))) [some (.sc ns),some (.i 24),some (.i s),some (.l ((XN ns (some 3) (some 27)).map .i)),some (.i w0),none,none,none,none,none,none]=.ok true:=by
    simp_all[h]
   unfold sIf;rw[t,okb,if_pos rfl];refine zj ⟨_,f1,zj ⟨_,f2,?_⟩⟩
   simp_all[e6]
  .refine⟨XN ns (some 3) (some 27),w0,none,E3 iL (by decide),hw0,?_⟩
   simp_all[h]
 obtain⟨pts,lp,ep⟩:=fg (s:=s / 32) hw (show xs.length<=60 by omega);obtain⟨p,m,t,r,ht,_,_,r0,r1,ew⟩:=pB (c:=cell ns 1);have en:lcP kj Ws qA (Q3 0 xs.length) [none,some (.sc ns)] []=.ok (.l ((List.range xs.length).map λk:Nat=>kP (.inr (wordAt p m t r (k:Int))))):=by
  rw[Q6];refine Vg (g:=kj) (e:=qA) (λk:Nat=>PV.i (k:Int)) (λk=>kP (.inr (wordAt p m t r (k:Int)))) (λρ=>∃o,ρ=[o,some (.sc ns)]) (List.range xs.length) [none,some (.sc ns)] ⟨none,rfl⟩ (λj hj ρ ⟨o,ho⟩=>by
   subst ho;have hj:=F6.mp hj;have hz:=ew (j:Int) (by omega) (by omega);refine⟨_,rfl,⟨_,rfl⟩,?_⟩;unfold qA
   simp_all[c1,hz,kP]) (by rw[D6];omega)
 have inj:∀a b,a<xs.length->b<xs.length->(Sum.inr (wordAt p m t r (a:Int)):Key)=.inr (wordAt p m t r (b:Int))->a=b:=λa b ha hb h=>by have:=bx ht r0 r1 (by omega) (by omega) (by omega) (by omega) (a2i h);omega
 obtain⟨o9,o10,el⟩:=bA (ns:=ns) (xs:=xs) (s:=s) (wide:=wide) (o5:=o5) (nm:=λk=>.inr (wordAt p m t r (k:Int))) lp hx inj;refine⟨_,kT ?_,iK (P:=Qm pts) (s:=s) hx inj λk=>⟨_,rfl⟩⟩;show ve [some (.sc ns),some (.i 24),none,none,none,none,none,none,none,none,none]=_;unfold ve;refine zj ⟨[some (.sc ns),some (.i 24),some (.i s),none,none,none,none,none,none,none,none],by simp_all[c0,hm],?_⟩;refine zj ⟨[some (.sc ns),some (.i 24),some (.i s),some (.l ((XN ns (some 3) (some 27)).map .i)),none,none,none,none,none,none,none],rfl,?_⟩;refine zj ⟨[some (.sc ns),some (.i 24),some (.i s),some (.l ((XN ns (some 3) (some 27)).map .i)),some (.i w0),none,none,none,none,none,none],by simp_all[e4],?_⟩;refine zj ⟨_,e5,?_⟩;refine zj ⟨[some (.sc ns),some (.i 24),some (.i s),some (.l (xs.map .i)),some (.i wide),o5,some (.l (pts.map ptP)),none,none,none,none],by simp_all[ep],?_⟩;refine zj ⟨_,UU (Vj (WC (n:=xs.length) ?_ (by omega)) en),?_⟩
 .simp_all [List.length_map]
 refine zj ⟨ax ns xs pts s wide (λk=>.inr (wordAt p m t r (k:Int))) xs.length o5 [] none none,rfl,?_⟩;refine zj ⟨_,ql (WC (n:=xs.length) ?_ (by omega)) el,rfl⟩;show Out.ok [PV.i (((List.range xs.length).map λk:Nat=>kP (.inr (wordAt p m t r (k:Int)))).length:Int)]=_;rw[u8,D6]
def Zo(nd:(R.map (·.1)).Nodup)(hp:p∈R):zU R p.1=p.2:=by unfold zU;rw[zF nd (show(p.1,p.2)∈R from hp)];rfl
def J8{R:Rw}{k:CT}(h:k∈R.map (·.1)):∃xs,(k,xs)∈R:=by obtain⟨p,hp,e⟩:=E1.mp h;exact⟨p.2,by rw[<- e];exact hp⟩
def fm:pIn false (kP k) (.l (ls.map kP))=.ok (.b (!outside ls k)):=by
 obtain⟨b,e,h⟩:=px (k:=k) (ls:=ls);have:xor false b = !outside ls k:=by
  cases b with
  |true=>cases q:outside ls k with
   |false=>rfl
   |true=>exact absurd (h.mp rfl) (zz.mp q)
  |false=>rw[zz.mpr (λz=>by cases h.mpr z)];rfl
 have h2:pIn false (kP k) (.l (ls.map kP))=vp (((toV (kP k)).bind λv=>inP v (ls.map kP)).map λb=>.b (xor false b)):=by cases k<;>rfl
 rw[h2,e_];show vp ((inP (kV k) (ls.map kP)).map λb=>PV.b (xor false b))=_;rw[e,<- this];rfl
def Ul{V:Cp}{k:CT}(h:k∈V):outside V k=false:=by
 cases q:outside V k with
 |false=>rfl
 |true=>exact absurd h (zz.mp q)
def mJ(h:k∈R.map (·.1)):pIn true (kP k) (rwP R)=.ok (.b false):=by unfold rwP;rw[eE,yR (f:=λxs:List Key=>PV.l (xs.map kP))];obtain⟨xs,hx⟩:=L8.mp (qX.mpr h);rw[hx];rfl
def pD(h:c ρ=.ok false):sIf c p q ρ=q ρ:=by unfold sIf;rw[h];rfl
def iN(o:Ord R):yJ [rwP R]=.ok .n:=by
 have inner:∀{z1 z2:CJ}{xs:Cp},(∀x∈xs,x∈R.map (·.1))->∃z2',ZL jx jA (xs.map kP) [some (rwP R),z1,z2]=.ok (.nx [some (rwP R),z1,z2']):=λ{z1 z2 xs} hx=>by
  obtain⟨_,ρ',⟨z,rfl⟩,e⟩:=vM (g:=jx) (b:=jA) (λk:Key=>kP k) (λ(_:Unit) ρ=>∃z,ρ=[some (rwP R),z1,z]) (λ_ _ _=>True) xs () [some (rwP R),z1,z2] ⟨_,rfl⟩ (λx hx' u ρ ⟨z,e⟩=>by
   subst e;refine⟨_,rfl,(),_,trivial,⟨some (kP x),rfl⟩,.inl ?_⟩;exact pD (ρ:=[some (rwP R),z1,some (kP x)]) (by show(pIn true (kP x) (rwP R)).bind asB=_;rw[mJ (hx x hx')];rfl))
  exact⟨z,e⟩
 obtain⟨_,ρ',_,e⟩:=vM (g:=wg) (b:=wj) (λp:Key×List Key=>kP p.1) (λ(_:Unit) ρ=>∃z1 z2,ρ=[some (rwP R),z1,z2]) (λ_ _ _=>True) R () [some (rwP R),none,none] ⟨_,_,rfl⟩ (λp hp u ρ ⟨z1,z2,e⟩=>by
  subst e;obtain⟨z2',e⟩:=inner (z1:=some (kP p.1)) (z2:=z2) (xs:=p.2) (λx hx=>o.known p.1 x (by rw[Zo o.ok.nd hp];exact hx));refine⟨_,rfl,(),_,trivial,⟨some (kP p.1),z2',rfl⟩,.inl ?_⟩;exact ql (jN (by show pIx (rwP R) (kP p.1)=_;exact jF o.ok.nd hp)) e)
 show(match ja [some (rwP R),none,none]with | .ok (.nx _)=>_ | .ok (.rt x)=>_ | .ok (.bk _)=>_ | .ok (.ct _)=>_ | .exc c fs=>_ | .wall=>_)=_;rw[show ja [some (rwP R),none,none]=.ok (.nx ρ')from ql ZY e];rfl
def iO(o:Ord R):yK [rwP R]=.ok .n:=by
 obtain⟨_,ρ',_,e⟩:=vM (g:=wm) (b:=wo) (λp:Key×List Key=>kP p.1) (λ(_:Unit) ρ=>∃z1,ρ=[some (rwP R),z1]) (λ_ _ _=>True) R () [some (rwP R),none] ⟨_,rfl⟩ (λp hp u ρ ⟨z1,e⟩=>by
  subst e;refine⟨_,rfl,(),_,trivial,⟨some (kP p.1),rfl⟩,.inl ?_⟩;refine pD (ρ:=[some (rwP R),some (kP p.1)]) ?_;show((pIx (rwP R) (kP p.1)).bind λy=>pIn false (kP p.1) y).bind asB=_;rw[jF o.ok.nd hp];show(pIn false (kP p.1) (.l (p.2.map kP))).bind asB=_;have:=o.irr p.1;rw[Zo o.ok.nd hp]at this;rw[fm,zz.mpr this];rfl)
 show(match jb [some (rwP R),none]with | .ok (.nx _)=>_ | .ok (.rt x)=>_ | .ok (.bk _)=>_ | .ok (.ct _)=>_ | .exc c fs=>_ | .wall=>_)=_;rw[show jb [some (rwP R),none]=.ok (.nx ρ')from ql ZY e];rfl
def VS:∀{ys b:Cp},∃b':List Key,(ys.map λy=>(y,PV.b true)).foldl (λacc kv=>dput acc kv.1 kv.2) (trP b)=trP b'/\∀x,x∈b'↔x∈b\/x∈ys
 |[],b=>⟨b,rfl,λx=>by simp⟩
 |y::ys,b=>by
  rw[C8,a0l];by_cases h:y∈b
  .obtain⟨b',e,m⟩:=VS (ys:=ys) (b:=b);refine⟨b',by show List.foldl _ (dput (trP b) y (.b true)) _=_;rw[iJ h];exact e,λx=>(m x).trans ⟨λz=>z.imp id (B4 _),λz=>z.elim .inl λz=>(C5.mp z).elim (λq=>.inl (q▸h)) .inr⟩⟩
  .obtain⟨b',e,m⟩:=VS (ys:=ys) (b:=b++[y]);refine⟨b',by show List.foldl _ (dput (trP b) y (.b true)) _=_;rw[Uj h];exact e,λx=>(m x).trans ?_⟩;rw[E9,C7,C5,or_assoc]
def fo:∀{ys:Cp},fY (ys.map λy=>PV.t [kP y,.b true])=some (ys.map λy=>(y,PV.b true))
 |[]=>rfl
 |y::ys=>by show((pk (kP y)).bind λq=>(fY (ys.map λy=>PV.t [kP y,.b true])).map ((q,PV.b true)::·))=_;rw[W7,fo];rfl
def fq(o:Ord R)(hp:p∈R):∃b:List Key,(∀x,x∈b↔x∈p.2)/\zh kD (ze (mLC (yy (mOp pIx (zd 0) (zd 1))) [none] yh yY yi) zC) (some (rwP R)::some (kP p.1)::z)=.ok (.d (trP b)):=by
 obtain⟨b,e,m⟩:=VS (ys:=p.2) (b:=[]);refine⟨b,λx=>(m x).trans ⟨λz=>z.elim (λz=>(O5 z).elim) id,.inr⟩,?_⟩;have sh:=o.ok.short p hp;have e1:mLC (yy (mOp pIx (zd 0) (zd 1))) [none] yh yY yi (some (rwP R)::some (kP p.1)::z)=.ok (.l (p.2.map λy=>PV.t [kP y,.b true])):=by refine Vj (jN (by show pIx (rwP R) (kP p.1)=_;exact jF o.ok.nd hp)) ?_;refine Vg (g:=yh) (e:=yi) (λy:Key=>kP y) (λy=>PV.t [kP y,.b true]) (λρ=>∃z,ρ=[z]) p.2 _ ⟨none,rfl⟩ (λy hy ρ ⟨z,e⟩=>?_) (by omega);subst e;refine⟨_,rfl,⟨_,rfl⟩,?_⟩;show(if([kP y,.b true]:List PV).length<=sizeLine then Out.ok (PV.t [kP y,.b true])else .wall)=_;exact if_pos (show 2<=sizeLine from by decide)
 show((mLC _ _ _ _ _ _).bind λx=>Out.ok [x]).bind kD=_;rw[e1];show vp ((fY _).map λes=>PV.d (JL es))=_;rw[fo];show Out.ok (PV.d (JL _))=_;unfold JL;rw[show(List.nil:List (Key×PV))=trP []from rfl,e]
def iP(o:Ord R)(hp:p∈R):zW [rwP R,kP p.1]=.ok .n:=by
 obtain⟨b,hb,eb⟩:=fq o hp (z:=[none,none,none]);have rp:=Zo o.ok.nd hp;have inner:∀{z3 z4:CJ}{xs:Cp},(∀x∈xs,x∈b)->∃z4',ZL qh qi (xs.map kP) [some (rwP R),some (kP p.1),some (.d (trP b)),z3,z4]=.ok (.nx [some (rwP R),some (kP p.1),some (.d (trP b)),z3,z4']):=λ{z3 z4 xs} hx=>by
  obtain⟨_,ρ',⟨z,rfl⟩,e⟩:=vM (g:=qh) (b:=qi) (λk:Key=>kP k) (λ(_:Unit) ρ=>∃z,ρ=[some (rwP R),some (kP p.1),some (.d (trP b)),z3,z]) (λ_ _ _=>True) xs () [some (rwP R),some (kP p.1),some (.d (trP b)),z3,z4] ⟨_,rfl⟩ (λx hx' u ρ ⟨z,e⟩=>by
   subst e;refine⟨_,rfl,(),_,trivial,⟨some (kP x),rfl⟩,.inl ?_⟩;exact pD (ρ:=[some (rwP R),some (kP p.1),some (.d (trP b)),z3,some (kP x)]) (by show(pIn true (kP x) (.d (trP b))).bind asB=_;rw[eE,YB (hx x hx')];rfl))
  exact⟨z,e⟩
 obtain⟨_,ρ',_,e⟩:=vM (g:=jY) (b:=jZ) (λk:Key=>kP k) (λ(_:Unit) ρ=>∃z3 z4,ρ=[some (rwP R),some (kP p.1),some (.d (trP b)),z3,z4]) (λ_ _ _=>True) p.2 () [some (rwP R),some (kP p.1),some (.d (trP b)),none,none] ⟨_,_,rfl⟩ (λx hx u ρ ⟨z3,z4,e⟩=>by
  subst e;have hx':x∈zU R p.1:=by rw[rp];exact hx
  obtain⟨xs,hxs⟩:=J8 (o.known p.1 x hx');obtain⟨z4',e⟩:=inner (z3:=some (kP x)) (z4:=z4) (xs:=xs) (λy hy=>(hb y).mpr (by
   rw[<- rp];exact o.tr p.1 x y hx' (by rw[Zo o.ok.nd hxs];exact hy)))
  refine⟨_,rfl,(),_,trivial,⟨some (kP x),z4',rfl⟩,.inl ?_⟩;exact ql (jN (by show pIx (rwP R) (kP x)=_;exact jF o.ok.nd hxs)) e)
 show(match yU [some (rwP R),some (kP p.1),none,none,none]with | .ok (.nx _)=>_ | .ok (.rt x)=>_ | .ok (.bk _)=>_ | .ok (.ct _)=>_ | .exc c fs=>_ | .wall=>_)=_;rw[show yU [some (rwP R),some (kP p.1),none,none,none]=.ok (.nx ρ')from zj ⟨_,UU eb,ql (jN (by show pIx (rwP R) (kP p.1)=_;exact jF o.ok.nd hp)) e⟩];rfl
def VT(h:m ρ=.ok x):QU m ρ=.ok (.nx ρ):=by unfold QU;rw[h];rfl
def ft(o:Ord R):zL [rwP R]=.ok .n:=by
 obtain⟨_,ρ',_,e⟩:=vM (g:=wq) (b:=wt) (λp:Key×List Key=>kP p.1) (λ(_:Unit) ρ=>∃z1,ρ=[some (rwP R),z1]) (λ_ _ _=>True) R () [some (rwP R),none] ⟨_,rfl⟩ (λp hp u ρ ⟨z1,e⟩=>by
  subst e;exact⟨_,rfl,(),_,trivial,⟨some (kP p.1),rfl⟩,.inl (VT (ρ:=[some (rwP R),some (kP p.1)]) (x:=.n) (iP o hp))⟩)
 show(match jc [some (rwP R),none]with | .ok (.nx _)=>_ | .ok (.rt x)=>_ | .ok (.bk _)=>_ | .ok (.ct _)=>_ | .exc c fs=>_ | .wall=>_)=_;rw[show jc [some (rwP R),none]=.ok (.nx ρ')from zj ⟨_,VT (ρ:=[some (rwP R),none]) (x:=.n) (aq o.ok),zj ⟨_,VT (ρ:=[some (rwP R),none]) (x:=.n) (iN o),zj ⟨_,VT (ρ:=[some (rwP R),none]) (x:=.n) (iO o),ql ZY e⟩⟩⟩];rfl
def mu(R:Rw)(c:CT):Nat:=(R.map (·.1)).countP λy=>!outside (zU R c) y
def Xa(o:Ord R)(h:d∈zU R c):mu R d<mu R c:=
 WT (p:=λy=>!outside (zU R c) y) (q:=λy=>!outside (zU R d) y) (r:=d) (o.known c d h) (by rw[Ul h];rfl) (by rw[zz.mpr (o.irr d)];rfl) (λy hy=>by
  have:y∈zU R d:=S7 λz=>by rw[zz.mpr z]at hy;cases hy
  rw[Ul (o.tr c d y h this)];rfl)
def fu:pIx (.l ((cs++[c]).map kP)) (.i (-1))=.ok (kP c):=by show vp (atI ((cs++[c]).map kP) (-1))=_;unfold atI ixN;rw[if_neg (by decide),if_pos (by rw[u8,B5];simp;omega),u8,B5];show vp (((cs++[c]).map kP)[((-1:Int)+((cs.length+1:Nat):Int)).toNat]?)=_;rw[show((-1:Int)+((cs.length+1:Nat):Int)).toNat=cs.length by omega,F8,F4 (by rw[u8];exact B7 _),u8,N8];rfl
def fA{A:Cp}{k:Nat}(h:k<A.length):pIx (.l (A.map kP)) (.i (k:Int))=.ok (kP A[k]):=by show vp (atI (A.map kP) (k:Int))=_;rw[Wu (by omega),S6,D5,B9 h];rfl
def J9(h:x∈zU R l):l∈R.map (·.1):=by
 unfold zU at h;cases e:zq R l with
 |none=>rw[e]at h;exact(O5 h).elim
 |some xs=>exact qX.mp (by rw[e];rfl)
def pE{R:Rw}{rest:kA}{G:AH}(o:Ord R):X4 (hP [true] (zh zL (ze (zd 0) zC))) (some (.v (rwP R))::rest) G=.nx (some (.v (rwP R))::rest) G:=by
 have v:ZN [true] (some (.v (rwP R))::rest)=some (some (rwP R)::List.replicate rest.length none):=by
  have:∀r:kA,ZN [] r=some (List.replicate r.length none):=λr=>by
   induction r with
   |nil=>rfl
   |cons a r ih=>show(ZN [] r).map _=_;rw[ih];rfl
  show(ZN [] rest).map _=_;rw[this];rfl
 have e:hP [true] (zh zL (ze (zd 0) zC)) (some (.v (rwP R))::rest) G=.ok (.v .n) G:=by unfold hP;rw[v];dsimp only;rw[show zh zL (ze (zd 0) zC) (some (rwP R)::List.replicate rest.length none)=.ok .n from ft o]
 show HX.fw (hP _ _ _ _) _=_;rw[e];rfl
def tn(R:Rw)(k:CT):List Key:=(R.map (·.1)).filter λq=>!outside (zU R q) k
def trn(R:Rw):Rw:=(R.map (·.1)).map λk=>(k,tn R k)
def vh:(trn R).map (·.1)=R.map (·.1):=by unfold trn;rw[D3];exact List.map_id'' (λ_=>rfl) _
def ZZ(o:Ord R):x∈zU (trn R) l↔l∈zU R x:=by
 have nd:((trn R).map (·.1)).Nodup:=by rw[vh];exact o.ok.nd
 constructor
 .intro h;have hl:=J9 h;rw[vh]at hl;have hm:(l,tn R l)∈trn R:=E1.mpr ⟨l,hl,rfl⟩;rw[show zU (trn R) l=tn R l from Zo nd hm]at h;obtain⟨_,h2⟩:=E7.mp h;exact S7 λz=>by rw[zz.mpr z]at h2;cases h2
 .intro h;have hl:=o.known x l h;have hm:(l,tn R l)∈trn R:=E1.mpr ⟨l,hl,rfl⟩;rw[show zU (trn R) l=tn R l from Zo nd hm];exact E7.mpr ⟨J9 h,by rw[Ul h];rfl⟩
def VU{R:Rw}(o:Ord R):Ord (trn R)where
 ok:={
  nd:=by rw[vh];exact o.ok.nd
  few:=by unfold trn;rw[u8,u8];exact o.ok.few
  short:=λp hp=>by
   obtain⟨k,_,rfl⟩:=E1.mp hp;refine E3 (List.length_filter_le _ _) ?_;rw[u8];exact o.ok.few }
 known:=λl x h=>by rw[vh];exact J9 ((ZZ o).mp h)
 irr:=λl h=>o.irr l ((ZZ o).mp h)
 tr:=λl x y h1 h2=>(ZZ o).mpr (o.tr y x l ((ZZ o).mp h2) ((ZZ o).mp h1))
 str:=λk hk=>o.str k (by rwa [vh]at hk)
section
variable {R:Rw}{ns:CC}{G:AH}
end
def kG(h:m ρ=.ok (.b b)):yP m ρ=.ok b:=by unfold yP;rw[h];rfl
def ay(h0:ZN bs ρ=none)(h1:vN G bs ρ=some r)(h2:m r=.ok x)(hi:imm x=true):hP bs m ρ G=.ok (.v x) G:=by unfold hP;rw[h0,h1];dsimp only;rw[h2];exact if_pos hi
def xB:vN G bs []=some []:=by cases bs<;>rfl
def pF(h:vN G [] ρ=some r):vN G [] (a::ρ)=some (none::r):=by show(vN G [] ρ).map _=_;rw[h];rfl
def YI(h:vN G bs ρ=some r):vN G (false::bs) (a::ρ)=some (none::r):=by show(vN G bs ρ).map _=_;rw[h];rfl
def QC(hx:qV G 8 x=some y)(h:vN G bs ρ=some r):vN G (true::bs) (some x::ρ)=some (some y::r):=by show(qV G 8 x).bind _=_;rw[hx,h];rfl
def mK(h0:ZN bs ρ=some r)(h2:m r=.ok b):hPT bs m ρ G=.ok b G:=by unfold hPT;rw[h0];dsimp only;rw[h2]
def chn(D:Cs):Nat->Key->List Key
 |0,c=>[c]
 |m+1,c=>match zq D c with
  |none=>[c]
  |some x=>c::chn D m x
section
variable {R:Rw}{D ow:Cs}{m:Nat}{c x y z:CT}
def j5(h:zq D c=none):chn D m c=[c]:=by
 cases m with
 |zero=>rfl
 |succ m=>show(match zq D c with|none=>[c]|some x=>c::chn D m x)=_;rw[h]
def j6(h:zq D c=some x):chn D (m+1) c=c::chn D m x:=by show(match zq D c with|none=>[c]|some x=>c::chn D m x)=_;rw[h]
def Je:c∈chn D m c:=by
 cases m with
 |zero=>exact B3
 |succ m=>cases e:zq D c with
  |none=>rw[j5 e];exact B3
  |some x=>rw[j6 e];exact B3
def Qn:∀{m:Nat}{c:CT},y∈chn D m c->y=c\/∃z∈chn D m c,zq D z=some y
 |0,c,h=>.inl (C7.mp h)
 |m+1,c,h=>by
  cases e:zq D c with
  |none=>rw[j5 e]at h;exact .inl (C7.mp h)
  |some x=>
   rw[j6 e]at h ⊢;rcases C5.mp h with h|h
   .exact .inl h
   .rcases Qn h with h|⟨z,hz,ez⟩
    .exact .inr ⟨c,B3,by rw[h];exact e⟩
    .exact .inr ⟨z,B4 _ hz,ez⟩
def az(o:Ord R)(hD:∀l x,zq D l=some x->x∈zU R l):∀{m:Nat}{c:CT},mu R c<=m->z∈chn D m c->zq D z=some y->y∈chn D m c
 |0,c,hm,h,e=>by rw[C7.mp h]at e;have:=Xa o (hD c y e);omega
 |m+1,c,hm,h,e=>by
  cases ec:zq D c with
  |none=>rw[j5 ec]at h;rw[C7.mp h,ec]at e;cases e
  |some x=>
   rw[j6 ec]at h ⊢;have:=Xa o (hD c x ec);rcases C5.mp h with h|h
   .rw[h,ec]at e;cases e;exact B4 _ Je
   .exact B4 _ (az o hD (by omega) h e)
def Um(o:Ord R)(hD:∀l x,zq D l=some x->x∈zU R l):∀{m:Nat}{c:CT},z∈chn D m c->z=c\/z∈zU R c
 |0,c,h=>.inl (C7.mp h)
 |m+1,c,h=>by
  cases e:zq D c with
  |none=>rw[j5 e]at h;exact .inl (C7.mp h)
  |some x=>
   rw[j6 e]at h;rcases C5.mp h with h|h
   .exact .inl h
   .rcases Um o hD h with h|h
    .rw[h];exact .inr (hD c x e)
    .exact .inr (o.tr _ _ _ (hD c x e) h)
def Adj(R:Rw):List Key->Prop
 |a::b::r=>b∈zU R a/\Adj R (b::r)
 |_=>True
def fB(hD:∀l x,zq D l=some x->x∈zU R l):∀{m:Nat}{c:CT},Adj R (chn D m c)
 |0,c=>trivial
 |m+1,c=>by
  cases e:zq D c with
  |none=>rw[j5 e];trivial
  |some x=>
   rw[j6 e];have ih:=fB hD (m:=m) (c:=x);cases m with
   |zero=>exact⟨hD c x e,ih⟩
   |succ m=>
    cases e2:zq D x with
    |none=>rw[j5 e2]at ih ⊢;exact⟨hD c x e,ih⟩
    |some w=>rw[j6 e2]at ih ⊢;exact⟨hD c x e,ih⟩
def mL(o:Ord R)(hD:∀l x,zq D l=some x->x∈zU R l):∀{m:Nat}{c:CT},(chn D m c).Nodup
 |0,c=>G6.mpr ⟨by simp,P8⟩
 |m+1,c=>by
  cases e:zq D c with
  |none=>rw[j5 e];exact G6.mpr ⟨by simp,P8⟩
  |some x=>
   rw[j6 e];refine G6.mpr ⟨λh=>?_,mL o hD⟩;rcases Um o hD h with h|h
   .exact o.irr c (by have:=hD c x e;rw[<- h]at this;exact this)
   .exact o.irr c (o.tr _ _ _ (hD c x e) h)
def KR{α:Type}:∀{cs:List (List α)},(∀c∈cs,c.Nodup)->cs.Pairwise (λa b=>∀x∈a,x∉b)->cs.flatten.Nodup
 |[],_,_=>P8
 |c::cs,h,p=>by obtain⟨p1,p2⟩:=List.pairwise_cons.mp p;rw[M6];refine L6.mpr ⟨h c B3,KR (λd hd=>h d (B4 _ hd)) p2,λa ha b hb e=>?_⟩;obtain⟨d,hd,hb⟩:=a0h.mp hb;exact p1 d hd a ha (e▸hb)
structure Chs(R:Rw)(cs:CK):Prop where
 ne:∀c∈cs,c≠[]
 adj:∀c∈cs,Adj R c
 nd:cs.flatten.Nodup
 all:∀x,x∈cs.flatten↔x∈R.map (·.1)
def Chs.len(o:Ord R)(h:Chs R cs):cs.flatten.length=R.length:=by have h1:=Qx h.nd λx hx=>(h.all x).mp hx;have h2:=Qx o.ok.nd λx hx=>(h.all x).mpr hx;rw[u8]at h1 h2;omega
def uW(o:Ord R)(g:Good (zU R) (R.map (·.1)) ow)(hgv:D=ow.map λp=>(p.2,p.1)):Chs R ((bare (R.map (·.1)) (ow.map (·.1))).map λc=>chn D R.length c):=by
 have muN:∀c,mu R c<=R.length:=λc=>by unfold mu;have:=a0G (p:=λy=>!outside (zU R c) y) (l:=R.map (·.1));rw[u8]at this;exact this
 have gk:(D.map (·.1)).Nodup:=by rw[hgv,D3];exact g.vals
 have back:∀l x,zq D l=some x↔zq ow x=some l:=λl x=>by
  constructor
  .intro e;have:=qW e;rw[hgv]at this;obtain⟨p,hp,ep⟩:=E1.mp this;cases ep;exact zF g.nd hp
  .intro e;refine zF gk ?_;rw[hgv];exact E1.mpr ⟨(x,l),qW e,rfl⟩
 have hD:∀l x,zq D l=some x->x∈zU R l:=λl x e=>g.val x l ((back l x).mp e);have inV:∀x l,zq ow x=some l->x∈ow.map (·.1):=λx l e=>T5 (f:=(·.1)) (qW e);have one:∀(k:Nat)(y s1 s2:CT),R.length-mu R y<=k->s1∉ow.map (·.1)->s2∉ow.map (·.1)->y∈chn D R.length s1->y∈chn D R.length s2->s1=s2:=by
  intro k
  induction k with
  |zero=>
   intro y s1 s2 hk n1 n2 h1 h2;rcases Qn h1 with e1|⟨z,hz,ez⟩
   .rcases Qn h2 with e2|⟨z,hz,ez⟩
    .rw[<- e1,e2]
    .exact absurd (e1▸inV y z ((back z y).mp ez)) n1
   .have:=Xa o (hD z y ez);have:=muN z;have:=muN y;omega
  |succ k ih=>
   intro y s1 s2 hk n1 n2 h1 h2;rcases Qn h1 with e1|⟨z,hz,ez⟩
   .rcases Qn h2 with e2|⟨z,hz,ez⟩
    .rw[<- e1,e2]
    .exact absurd (e1▸inV y z ((back z y).mp ez)) n1
   .rcases Qn h2 with e2|⟨w,hw,ew⟩
    .exact absurd (e2▸inV y z ((back z y).mp ez)) n2
    .have hzw:z=w:=by have a:=(back z y).mp ez;rw[(back w y).mp ew]at a;cases a;rfl
     subst hzw;have:=Xa o (hD z y ez);have:=muN z;exact ih z s1 s2 (by omega) n1 n2 hz hw
 have cov:∀(k:Nat)(y:CT),R.length-mu R y<=k->y∈R.map (·.1)->∃s∈bare (R.map (·.1)) (ow.map (·.1)),y∈chn D R.length s:=by
  intro k
  induction k with
  |zero=>
   intro y hk hy;cases e:zq ow y with
   |none=>exact⟨y,Yl.mpr ⟨hy,λh=>by have:=qX.mpr h;rw[e]at this;cases this⟩,Je⟩
   |some z=>have:=Xa o (g.val y z e);have:=muN z;omega
  |succ k ih=>
   intro y hk hy;cases e:zq ow y with
   |none=>exact⟨y,Yl.mpr ⟨hy,λh=>by have:=qX.mpr h;rw[e]at this;cases this⟩,Je⟩
   |some z=>have:=Xa o (g.val y z e);have:=muN z;obtain⟨s,hs,hz⟩:=ih z (by omega) (g.sub y z e);exact⟨s,hs,az o hD (muN s) hz ((back z y).mpr e)⟩
 refine⟨λc hc=>?_,λc hc=>?_,KR (λc hc=>?_) ?_,λx=>⟨λh=>?_,λh=>?_⟩⟩
 .obtain⟨s,_,rfl⟩:=E1.mp hc;exact List.ne_nil_of_mem Je
 .obtain⟨s,_,rfl⟩:=E1.mp hc;exact fB hD
 .obtain⟨s,_,rfl⟩:=E1.mp hc;exact mL o hD
 .rw[List.pairwise_map];refine(o8 o.ok.nd).imp_of_mem λ{a b} ha hb hab x h1 h2=>hab (one _ x a b (B7 _) (Yl.mp ha).2 (Yl.mp hb).2 h1 h2)
 .obtain⟨c,hc,hx⟩:=a0h.mp h;obtain⟨s,hs,rfl⟩:=E1.mp hc;rcases Um o hD hx with h|h
  .rw[h];exact(Yl.mp hs).1
  .exact o.known _ _ h
 .obtain⟨s,hs,hx⟩:=cov _ x (B7 _) h;exact a0h.mpr ⟨_,T5 hs,hx⟩
def Uo(o:Ord R)(g:Good (zU R) (R.map (·.1)) ow):∃A:List Key,A.Nodup/\(∀a∈A,a∈R.map (·.1))/\(∀a∈A,∀b∈A,b∉zU R a)/\R.length<=A.length+ow.length:=by
 classical
 obtain⟨C,hC,hU⟩:=g.clo;obtain⟨CL,hCL⟩:∃CL,CL=(ow.filter λp=>decide (¬C p.1)).map (·.2):=⟨_,rfl⟩;obtain⟨CR,hCR⟩:∃CR,CR=(ow.filter λp=>decide (C p.1)).map (·.1):=⟨_,rfl⟩;have lsum:CL.length+CR.length=ow.length:=by
  rw[hCL,hCR,u8,u8];have:∀l:List (Key×Key),(l.filter λp=>decide (¬C p.1)).length+(l.filter λp=>decide (C p.1)).length=l.length:=λl=>by
   induction l with
   |nil=>rfl
   |cons p l ih=>
    rw[T0,T0,B0];by_cases h:C p.1
    .rw[if_neg (by simp[h]),if_pos (by simp[h]),B0];omega
    .rw[if_pos (by simp[h]),if_neg (by simp[h]),B0];omega
  exact this ow
 have cover:∀l x,l∈R.map (·.1)->x∈zU R l->l∈CL\/x∈CR:=λl x hl hx=>by
  by_cases cx:C x
  .obtain⟨w,hw,_⟩:=hC x cx;refine .inr ?_;rw[hCR];exact E1.mpr ⟨(x,w),E7.mpr ⟨qW hw,by simp[cx]⟩,rfl⟩
  .by_cases hm:∃x',zq ow x'=some l
   .obtain⟨x',e⟩:=hm;refine .inl ?_;rw[hCL];refine E1.mpr ⟨(x',l),E7.mpr ⟨qW e,?_⟩,rfl⟩;refine L5 λc'=>cx ?_;obtain⟨w,hw,hr⟩:=hC x' c';rw[e]at hw;cases hw;exact hr x hx
   .exact absurd (hU l hl (λx' e=>hm ⟨x',e⟩) x hx) cx
 refine⟨(R.map (·.1)).filter λa=>decide (a∉CL)&&decide (a∉CR),o.ok.nd.sublist P0,λa ha=>(E7.mp ha).1,λa ha b hb h=>?_,?_⟩
 .obtain⟨a1,a2⟩:=E7.mp ha;obtain⟨b1,b2⟩:=E7.mp hb;simp only[Bool.and_eq_true,decide_eq_true_eq]at a2 b2;rcases cover a b a1 h with h|h
  .exact a2.1 h
  .exact b2.2 h
 .have:(R.map (·.1)).length<=((R.map (·.1)).filter (λa=>decide (a∉CL)&&decide (a∉CR))++(CL++CR)).length:=Qx o.ok.nd λx hx=>by
   by_cases h1:x∈CL
   .exact C6 _ (D7 _ h1)
   .by_cases h2:x∈CR
    .exact C6 _ (C6 _ h2)
    .exact D7 _ (E7.mpr ⟨hx,by simp[h1,h2]⟩)
  rw[B5,B5,u8]at this;omega
end
def fC(o:Ord R)(hD:∀l x,zq D l=some x->x∈zU R l):∀(m:Nat)(c:CT)(cs:Cp),mu R c<=m->cs.length+m<=1000->∃n:Nat,yn kg qy n [a,some (.d (owP D)),some (.l ((cs++[c]).map kP))]=.ok (.nx [a,some (.d (owP D)),some (.l ((cs++chn D m c).map kP))]):=by
 have tst:∀c cs,kg [a,some (.d (owP D)),some (.l ((cs++[c]).map kP))]=.ok (zq D c).isSome:=λc cs=>by show((pIx (.l ((cs++[c]).map kP)) (.i (-1))).bind λx=>pIn false x (.d (owP D))).bind asB=_;rw[fu];show(pIn false (kP c) (.d (owP D))).bind asB=_;unfold owP;rw[mE,yR (f:=kP)];cases zq D c<;>rfl
 intro m
 induction m with
 |zero=>
  intro c cs hm hl;refine⟨1,?_⟩;unfold yn;rw[tst];cases e:zq D c with
  |none=>rfl
  |some d=>have:=Xa o (hD c d e);omega
 |succ m ih=>
  intro c cs hm hl;cases e:zq D c with
  |none=>refine⟨1,?_⟩;unfold yn;rw[tst,e,j5 e];rfl
  |some d=>
   obtain⟨n,q⟩:=ih d (cs++[c]) (by have:=Xa o (hD c d e);omega) (by rw[B5];show cs.length+1+m<=_;omega);refine⟨n+1,?_⟩;unfold yn;rw[tst,e,j6 e,show cs++c::chn D m d=cs++[c]++chn D m d by rw[F3];rfl];have eb:qy [a,some (.d (owP D)),some (.l ((cs++[c]).map kP))]=.ok (.nx [a,some (.d (owP D)),some (.l ((cs++[c]++[d]).map kP))]):=by show(Out.bind (Out.bind (pIx (.l ((cs++[c]).map kP)) (.i (-1))) λy=>pIx (.d (owP D)) y) λy=>if((cs++[c]).map kP).length<sizeLine then Out.ok (Fw.nx [a,some (.d (owP D)),some (.l ((cs++[c]).map kP++[y]))])else .wall)=_;rw[fu];show(Out.bind (pIx (.d (owP D)) (kP c)) _)=_;rw[W8,show zq (owP D) c=some (kP d)from by unfold owP;rw[yR (f:=kP),e];rfl];show(if((cs++[c]).map kP).length<sizeLine then Out.ok (Fw.nx [a,some (.d (owP D)),some (.l ((cs++[c]).map kP++[kP d]))])else .wall)=_;rw[if_pos (by rw[u8,B5];exact F1 (show cs.length+1<=1000 by omega) (by decide)),F8 (l₁:=cs++[c])];rfl
   show(qy [a,some (.d (owP D)),some (.l ((cs++[c]).map kP))]).bind _=_;rw[eb];exact q
def iQ(o:Ord R)(hD:∀l x,zq D l=some x->x∈zU R l)(c:CT):yA [kP c,.d (owP D)]=.ok (.l ((chn D R.length c).map kP)):=by
 have hm:mu R c<=R.length:=by have:mu R c<=(R.map (·.1)).length:=a0G;rw[u8]at this;exact this
 have few:=o.ok.few;obtain⟨n,e⟩:=fC o hD (a:=some (kP c)) R.length c [] hm (by simp;omega);refine kT ?_;show jV [some (kP c),some (.d (owP D)),none]=_;unfold jV;refine zj ⟨[some (kP c),some (.d (owP D)),some (.l (([]++[c]).map kP))],?_,?_⟩
 .show((if([kP c]:List PV).length<=sizeLine then Out.ok (PV.l [kP c])else .wall).bind _:Out Fw)=_;rw[show(if([kP c]:List PV).length<=sizeLine then Out.ok (PV.l [kP c])else .wall)=.ok (PV.l [kP c])from if_pos (show 1<=sizeLine from by decide)];rfl
 .exact zj ⟨_,Wv e (λz=>by cases z),rfl⟩
abbrev ksC(c:Cp):Cell:=.l ((c.map kP).map .v)
def chG(P:AH)(cs:CK):AH:=(P++cs.map ksC)++[.l ((List.range cs.length).map λj=>.g (P.length+j))]
abbrev csP(cs:CK):PV:=.l (cs.map λc=>.l (c.map kP))
def Qo(o:Ord R):∃(ow:Cs)(P:AH)(cs:CK),(∃Y,P=G++Y)/\yq [.v (rwP R)] G=.ok (.g (P.length+cs.length)) (chG P cs)/\Good (zU R) (R.map (·.1)) ow/\gr (zU R) 45 (R.map (·.1)) []=some ow/\Chs R cs/\cs.length+ow.length=R.length:=by
 obtain⟨ow,X,k,D,h,c,eD,g,hgr⟩:=Uk (G:=G) o.ok (aq o.ok);have le:=eU o.ok g;have few:=o.ok.few;obtain⟨gv,hgv⟩:∃gv,gv=ow.map λp=>(p.2,p.1):=⟨_,rfl⟩;have eD:D=owP gv:=by rw[eD,hgv];unfold owP;rw[D3];rfl
 have gk:gv.map (·.1)=ow.map (·.2):=by rw[hgv,D3];rfl
 have gvv:gv.map (·.2)=ow.map (·.1):=by rw[hgv,D3];rfl
 have lg:gv.length=ow.length:=by rw[hgv,u8]
 subst eD;have hD:∀l x,zq gv l=some x->x∈zU R l:=λl x e=>by have:=qW e;rw[hgv]at this;obtain⟨p,hp,ep⟩:=E1.mp this;cases ep;exact g.val p.1 p.2 (zF g.nd hp)
 have e:=ao (mx:=mC (.b true)) (f:=λp=>.b true) (ow:=gv) (gk▸g.vals) (gvv▸g.nd) (by omega) (λp _ z=>rfl) (r0:=none) (rest:=[none]);have hs:hF [false,true] (zh kD (ze (mLC (zv 1) [none,some 1] ZV ZW ZX) zC)) [some (.v (rwP R)),some (.g k),none] (G++X)=.ok (.g (G++X).length) (G++X++[.d (vK (trP (ow.map (·.1))))]):=
  mz (r:=[none,some (.d (owP gv)),none]) rfl (by show((qV _ 8 (.g k)).bind λy=>_).map _=_;rw[ph c];rfl) e (by show Vq _=true;rw[D3];exact YE λp=>rfl) (by show some (Cell.d (vK _))=_;rw[<- gvv];unfold trP;rw[D3];rfl)
 generalize hV:ow.map (·.1)=V at hs;have nv:V.Nodup:=by rw[<- hV];exact g.nd
 have sv:∀x∈V,x∈R.map (·.1):=λx hx=>by rw[<- hV]at hx;obtain⟨p,hp,rfl⟩:=E1.mp hx;exact o.known p.2 p.1 (g.val p.1 p.2 (zF g.nd hp))
 have lB:=iF o.ok.nd nv sv;rw[u8,<- hV,u8,hV]at lB;generalize hG2:G++X++[.d (vK (trP V))]=G2 at hs;have c2:G2[k]?=some (.d (vK (owP gv))):=by rw[<- hG2,F2 (C4.mp c).1];exact c
 have c3:G2[(G++X).length]?=some (.d (vK (trP V))):=by rw[<- hG2,F4 (B7 _),N8];rfl
 obtain⟨cs,hcs⟩:∃cs,cs=(bare (R.map (·.1)) V).map λc=>chn gv R.length c:=⟨_,rfl⟩;have C:Chs R cs:=by rw[hcs,<- hV];exact uW o g hgv
 have lcs:cs.length=(bare (R.map (·.1)) V).length:=by rw[hcs,u8]
 have hw:oX [true,true,true] (mLC (zv 0) [none,some 2,some 1] jC jD (mLI jE)) [some (.v (rwP R)),some (.g k),some (.g (G++X).length)] G2=.ok (.g (G2.length+cs.length)) (chG G2 cs):=by
  have st:WI G2 [true,true,true] [some (.v (rwP R)),some (.g k),some (.g (G++X).length)]=some [some (rwP R),some (.d (owP gv)),some (.d (trP V))]:=by show((some (rwP R)).bind λy=>(((G2[k]?).bind g_).bind λz=>(((G2[(G++X).length]?).bind g_).bind λw=>_).map _).map _)=_;rw[c2,c3];show((some (rwP R)).bind λy=>(((X7 (vK (owP gv))).map PV.d).bind λz=>(((X7 (vK (trP V))).map PV.d).bind λw=>_).map _).map _)=_;rw[eY,eY];rfl
  have lc:mLC (zv 0) [none,some 2,some 1] jC jD (mLI jE) [some (rwP R),some (.d (owP gv)),some (.d (trP V))]=.ok (csP cs):=by
   refine Vj ZY ?_;have:=ZM (g:=jC) (c:=jD) (e:=mLI jE) (λk:Key=>kP k) (outside V) (λn=>.l ((chn gv R.length n).map kP)) (λρ=>∃z,ρ=[z,some (.d (trP V)),some (.d (owP gv))]) (R.map (·.1)) [none,some (.d (trP V)),some (.d (owP gv))] [] ⟨none,rfl⟩ (λk hk ρ ⟨z,ez⟩=>by
    subst ez;refine⟨_,rfl,⟨_,rfl⟩,?_,λ_=>?_⟩
    .show(pIn true (kP k) (.d (trP V))).bind asB=_;rw[eE];show Out.ok _=_;congr 1;by_cases hk:k∈V
     .rw[YB hk,Ul hk];rfl
     .rw[YC hk,zz.mpr hk];rfl
    .show(yA [kP k,.d (owP gv)]).bind lI=_;rw[iQ o hD];show(if Vq ((chn gv R.length k).map kP)=true then _ else _)=_;rw[if_pos (YE W9)]) (by simp;omega)
   rw[D3]at this;rw[hcs];show _=Out.ok (PV.l (List.map _ (List.map _ _)));rw[D3];exact this
  unfold oX;rw[st];dsimp only;rw[lc];show HX.ok _ _=_;unfold chG;rw[u8,D3];rfl
 refine⟨ow,G2,cs,⟨X++[.d (vK (trP V))],by rw[<- hG2,F3]⟩,?_,g,hgr,C,by omega⟩;have s1:wQ 1 (vA jB (ya (yj 0) Kl)) [some (.v (rwP R)),none,none] G=.nx [some (.v (rwP R)),some (.g k),none] (G++X):=by show HX.fw (jB [.v (rwP R)] G) _=_;rw[h];rfl
 have s2:wQ 2 (hF [false,true] (zh kD (ze (mLC (zv 1) [none,some 1] ZV ZW ZX) zC))) [some (.v (rwP R)),some (.g k),none] (G++X)=.nx [some (.v (rwP R)),some (.g k),some (.g (G++X).length)] G2:=by show HX.fw (hF _ _ _ _) _=_;rw[hs];rfl
 have s3:Km (oX [true,true,true] (mLC (zv 0) [none,some 2,some 1] jC jD (mLI jE))) [some (.v (rwP R)),some (.g k),some (.g (G++X).length)] G2=.rt (.g (G2.length+cs.length)) (chG G2 cs):=by show HX.fw (oX _ _ _ _) _=_;rw[hw];rfl
 show(match Yv [some (.v (rwP R)),none,none] G with | .nx _ G'=>HX.ok (HV.v PV.n) G' | .rt x G'=>.ok x G' | .exc c fs G'=>.exc c fs G'|_=>.wall)=_;rw[show Yv [some (.v (rwP R)),none,none] G=_ from zS (pE o) (zS s1 (zS s2 s3))]
section
variable {R:Rw}{P Y:AH}{cs:CK}
def pG:(chG P cs).length=P.length+cs.length+1:=by unfold chG;rw[B5,B5,u8];rfl
def VV:(chG P cs)[P.length+cs.length]?=some (.l ((List.range cs.length).map λj=>.g (P.length+j))):=by unfold chG;rw[F4 (by rw[B5,u8];exact B7 _),B5,u8,N8];rfl
def aA(h:j<cs.length):(chG P cs)[P.length+j]?=some (ksC cs[j]):=by unfold chG;rw[F2 (by rw[B5,u8];omega),F4 (T1 _ _),Nat.add_sub_cancel_left,D5,B9 h];rfl
def mM{G:AH}{n b:Nat}:∀{cs:CK}{js:Cb},js.length=cs.length->(∀(i:Nat) j c,js[i]?=some j->cs[i]?=some c->G[j]?=some (ksC c))->Q7 (qV G (n+2)) (js.map .g)=some (cs.map λc=>.l (c.map kP))
 |[],[],_,_=>rfl
 |c::cs,j::js,hl,h=>by show((qV G (n+2) (.g j)).bind λy=>(Q7 (qV G (n+2)) (js.map .g)).map (y::·))=_;rw[fb (h 0 j c rfl rfl),mM (b:=b) (cs:=cs) (js:=js) (by simpa using hl) λi j c h1 h2=>h (i+1) j c h1 h2];rfl
 |[],_::_,hl,_=>by cases hl
 |_::_,[],hl,_=>by cases hl
def KS(h0:G[k]?=some (.l ((List.range cs.length).map λj=>.g (b+j))))(h:∀j (hj:j<cs.length),G[b+j]?=some (ksC cs[j])):qV G 8 (.g k)=some (csP cs):=by
 unfold qV;rw[h0];show(Q7 (qV G 7) ((List.range cs.length).map λj=>.g (b+j))).map PV.l=_;rw[show((List.range cs.length).map λj=>HV.g (b+j))=((List.range cs.length).map λj=>b+j).map .g by rw[D3];rfl,mM (n:=5) (b:=b) (cs:=cs) (by rw[u8,D6]) λi j c h1 h2=>?_]
 .rfl
 .rw[D5]at h1;obtain⟨q,h3,rfl⟩:=v4.mp h1;obtain⟨h4,h5⟩:=C4.mp h3;rw[O6]at h5;subst h5;rw[D6]at h4;rw[h i h4];obtain⟨_,h7⟩:=C4.mp h2;rw[h7]
end
def qK(ha:a ρ=.ok x)(hb:b ρ=.ok y)(h:f x y=.ok z):mOp f a b ρ=.ok z:=by unfold mOp;rw[ha,okb,hb,okb,h]
def vi(h:ms ρ=.ok xs)(h2:f xs=.ok x):zh f ms ρ=.ok x:=by unfold zh;rw[h,okb,h2]
def uX(ha:a ρ=.ok x)(h:ms ρ=.ok xs):ze a ms ρ=.ok (x::xs):=by unfold ze;rw[ha,okb,h,okb]
def mN(ha:a ρ=.ok (.i x)):yP (mOp pGt a (mC (.i n))) ρ=.ok (decide (x>n)):=by unfold yP;rw[qK (z:=.b (decide (x>n))) ha rfl rfl];rfl
def mO(ha:a ρ=.ok x)(hb:b ρ=.ok y):fW a b ρ=.ok (x&&y):=by
 unfold fW;rw[ha,okb];cases x
 .rfl
 .rw[if_pos rfl,hb];rfl
def bB(h:c ρ=.ok x):sIf c a b ρ=if x=true then a ρ else b ρ:=by unfold sIf;rw[h,okb]
def uY(h:m ρ=.ok x):Jz m ρ=.ok (.rt x):=by unfold Jz;rw[h,okb]
def bC(ha:a ρ=.ok x)(hb:b ρ=.ok y):mOr a b ρ=.ok (x||y):=by
 unfold mOr;rw[ha,okb];cases x
 .rw[if_neg C9,hb];rfl
 .rfl
def fD(ha:a ρ=.ok x):XH a ρ=.ok (!x):=by unfold XH;rw[ha,okb]
def pH(ha:a ρ=.ok (.b x))(hb:b ρ=.ok (.b y)):Y0 a b ρ=.ok (.b (x&&y)):=by
 unfold Y0;rw[ha,okb];show(Out.ok x).bind _=_;rw[okb];cases x
 .rfl
 .rw[if_pos rfl,hb];rfl
def fE(ha:a ρ=.ok false):fW a b ρ=.ok false:=by unfold fW;rw[ha,okb];rfl
def Bx(h0:ZN bs ρ=some r)(h2:m r=.ok x):hP bs m ρ G=.ok (.v x) G:=by unfold hP;rw[h0];dsimp only;rw[h2]
def Z0(h:m ρ G=.ok x G'):wQ i m ρ G=.nx (ρ.set i (some x)) G':=by unfold wQ;rw[h];rfl
def fF(h:m ρ G=.ok x G'):Km m ρ G=.rt x G':=by unfold Km;rw[h];rfl
section
variable {R:Rw}{A:Cp}{cs:CK}
def Comp(R:Rw)(c:Cp):Prop:=∀a∈c,∀b∈c,a=b\/b∈zU R a\/a∈zU R b
def fG(o:Ord R):∀{c:Cp}{a:CT},Adj R (a::c)->∀b∈c,b∈zU R a
 |[],_,_,b,h=>by cases h
 |d::c,a,⟨h1,h2⟩,b,h=>by
  rcases C5.mp h with e|h
  .rw[e];exact h1
  .exact o.tr _ _ _ h1 (fG o h2 b h)
def aB(o:Ord R):∀{c:Cp},Adj R c->Comp R c
 |[],_=>λa h=>by cases h
 |[x],_=>λa ha b hb=>.inl (by rw[C7.mp ha,C7.mp hb])
 |x::d::c,h=>λa ha b hb=>by
  have h1:=fG o h;have h2:=aB o h.2;rcases C5.mp ha with ea|ha<;>rcases C5.mp hb with eb|hb
  .exact .inl (by rw[ea,eb])
  .exact .inr (.inl (by rw[ea];exact h1 b hb))
  .exact .inr (.inr (by rw[eb];exact h1 a ha))
  .exact h2 a ha b hb
def VW:∀{cs:CK}{A:Cp},(∀c∈cs,Comp R c)->A.Nodup->(∀a∈A,∃c∈cs,a∈c)->(∀a∈A,∀b∈A,b∉zU R a)->A.length<=cs.length
 |[],A,_,_,hin,_=>by
  cases A with
  |nil=>exact B7 _
  |cons a A=>obtain⟨c,hc,_⟩:=hin a B3;cases hc
 |c::cs,A,hc,nd,hin,ap=>by
  classical
  have h1:(A.filter λa=>decide (a∉c)).length<=cs.length:=VW (λd hd=>hc d (B4 _ hd)) (nd.sublist P0) (λa ha=>by
   obtain⟨a1,a2⟩:=E7.mp ha;obtain⟨d,hd,had⟩:=hin a a1;rcases C5.mp hd with e|hd
   .exact absurd (e▸had) (M7 a2)
   .exact⟨d,hd,had⟩) λa ha b hb=>ap a (E7.mp ha).1 b (E7.mp hb).1
  have h2:(A.filter λa=>decide (a∈c)).length<=1:=by
   have hn:(A.filter λa=>decide (a∈c)).Nodup:=nd.sublist P0
   match hA:A.filter λa=>decide (a∈c),hn with
   |[],_=>exact F7 _
   |[_],_=>exact B7 _
   |x::y::r,hn=>
    exfalso;have hx:x∈A.filter λa=>decide (a∈c):=by rw[hA];exact B3
    have hy:y∈A.filter λa=>decide (a∈c):=by rw[hA];exact B4 _ B3
    obtain⟨x1,x2⟩:=E7.mp hx;obtain⟨y1,y2⟩:=E7.mp hy;rcases hc c B3 x (M7 x2) y (M7 y2)with e|e|e
    .exact(G6.mp hn).1 (e▸B3)
    .exact ap x x1 y y1 e
    .exact ap y y1 x x1 e
  have h3:∀l:List Key,(l.filter λa=>decide (a∈c)).length+(l.filter λa=>decide (a∉c)).length=l.length:=λl=>by
   induction l with
   |nil=>rfl
   |cons p l ih=>
    rw[T0,T0,B0];by_cases h:p∈c
    .rw[if_pos (by simp[h]),if_neg (by simp[h]),B0];omega
    .rw[if_neg (by simp[h]),if_pos (by simp[h]),B0];omega
  have:=h3 A;rw[B0];omega
def Chs.le(o:Ord R)(h:Chs R cs)(nd:A.Nodup)(sub:∀a∈A,a∈R.map (·.1))(ap:∀a∈A,∀b∈A,b∉zU R a):A.length<=cs.length:=
 VW (λc hc=>aB o (h.adj c hc)) nd (λa ha=>a0h.mp ((h.all a).mpr (sub a ha))) ap
end
section
variable {R:Rw}{V c:Cp}{cs:CK}{x0:PV}
def aC(hi:ρ[i]?=some (some (.d kvs)))(hk:mk ρ=.ok (kP k))(hv:mv ρ=.ok v)(hl:kvs.length<=1000):cV i mk mv ρ=.ok (.nx (ρ.set i (some (.d (dput kvs k v))))):=by unfold cV;rw[hv,okb,hi];dsimp only;rw[hk,okb,W7];dsimp only;rw[if_pos (F1 hl (by decide))]
def kH(hg:g x ρ=some ρ1)(hb:b ρ1=.ok (.nx ρ2)):ZL g b (x::xs) ρ=ZL g b xs ρ2:=by show((vp (g x ρ)).bind λρ1=>(b ρ1).bind _)=_;rw[hg];show(b ρ1).bind _=_;rw[hb];rfl
def mP:∀{c:Cp}{k:Nat}(h:k+1<c.length),Adj R c->c[k+1]∈zU R (c[k]'(by omega))
 |a::b::c,0,_,h=>h.1
 |a::b::c,k+1,hk,h=>mP (c:=b::c) (k:=k) (by simpa using hk) h.2
 |[],_,hk,_=>by simp at hk
 |[a],_,hk,_=>by simp at hk
def pJ(o:Ord R)(h:x∈R.map (·.1)):p0 [(.str,true),(.int,false)] (kP x)=.ok (.b true):=by obtain⟨z,rfl⟩:=o.str x h;rfl
def uZ(o:Ord R)(h:x∈zU R l):∃xs,pIx (rwP R) (kP l)=.ok (.l (xs.map kP))/\outside xs x=false:=by obtain⟨xs,hxs⟩:=J8 (J9 h);exact⟨xs,jF o.ok.nd hxs,Ul ((show zU R l=xs from Zo o.ok.nd hxs)▸h)⟩
def iR(o:Ord R)(ha:Adj R c)(hk:∀x∈c,x∈R.map (·.1))(nd:(V++c).Nodup)(hl:V.length+c.length<=1000):∃w',ZL ju jv (Q3 0 c.length) [some x0,some (rwP R),some (.d (trP V)),some (.l (c.map kP)),w]=.ok (.nx [some x0,some (rwP R),some (.d (trP (V++c))),some (.l (c.map kP)),w']):=by
 obtain⟨ρ',⟨o',hρ⟩,e⟩:=Vk (g:=ju) (b:=jv) (λk ρ=>∃w,ρ=[some x0,some (rwP R),some (.d (trP (V++c.take k))),some (.l (c.map kP)),w]) c.length [some x0,some (rwP R),some (.d (trP V)),some (.l (c.map kP)),w] ⟨w,by rw[List.take_zero,F0]⟩ (λk hk' ρ ⟨w,hρ⟩=>by
  subst hρ;have ix:∀{a b:ME}{ρ:Sto},a ρ=.ok (.l (c.map kP))->b ρ=.ok (.i (k:Int))->mOp pIx a b ρ=.ok (kP c[k]):=λh1 h2=>qK h1 h2 (fA hk');have mk:=hk c[k] (T2 hk');have hn:c[k]∉V++c.take k:=λh=>by
   have e1:V++c=(V++c.take k)++c.drop k:=by rw[F3,List.take_append_drop]
   rw[e1]at nd;exact(L6.mp nd).2.2 _ h c[k] (by rw[O7 hk'];exact B3) rfl
  refine⟨_,rfl,_,⟨some (.i (k:Int)),rfl⟩,.inl (zj ⟨_,(bB (x:=false) (bC (x:=false) (y:=false) (fD (x:=true) (kG ?_)) (bC (x:=false) (y:=false) (kG (qK (ix rfl rfl) rfl (mJ mk))) (kG (qK (ix rfl rfl) rfl ?_))))).trans rfl,zj ⟨_,(bB (x:=false) ?_).trans rfl,?_⟩⟩)⟩
  .show(mOp pIx (zd 3) (zd 4) _).bind _=_;rw[ix rfl rfl];exact pJ o mk
  .rw[mE,YC hn];rfl
  .cases k with
   |zero=>exact fE ((mN (x:=0) rfl).trans rfl)
   |succ k=>obtain⟨xs,e1,e2⟩:=uZ o (mP hk' ha);refine mO (x:=true) (y:=false) ((mN (x:=((k+1:Nat):Int)) rfl).trans (by rw[L5 (by omega)])) (kG (qK (ix rfl rfl) (qK rfl (qK (y:=.i (k:Int)) rfl (qK rfl rfl (show Out.ok (PV.i (((k+1:Nat):Int)-1))=_ from by rw[show((k+1:Nat):Int)-1=(k:Int) by omega])) (fA (by omega))) e1) ?_));rw[AQ,e2]
  .have:=aC (i:=2) (k:=c[k]) (kvs:=trP (V++c.take k)) (mk:=mOp pIx (zd 3) (zd 4)) (mv:=mC (.b true)) (v:=.b true) (ρ:=[some x0,some (rwP R),some (.d (trP (V++c.take k))),some (.l (c.map kP)),some (.i (k:Int))]) rfl (ix rfl rfl) rfl (by rw[eX,B5,P4];omega);refine this.trans ?_;rw[Uj hn,F3,show c.take k++[c[k]]=c.take (k+1) by rw[a1M,B9 hk'];rfl];rfl)
 subst hρ;rw[a0B]at e;exact⟨o',e⟩
def Qp(o:Ord R)(h:Chs R cs):zB [csP cs,rwP R]=.ok (.b true):=by
 have ln:=h.len o;have few:=o.ok.few;have loop:∀(ds A:CK)(w v:CJ),A++ds=cs->∃w' v',ZL wa jw (ds.map λc=>PV.l (c.map kP)) [some (csP cs),some (rwP R),some (.d (trP A.flatten)),w,v]=.ok (.nx [some (csP cs),some (rwP R),some (.d (trP cs.flatten)),w',v']):=by
  intro ds
  induction ds with
  |nil=>intro A w v e;rw[F0]at e;subst e;exact⟨w,v,rfl⟩
  |cons c ds ih=>
   intro A w v e;have hc:c∈cs:=by rw[<- e];exact C6 _ B3
   have nd:=h.nd;rw[<- e,a0R,M6,<- F3]at nd;have ln':A.flatten.length+c.length<=40:=by rw[<- e,a0R,M6,B5,B5]at ln;omega
   obtain⟨w1,e1⟩:=iR (x0:=csP cs) (V:=A.flatten) (w:=v) o (h.adj c hc) (λx hx=>(h.all x).mp (a0h.mpr ⟨c,hc,hx⟩)) (L6.mp nd).1 (by omega);obtain⟨w',v',e2⟩:=ih (A++[c]) (some (.l (c.map kP))) w1 (by rw[F3];exact e);rw[a0R,M6,List.flatten_nil,F0]at e2;refine⟨w',v',?_⟩;rw[C8];have eb:jw [some (csP cs),some (rwP R),some (.d (trP A.flatten)),some (.l (c.map kP)),v]=.ok (.nx [some (csP cs),some (rwP R),some (.d (trP (A.flatten++c))),some (.l (c.map kP)),w1]):=by
    refine zj ⟨_,(bB (x:=false) (bC (x:=false) (y:=false) rfl (kG (qK rfl rfl (z:=.b false) ?_)))).trans rfl,ql (dA (n:=(c.length:Int)) (uX (vi (xs:=[.l (c.map kP)]) rfl (by show Out.ok (PV.i ((c.map kP).length:Int))=_;rw[u8])) rfl) (by omega) (by omega)) (by rw[S6];exact e1)⟩;cases c with
    |nil=>exact absurd rfl (h.ne _ hc)
    |cons x r=>rfl
   exact(kH rfl eb).trans e2
 obtain⟨w',v',e⟩:=loop cs [] none none rfl;refine kT (zj ⟨_,(bB (x:=false) rfl).trans rfl,zj ⟨_,rfl,zj ⟨_,ql (jN rfl) e,uY (qK (x:=.i (R.length:Int)) (y:=.i (R.length:Int)) (vi (xs:=[.d (trP cs.flatten)]) rfl ?_) (vi (xs:=[rwP R]) rfl mD) ?_)⟩⟩⟩)
 .show Out.ok (PV.i ((trP cs.flatten).length:Int))=_;rw[eX,ln]
 .rw[tW,L5 rfl];rfl
end
section
variable {R:Rw}{h:CS}
def htP(R:Rw)(h:CS):List (Key×PV):=R.map λp=>(p.1,.i (h p.1))
def mQ(h:CS)(k:CT)(v:Int):Key->Int:=λj=>if j=k then v else h j
def aE(hk:k∈R.map (·.1)):zq (htP R h) k=some (.i (h k)):=by
 have:∀{R:Rw},k∈R.map (·.1)->zq (htP R h) k=some (.i (h k)):=λ{R}=>by
  induction R with
  |nil=>intro hk;cases hk
  |cons p R ih=>
   intro hk;show zq ((p.1,PV.i (h p.1))::htP R h) k=_;rw[zP];by_cases e:p.1=k
   .rw[if_pos e,e]
   .rw[if_neg e];rcases C5.mp hk with e'|hk
    .exact absurd e'.symm e
    .exact ih hk
 exact this hk
def u4(hk:k∈R.map (·.1)):dput (htP R h) k (.i v)=htP R (mQ h k v):=by unfold dput;rw[jP,aE hk];show List.map _ (htP R h)=_;unfold htP;rw[D3];refine O9 λp _=>?_;show(if p.1=k then(p.1,PV.i v)else(p.1,PV.i (h p.1)))=(p.1,PV.i (if p.1=k then v else h p.1));split<;>rfl
def mR:(htP R h).length=R.length:=by unfold htP;rw[u8]
def sumK(R:Rw)(h:CS):Int:=((R.map (·.1)).map h).sum
def sum_set{k:CT}{v:Int}:∀{l:Cp},l.Nodup->k∈l->(l.map (mQ h k v)).sum=(l.map h).sum+v-h k
 |[],_,hk=>by cases hk
 |x::l,nd,hk=>by
  obtain⟨n1,n2⟩:=G6.mp nd;rw[C8,C8,a08,a08];by_cases e:x=k
  .have:l.map (mQ h k v)=l.map h:=O9 λy hy=>if_neg λz=>n1 (by rw[e,<- z];exact hy);rw[this,show mQ h k v x=v from if_pos e,e];omega
  .rcases C5.mp hk with e'|hk
   .exact absurd e'.symm e
   .rw[sum_set n2 hk,show mQ h k v x=h x from if_neg e];omega
def mS{f g:CS}:∀{l:Cp},(∀k∈l,f k<=g k)->(l.map f).sum<=(l.map g).sum
 |[],_=>a2n _
 |x::l,hh=>by rw[C8,C8,a08,a08];have:=hh x B3;have:=mS (l:=l) λk hk=>hh k (B4 _ hk);omega
def rk(R:Rw)(x:CT):Nat:=(R.map (·.1)).countP λy=>!outside (zU R y) x
def AS(o:Ord R)(hx:x∈zU R l):rk R l<rk R x:=
 WT (r:=l) (J9 hx) (by rw[Ul hx];rfl) (by rw[zz.mpr (o.irr l)];rfl) λy hy=>by
  have:l∈zU R y:=by
   have:=hy;cases e:outside (zU R y) l with
   |true=>rw[e]at this;cases this
   |false=>exact S7 λn=>by rw[zz.mpr n]at e;cases e
  rw[Ul (o.tr _ _ _ this hx)];rfl
structure HB(R:Rw)(h:CS):Prop where
 lo:∀k∈R.map (·.1),0<=h k
 hi:∀k∈R.map (·.1),h k<=rk R k
abbrev hSt(R:Rw)(h:CS)(n:CJ)(r:Bool)(x:CJ):Sto:=[some (rwP R),some (.d (htP R h)),n,some (.b r),x]
structure Rnd(R:Rw)(h0 h:CS)(r:Bool)(E:Key->Key->Prop):Prop where
 hb:HB R h
 no:r=false->h=h0/\∀a b,E a b->h0 a<h0 b
 yes:r=true->sumK R h0<sumK R h
def Uq(o:Ord R){n:CT}(hn:n∈R.map (·.1)){h0:CS}:∀{xs:Cp}{E:Key->Key->Prop}{h:CS}{r:Bool}{w:CJ},(∀x∈xs,x∈zU R n)->Rnd R h0 h r E->
  ∃h' r' w',ZL v7 qf (xs.map kP) (hSt R h (some (kP n)) r w)=.ok (.nx (hSt R h' (some (kP n)) r' w'))/\Rnd R h0 h' r' λa b=>E a b\/(a=n/\b∈xs)
 |[],E,h,r,w,_,q=>⟨h,r,w,rfl,q.hb,λe=>⟨(q.no e).1,λa b z=>(q.no e).2 a b (z.resolve_right λz=>by cases z.2)⟩,q.yes⟩
 |x::xs,E,h,r,w,hx,q=>by
  have hxr:=hx x B3;have kx:=o.known _ _ hxr;have few:=o.ok.few;have g1:∀{m1 m2:ME}{k:CT}{ρ:Sto},k∈R.map (·.1)->m1 ρ=.ok (.d (htP R h))->m2 ρ=.ok (kP k)->mOp pIx m1 m2 ρ=.ok (.i (h k)):=λhk h1 h2=>qK h1 h2 (by rw[W8,aE hk];rfl);have ts:yP (mOp pLe (mOp pIx (zd 1) (zd 4)) (mOp pIx (zd 1) (zd 2))) (hSt R h (some (kP n)) r (some (kP x)))=.ok (decide (h x<=h n)):=kG (qK (g1 kx rfl rfl) (g1 hn rfl rfl) rfl);by_cases c:h x<=h n
  .have eb:qf (hSt R h (some (kP n)) r (some (kP x)))=.ok (.nx (hSt R (mQ h x (h n+1)) (some (kP n)) true (some (kP x)))):=by refine(bB (x:=true) (by rw[ts,L5 c])).trans (zj ⟨hSt R (mQ h x (h n+1)) (some (kP n)) r (some (kP x)),?_,rfl⟩);refine(aC (i:=1) (k:=x) (kvs:=htP R h) (v:=.i (h n+1)) rfl rfl (qK (g1 hn rfl rfl) rfl rfl) (by rw[mR];omega)).trans ?_;rw[u4 kx];rfl
   have rkx:=AS o hxr;have b1:=q.hb.hi n hn;have b0:=q.hb.lo n hn;have q':Rnd R h0 (mQ h x (h n+1)) true λa b=>E a b\/(a=n/\b=x):=by
    refine⟨⟨λk hk=>?_,λk hk=>?_⟩,λe=>absurd e (by decide),λ_=>?_⟩
    .show 0<=(if k=x then h n+1 else h k);split
     .omega
     .exact q.hb.lo k hk
    .show(if k=x then h n+1 else h k)<=_;split
     .rename_i e;rw[e];omega
     .exact q.hb.hi k hk
    .have s1:=sum_set (h:=h) (v:=h n+1) o.ok.nd kx;unfold sumK;rw[s1];have:sumK R h0<=sumK R h:=by
      cases r with
      |true=>exact Int.le_of_lt (q.yes rfl)
      |false=>rw[(q.no rfl).1];exact a2n _
     unfold sumK at this;omega
   obtain⟨h',r',w',e2,q2⟩:=Uq o hn (xs:=xs) (w:=some (kP x)) (λy hy=>hx y (B4 _ hy)) q';refine⟨h',r',w',?_,q2.hb,λe=>⟨(q2.no e).1,λa b z=>(q2.no e).2 a b ?_⟩,q2.yes⟩
   .rw[C8];exact(kH rfl eb).trans e2
   .rcases z with z|⟨z1,z2⟩
    .exact .inl (.inl z)
    .rcases C5.mp z2 with z2|z2
     .exact .inl (.inr ⟨z1,z2⟩)
     .exact .inr ⟨z1,z2⟩
  .have eb:qf (hSt R h (some (kP n)) r (some (kP x)))=.ok (.nx (hSt R h (some (kP n)) r (some (kP x)))):=(bB (x:=false) (by rw[ts,G5 c])).trans rfl;have q':Rnd R h0 h r λa b=>E a b\/(a=n/\b=x):=⟨q.hb,λe=>⟨(q.no e).1,λa b z=>by
    rcases z with z|⟨z1,z2⟩
    .exact(q.no e).2 a b z
    .rw[z1,z2,<- (q.no e).1];omega⟩,q.yes⟩
   obtain⟨h',r',w',e2,q2⟩:=Uq o hn (xs:=xs) (w:=some (kP x)) (λy hy=>hx y (B4 _ hy)) q';refine⟨h',r',w',?_,q2.hb,λe=>⟨(q2.no e).1,λa b z=>(q2.no e).2 a b ?_⟩,q2.yes⟩
   .rw[C8];exact(kH rfl eb).trans e2
   .rcases z with z|⟨z1,z2⟩
    .exact .inl (.inl z)
    .rcases C5.mp z2 with z2|z2
     .exact .inl (.inr ⟨z1,z2⟩)
     .exact .inr ⟨z1,z2⟩
def Ur(o:Ord R){h0:CS}:∀{ks:Cp}{E:Key->Key->Prop}{h:CS}{r:Bool}{n w:CJ},(∀k∈ks,k∈R.map (·.1))->Rnd R h0 h r E->
  ∃h' r' n' w',ZL v8 v9 (ks.map kP) (hSt R h n r w)=.ok (.nx (hSt R h' n' r' w'))/\Rnd R h0 h' r' λa b=>E a b\/(a∈ks/\b∈zU R a)
 |[],E,h,r,n,w,_,q=>⟨h,r,n,w,rfl,q.hb,λe=>⟨(q.no e).1,λa b z=>(q.no e).2 a b (z.resolve_right λz=>by cases z.1)⟩,q.yes⟩
 |k::ks,E,h,r,n,w,hk,q=>by
  have kk:=hk k B3;obtain⟨xs,hxs⟩:=J8 kk;have er:zU R k=xs:=Zo o.ok.nd hxs;obtain⟨h1,r1,w1,e1,q1⟩:=Uq o kk (xs:=xs) (w:=w) (λx hx=>by rw[er];exact hx) q;obtain⟨h',r',n',w',e2,q2⟩:=Ur o (ks:=ks) (n:=some (kP k)) (w:=w1) (λy hy=>hk y (B4 _ hy)) q1;refine⟨h',r',n',w',?_,q2.hb,λe=>⟨(q2.no e).1,λa b z=>(q2.no e).2 a b ?_⟩,q2.yes⟩
  .rw[C8];exact(kH (ρ1:=hSt R h (some (kP k)) r w) rfl (ql (jN (qK rfl rfl (jF o.ok.nd hxs))) e1)).trans e2
  .rcases z with z|⟨z1,z2⟩
   .exact .inl (.inl z)
   .rcases C5.mp z1 with z1|z1
    .rw[z1,er]at z2;exact .inl (.inr ⟨z1,z2⟩)
    .exact .inr ⟨z1,z2⟩
def fH{rest:Sto}:zv 0 (some (rwP R)::rest)=.ok ((R.map (·.1)).map kP):=by rw[ZY,D3];rfl
def pK(o:Ord R):∀(m:Nat){h:CS}{n w:CJ},HB R h->(sumK R λk=>(rk R k:Int))-sumK R h<=m->∃(N:Nat)(h':CS)(n' w':CJ),yn v_ zR N (hSt R h n true w)=.ok (.nx (hSt R h' n' false w'))/\HB R h'/\∀a∈R.map (·.1),∀b∈zU R a,h' a<h' b:=by
 intro m
 induction m with
 |zero=>
  intro h n w hb hm;obtain⟨h',r',n',w',e,q⟩:=Ur o (h0:=h) (E:=λ_ _=>False) (ks:=R.map (·.1)) (n:=n) (w:=w) (λk hk=>hk) (⟨hb,λ_=>⟨rfl,λ_ _ z=>z.elim⟩,λz=>by cases z⟩:Rnd R h h false λ_ _=>False);have eb:zR (hSt R h n true w)=.ok (.nx (hSt R h' n' r' w')):=zj ⟨hSt R h n false w,rfl,ql fH e⟩;cases r' with
  |true=>have:=q.yes rfl;have:=mS (l:=R.map (·.1)) (f:=h') (g:=λk=>(rk R k:Int)) q.hb.hi;unfold sumK at *;omega
  |false=>
   refine⟨2,h',n',w',?_,q.hb,λa ha b hb'=>?_⟩
   .unfold yn;show(zR (hSt R h n true w)).bind _=_;rw[eb];unfold yn;rfl
   .rw[(q.no rfl).1];exact(q.no rfl).2 a b (.inr ⟨ha,hb'⟩)
 |succ m ih=>
  intro h n w hb hm;obtain⟨h',r',n',w',e,q⟩:=Ur o (h0:=h) (E:=λ_ _=>False) (ks:=R.map (·.1)) (n:=n) (w:=w) (λk hk=>hk) (⟨hb,λ_=>⟨rfl,λ_ _ z=>z.elim⟩,λz=>by cases z⟩:Rnd R h h false λ_ _=>False);have eb:zR (hSt R h n true w)=.ok (.nx (hSt R h' n' r' w')):=zj ⟨hSt R h n false w,rfl,ql fH e⟩;cases r' with
  |true=>have:=q.yes rfl;obtain⟨N,h2,n2,w2,e2,q2,q3⟩:=ih (n:=n') (w:=w') q.hb (by omega);refine⟨N+1,h2,n2,w2,?_,q2,q3⟩;unfold yn;show(zR (hSt R h n true w)).bind _=_;rw[eb];exact e2
  |false=>
   refine⟨2,h',n',w',?_,q.hb,λa ha b hb'=>?_⟩
   .unfold yn;show(zR (hSt R h n true w)).bind _=_;rw[eb];unfold yn;rfl
   .rw[(q.no rfl).1];exact(q.no rfl).2 a b (.inr ⟨ha,hb'⟩)
def u5(nd:(R.map (·.1)).Nodup)(few:R.length<=40):∃n,ZL jr jt ((R.map (·.1)).map kP) [some (rwP R),some (.d []),none,none,none]=.ok (.nx [some (rwP R),some (.d (htP R λ_=>0)),n,none,none]):=by
 have go:∀(S A:Rw)(n:CJ),A++S=R->∃n',ZL jr jt ((S.map (·.1)).map kP) [some (rwP R),some (.d (htP A λ_=>0)),n,none,none]=.ok (.nx [some (rwP R),some (.d (htP R λ_=>0)),n',none,none]):=by
  intro S
  induction S with
  |nil=>intro A n e;rw[F0]at e;subst e;exact⟨n,rfl⟩
  |cons p S ih=>
   intro A n e;obtain⟨n',e2⟩:=ih (A++[p]) (some (kP p.1)) (by rw[F3];exact e);refine⟨n',?_⟩;have hn:p.1∉(htP A λ_=>0).map (·.1):=λhm=>by unfold htP at hm;rw[D3]at hm;rw[<- e,F8,C8]at nd;exact(L6.mp nd).2.2 _ hm _ B3 rfl
   have la:A.length<=40:=by rw[<- e,B5]at few;omega
   rw[C8,C8];refine(kH (ρ1:=[some (rwP R),some (.d (htP A λ_=>0)),some (kP p.1),none,none]) rfl (aC (i:=1) (k:=p.1) (v:=.i 0) rfl rfl rfl (by rw[mR];omega))).trans ?_;rw[YD hn];unfold htP at e2 ⊢;rw[F8]at e2;exact e2
 obtain⟨n,e⟩:=go R [] none rfl;exact⟨n,e⟩
def bD(o:Ord R):∃h:Key->Int,yg [rwP R]=.ok (.d (htP R h))/\∀a∈R.map (·.1),∀b∈zU R a,h a<h b:=by obtain⟨n,e1⟩:=u5 o.ok.nd o.ok.few;have hb:HB R λ_=>0:=⟨λ_ _=>a2n _,λ_ _=>a2f _⟩;obtain⟨N,h',n',w',e2,_,q⟩:=pK o ((sumK R λk=>(rk R k:Int))-sumK R λ_=>0).toNat (n:=n) (w:=none) hb (Int.self_le_toNat _);exact⟨h',kT (zj ⟨[some (rwP R),some (.d []),none,none,none],rfl,zj ⟨_,ql fH e1,zj ⟨hSt R (λ_=>0) n true none,rfl,zj ⟨_,Wv e2 (λz=>by cases z),rfl⟩⟩⟩⟩),q⟩
end
section
variable {R:Rw}{h:CS}{C:Dg}
def cnP(C:Dg):List (Key×PV):=C.map λp=>(p.1,.i p.2)
structure AU(h:CS)(ks:Cp)(C:Dg):Prop where
 cnt:∀v:Int,(zq C (.inl v)).getD 0=((ks.countP λx=>decide (h x=v):Nat):Int)
 key:∀k∈C.map (·.1),∃v,k=.inl v
 len:C.length<=ks.length
def u6:dput (cnP C) k (.i n)=cnP (dput C k n):=w6 (f:=PV.i)
def mT:zq (cnP C) k=(zq C k).map PV.i:=yR (f:=PV.i)
def Xb:∀{ns:CC}{b:CU},(vO b ns=b)\/∃x∈ns,vO b ns=some x
 |[],b=>.inl (by cases b<;>rfl)
 |n::ns,b=>by
  have ih:=λb'=>Xb (ns:=ns) (b:=b');have key:∃b',vO b (n::ns)=vO b' ns/\(b'=b\/b'=some n):=by
   cases b with
   |none=>exact⟨_,rfl,.inr rfl⟩
   |some m=>
    by_cases hm:n>m
    .exact⟨some n,by simp[vO,hm],.inr rfl⟩
    .exact⟨some m,by simp[vO,hm],.inl rfl⟩
  obtain⟨b',e,hb⟩:=key;rw[e];rcases ih b' with e2|⟨x,hx,e2⟩
  .rcases hb with hb|hb
   .exact .inl (by rw[e2,hb])
   .exact .inr ⟨n,B3,by rw[e2,hb]⟩
  .exact .inr ⟨x,B4 _ hx,e2⟩
def mU{α:Type}{f:α->Int}:∀{l:List α},lR (l.map λx=>PV.i (f x))=some (l.map f)
 |[]=>rfl
 |x::l=>by show(match toI (PV.i (f x)),lR (l.map λx=>PV.i (f x))with|some a,some b=>some (a::b)|_,_=>none)=_;rw[mU];rfl
def u7(o:Ord R):∀{ks A:Cp}{C:Dg}{n:CJ},A++ks=R.map (·.1)->AU h A C->∃C' n',ZL Zk Zl (ks.map kP) [some (.d (htP R h)),some (.d (cnP C)),n]=.ok (.nx [some (.d (htP R h)),some (.d (cnP C')),n'])/\AU h (R.map (·.1)) C'
 |[],A,C,n,e,q=>by rw[F0]at e;rw[e]at q;exact⟨C,n,rfl,q⟩
 |k::ks,A,C,n,e,q=>by
  have hk:k∈R.map (·.1):=by rw[<- e];exact C6 _ B3
  have few:=o.ok.few;have la:A.length<=40:=by have:=M5 List.length e;rw[B5,u8]at this;omega
  have gx:∀{m1 m2:ME}{ρ:Sto},m1 ρ=.ok (.d (htP R h))->m2 ρ=.ok (kP k)->mOp pIx m1 m2 ρ=.ok (kP (.inl (h k))):=λh1 h2=>qK h1 h2 (by rw[W8,aE hk];rfl);have gd:ij (zd 1) (mOp pIx (zd 0) (zd 2)) (mC (.i 0)) [some (.d (htP R h)),some (.d (cnP C)),some (kP k)]=.ok (.i ((zq C (.inl (h k))).getD 0)):=by show(mOp pIx (zd 0) (zd 2) _).bind _=_;rw[gx rfl rfl];show WM (cnP C) (.i (h k)) (.i 0)=_;show Out.ok ((zq (cnP C) (.inl (h k))).getD (.i 0))=_;rw[mT];cases zq C (.inl (h k))<;>rfl
  have eb:=aC (i:=1) (k:=.inl (h k)) (kvs:=cnP C) (mk:=mOp pIx (zd 0) (zd 2)) (mv:=mOp qU (ij (zd 1) (mOp pIx (zd 0) (zd 2)) (mC (.i 0))) (mC (.i 1))) (v:=.i ((zq C (.inl (h k))).getD 0+1)) (ρ:=[some (.d (htP R h)),some (.d (cnP C)),some (kP k)]) rfl (gx rfl rfl) (qK gd rfl rfl) (by unfold cnP;rw[u8];have:=q.len;omega);rw[u6]at eb;have q':AU h (A++[k]) (dput C (.inl (h k)) ((zq C (.inl (h k))).getD 0+1)):=by
   refine⟨λv=>?_,λx hx=>?_,?_⟩
   .rw[ye,List.countP_append];by_cases e1:(Sum.inl (h k):Key)=.inl v
    .rw[if_pos e1];have e1:h k=v:=a2h e1;show(zq C (.inl (h k))).getD 0+1=_;rw[q.cnt (h k),e1];rw[a0C,List.countP_nil,if_pos (by simp[e1])];omega
    .rw[if_neg e1,q.cnt v,a0C,List.countP_nil,if_neg (by intro z;exact e1 (by rw[M7 z]))];omega
   .rw[WS]at hx;split at hx
    .exact q.key x hx
    .rcases E9.mp hx with hx|hx
     .exact q.key x hx
     .exact⟨h k,C7.mp hx⟩
   .have:=pw (A:=C) (k:=(.inl (h k):Key)) (v:=(zq C (.inl (h k))).getD 0+1);rw[B5];show _<=A.length+1;have:=q.len;omega
  obtain⟨C',n',e2,q2⟩:=u7 o (n:=some (kP k)) (by rw[F3];exact e) q';refine⟨C',n',?_,q2⟩;rw[C8];exact(kH rfl eb).trans e2
def fI(o:Ord R)(hh:∀a∈R.map (·.1),∀b∈zU R a,h a<h b):∃A:List Key,A.Nodup/\(∀a∈A,a∈R.map (·.1))/\(∀a∈A,∀b∈A,b∉zU R a)/\yc [.d (htP R h)]=.ok (.i (A.length:Int)):=by
 obtain⟨C,n',e1,q⟩:=u7 (h:=h) o (ks:=R.map (·.1)) (A:=[]) (C:=[]) (n:=none) rfl ⟨λv=>rfl,λk hk=>absurd hk (by simp),B7 _⟩;have few:=o.ok.few;have ln:=q.len;rw[u8]at ln;have hkm:zv 0 [some (.d (htP R h)),some (.d []),none]=.ok ((R.map (·.1)).map kP):=by show Out.ok ((htP R h).map λkx=>kP kx.1)=_;unfold htP;rw[D3,D3];rfl
 have lc:mLC (zv 1) [none,some 1] wb wc wd [some (.d (htP R h)),some (.d (cnP C)),n']=.ok (.l (C.map λp=>PV.i ((zq C p.1).getD 0))):=by
  refine Vj (xs:=C.map λp=>kP p.1) (by show Out.ok ((cnP C).map λkx=>kP kx.1)=_;unfold cnP;rw[D3];rfl) (Vg (λp:Key×Int=>kP p.1) (λp=>PV.i ((zq C p.1).getD 0)) (λρ=>∃z,ρ=[z,some (.d (cnP C))]) C _ ⟨none,rfl⟩ (λp hp ρ ⟨z,ez⟩=>by
   subst ez;refine⟨_,rfl,⟨_,rfl⟩,qK rfl rfl ?_⟩;rw[W8,mT];have:=qX.mpr (T5 (f:=(·.1)) hp);cases e:zq C p.1 with
   |none=>rw[e]at this;cases this
   |some v=>rfl) (by omega))
 have mx:dZ 0 [.l (C.map λp=>PV.i ((zq C p.1).getD 0))]=.ok (.i ((vO none (C.map λp=>(zq C p.1).getD 0)).getD 0)):=by show vp ((lR (C.map λp=>PV.i ((zq C p.1).getD 0))).map _)=_;rw[mU (f:=λp:Key×Int=>(zq C p.1).getD 0)];rfl
 have ev:∀w,(vO none (C.map λp=>(zq C p.1).getD 0)).getD 0=w->yc [.d (htP R h)]=.ok (.i w):=λw hw=>by rw[hw]at mx;exact kT (zj ⟨_,rfl,zj ⟨_,ql hkm e1,uY (vi (uX lc rfl) mx)⟩⟩)
 rcases Xb (ns:=C.map λp=>(zq C p.1).getD 0) (b:=none)with e|⟨x,hx,e⟩
 .exact⟨[],P8,λa ha=>absurd ha (by simp),λa ha=>absurd ha (by simp),ev 0 (by rw[e];rfl)⟩
 .obtain⟨p,hp,rfl⟩:=E1.mp hx;obtain⟨v,hv⟩:=q.key p.1 (T5 hp);refine⟨(R.map (·.1)).filter λx=>decide (h x=v),o.ok.nd.sublist P0,λa ha=>(E7.mp ha).1,λa ha b hb z=>?_,ev _ ?_⟩
  .have h1:=M7 (E7.mp ha).2;have h2:=M7 (E7.mp hb).2;have:=hh a (E7.mp ha).1 b z;omega
  .rw[e];show(zq C p.1).getD 0=_;rw[hv,q.cnt v,a0W]
end
def mV{g:HMG}{b:HMS}{J:kA->AH->Prop}:∀{xs:List HV}{ρ:kA}{G:AH},J ρ G->(∀x∈xs,∀ρ G,J ρ G->∃ρ1,g x ρ=some ρ1/\∃ρ2 G2,b ρ1 G=.nx ρ2 G2/\J ρ2 G2)->∃ρ' G',J ρ' G'/\Zh g b xs ρ G=.nx ρ' G'
 |[],ρ,G,h,_=>⟨ρ,G,h,rfl⟩
 |x::xs,ρ,G,h,hs=>by obtain⟨ρ1,e1,ρ2,G2,e2,h2⟩:=hs x B3 ρ G h;obtain⟨ρ',G',h',e'⟩:=mV (xs:=xs) h2 λy hy=>hs y (B4 _ hy);refine⟨ρ',G',h',?_⟩;unfold Zh;rw[e1];dsimp only;rw[e2];exact e'
def J_{k:Nat}{g:HMG}{b:HMS}{xs:List HV}(J:Nat->kA->AH->Prop)(hJ:∀i ρ G,J i ρ G->G[k]?=some (.l xs))(hs:∀i (h:i<xs.length) ρ G,J i ρ G->∃ρ1,g xs[i] ρ=some ρ1/\∃ρ2 G2,J (i+1) ρ2 G2/\b ρ1 G=.nx ρ2 G2):∀(r i:Nat)(ρ:kA)(G:AH),i+r=xs.length->J i ρ G->∃ρ' G',J xs.length ρ' G'/\Y9 k g b r i ρ G=.nx ρ' G'
 |0,i,ρ,G,h,j=>by
  have e:i=xs.length:=by omega
  subst e;refine⟨ρ,G,j,?_⟩;unfold Y9;rw[hJ _ ρ G j];dsimp only;rw[List.getElem?_eq_none (B7 _)]
 |r+1,i,ρ,G,h,j=>by
  have hi:i<xs.length:=by omega
  obtain⟨ρ1,h1,ρ2,G2,j2,h2⟩:=hs i hi ρ G j;obtain⟨ρ3,G3,j3,h3⟩:=J_ J hJ hs r (i+1) ρ2 G2 (by omega) j2;refine⟨ρ3,G3,j3,?_⟩;unfold Y9;rw[hJ _ ρ G j];dsimp only;rw[B9 hi];dsimp only;rw[h1];dsimp only;rw[h2];exact h3
def aF(h:m ρ G=.ok (.g k) G1)(h0:G1[k]?=some (.l xs))(h1:Y9 k g b xs.length 0 ρ G1=o):X8 m g b ρ G=o:=by unfold X8;rw[h];show(match G1[k]? with|some (.l xs)=>Y9 k g b xs.length 0 ρ G1|_=>.wall)=_;rw[h0];exact h1
def iS(h2:ρ[2]?=some (some (.g e)))(h5:ρ[5]?=some (some (.v (.i (j:Int)))))(h3:ρ[3]?=some (some y))(hc:G[e]?=some (.l xs))(hj:j<xs.length):g7 (yj 2) (yj 5) (yj 3) ρ G=.nx ρ (G.set e (.l (xs.set j y))):=by
 have v:∀{i:Nat}{x:HV},ρ[i]?=some (some x)->yj i ρ G=.ok x G:=λh=>by unfold yj;rw[h]
 unfold g7;rw[v h3];show((yj 2 ρ G).fw _)=_;rw[v h2];show((yj 5 ρ G).fw _)=_;rw[v h5];show(match G[e]? with|some (.l xs)=>(match ixN xs.length (j:Int)with|some t=>HFw.nx ρ (G.set e (.l (xs.set t y)))|none=>.wall)|_=>.wall)=_;rw[hc];dsimp only;rw[show ixN xs.length (j:Int)=some j from by unfold ixN;rw[if_pos (a2f j),if_pos (by omega),S6]]
def iT(h2:ρ[2]?=some (some (.g e)))(h3:ρ[3]?=some (some y))(hc:G[e]?=some (.l xs))(hl:xs.length<=1000):xu (yj 2) (yj 3) ρ G=.nx ρ (G.set e (.l (xs++[y]))):=by
 have v:∀{i:Nat}{x:HV},ρ[i]?=some (some x)->yj i ρ G=.ok x G:=λh=>by unfold yj;rw[h]
 unfold xu;rw[v h2];show(match G[e]? with|some (.l _)=>(yj 3 ρ G).fw _|_=>HFw.wall)=_;rw[hc];show(yj 3 ρ G).fw _=_;rw[v h3];show(match G[e]? with|some (.l xs)=>if xs.length<sizeLine then HFw.nx ρ (G.set e (.l (xs++[y])))else .wall|_=>.wall)=_;rw[hc];dsimp only;rw[if_pos (F1 hl (by decide))]
section
variable {R:Rw}{h:CS}{G:AH}{e:Nat}{E:Cp}{nm:CT}
abbrev fS(R:Rw)(h:CS)(e:Nat)(n p k:Option HV):kA:=[some (.v (rwP R)),some (.v (.d (htP R h))),some (.g e),n,p,k]
def u9:((E.map kP).map HV.v).set j (.v (kP nm))=((E.set j nm).map kP).map .v:=by rw[a2g,a2g]
def u_(o:Ord R)(he:e<G.length)(hE:∀x∈E,x∈R.map (·.1)):∃k',(Zh z0 z5 ((Q3 0 E.length).map .v) (fS R h e (some (.v (kP nm))) (some (.v (.b false))) p) (G.set e (ksC E))=.nx (fS R h e (some (.v (kP nm))) (some (.v (.b false))) k') (G.set e (ksC E)))\/∃(j:Nat)(hj:j<E.length),nm∈zU R E[j]/\Zh z0 z5 ((Q3 0 E.length).map .v) (fS R h e (some (.v (kP nm))) (some (.v (.b false))) p) (G.set e (ksC E))=.nx (fS R h e (some (.v (kP nm))) (some (.v (.b true))) k') (G.set e (ksC (E.set j nm))):=by
 obtain⟨ρ',G',J,e1⟩:=mV (g:=z0) (b:=z5) (J:=λρ G'=>(∃k,ρ=fS R h e (some (.v (kP nm))) (some (.v (.b false))) k/\G'=G.set e (ksC E))\/∃(j:Nat)(hj:j<E.length)(k:Option HV),nm∈zU R E[j]/\ρ=fS R h e (some (.v (kP nm))) (some (.v (.b true))) k/\G'=G.set e (ksC (E.set j nm))) (xs:=(Q3 0 E.length).map .v) (ρ:=fS R h e (some (.v (kP nm))) (some (.v (.b false))) p) (G:=G.set e (ksC E)) (.inl ⟨p,rfl,rfl⟩) (λx hx ρ G' J=>by
  obtain⟨y,hy,rfl⟩:=E1.mp hx;obtain⟨i,hi,rfl⟩:∃i:Nat,i<E.length/\y=.i (i:Int):=by unfold Q3 at hy;obtain⟨i,hi,rfl⟩:=E1.mp hy;exact⟨i,F6.mp hi,by rw[Int.zero_add]⟩
  have sd:∀c:Cell,(G.set e c)[e]?=some c:=λc=>E4 he;rcases J with⟨k,rfl,rfl⟩|⟨j,hj,k,hr,rfl,rfl⟩
  .obtain⟨xs,hxs⟩:=J8 (hE E[i] (T2 hi));have er:zU R E[i]=xs:=Zo o.ok.nd hxs;have t:=J7 (G:=G.set e (ksC E)) (bs:=[true,false,true,true,true,true]) (ρ:=fS R h e (some (.v (kP nm))) (some (.v (.b false))) (some (.v (.i (i:Int))))) (m:=fW (XH (yP (zd 4))) (yP (mOp (pIn false) (zd 3) (mOp pIx (zd 0) (mOp pIx (zd 2) (zd 5)))))) rfl (QC rfl (YI (QC (fb (n:=6) (sd (ksC E))) (QC rfl (QC rfl (QC rfl xB)))))) (mO (x:=true) (y:=!outside xs nm) rfl (kG (qK rfl (qK rfl (qK rfl rfl (fA hi)) (jF o.ok.nd hxs)) fm)));rw[a03]at t;cases ec:outside xs nm with
   |true=>rw[ec]at t;exact⟨_,rfl,_,_,(bu t).trans rfl,.inl ⟨_,rfl,rfl⟩⟩
   |false=>
    rw[ec]at t;have hin:nm∈zU R E[i]:=by rw[er];exact S7 λn=>by rw[zz.mpr n]at ec;cases ec
    refine⟨_,rfl,_,_,(uS t).trans (zS (iS (j:=i) (xs:=(E.map kP).map .v) rfl rfl rfl (sd _) (by rw[u8,u8];exact hi)) rfl),.inr ⟨i,hi,_,hin,rfl,?_⟩⟩;rw[u9,a1v]
  .have t:=J7 (G:=G.set e (ksC (E.set j nm))) (bs:=[true,false,true,true,true,true]) (ρ:=fS R h e (some (.v (kP nm))) (some (.v (.b true))) (some (.v (.i (i:Int))))) (m:=fW (XH (yP (zd 4))) (yP (mOp (pIn false) (zd 3) (mOp pIx (zd 0) (mOp pIx (zd 2) (zd 5)))))) rfl (QC rfl (YI (QC (fb (n:=6) (sd (ksC (E.set j nm)))) (QC rfl (QC rfl (QC rfl xB)))))) (fE rfl);exact⟨_,rfl,_,_,(bu t).trans rfl,.inr ⟨j,hj,_,hr,rfl,rfl⟩⟩)
 rcases J with⟨k,rfl,rfl⟩|⟨j,hj,k,hr,rfl,rfl⟩
 .exact⟨k,.inl e1⟩
 .exact⟨k,.inr ⟨j,hj,hr,e1⟩⟩
def pL(o:Ord R)(he:e<G.length)(hE:∀x∈E,x∈R.map (·.1))(hl:E.length<=40):∃E' p' k',(E'=E++[nm]\/∃(j:Nat)(hj:j<E.length),nm∈zU R E[j]/\E'=E.set j nm)/\yt (fS R h e (some (.v (kP nm))) p k) (G.set e (ksC E))=.nx (fS R h e (some (.v (kP nm))) p' k') (G.set e (ksC E')):=by
 have sd:∀c:Cell,(G.set e c)[e]?=some c:=λc=>E4 he;have ln:hP [false,false,true] (zh vy (ze (zd 2) zC)) (fS R h e (some (.v (kP nm))) (some (.v (.b false))) k) (G.set e (ksC E))=.ok (.v (.i (E.length:Int))) (G.set e (ksC E)):=ay rfl (YI (YI (QC (fb (n:=6) (sd (ksC E))) (pF (pF (pF xB)))))) (vi (xs:=[.l (E.map kP)]) rfl (by show Out.ok (PV.i ((E.map kP).length:Int))=_;rw[u8])) rfl;have fn:=λ{q:HFw}(hq:Zh z0 z5 ((Q3 0 E.length).map .v) (fS R h e (some (.v (kP nm))) (some (.v (.b false))) k) (G.set e (ksC E))=q)=>iA (n:=E.length) ln (by omega) hq;obtain⟨k',h1|⟨j,hj,hr,h1⟩⟩:=u_ (h:=h) (nm:=nm) (p:=k) o he hE
 .refine⟨E++[nm],some (.v (.b false)),k',.inl rfl,zS (ρ':=fS R h e (some (.v (kP nm))) (some (.v (.b false))) k) rfl (zS (fn h1) ((uS (mK (b:=true) rfl rfl)).trans ((iT (xs:=(E.map kP).map .v) rfl rfl (sd _) (by rw[u8,u8];omega)).trans ?_)))⟩;rw[a1v];show HFw.nx _ (G.set e (.l ((E.map kP).map .v++[.v (kP nm)])))=HFw.nx _ (G.set e (.l (((E++[nm]).map kP).map .v)));rw[F8,F8];rfl
 .exact⟨E.set j nm,some (.v (.b true)),k',.inr ⟨j,hj,hr,rfl⟩,zS (ρ':=fS R h e (some (.v (kP nm))) (some (.v (.b false))) k) rfl (zS (fn h1) ((bu (mK (b:=false) rfl rfl)).trans rfl))⟩
def FF(R:Rw)(ps E:Cp):Prop:=∃dcs:List (Key×List Key),E=dcs.map (·.1)/\(∀d∈dcs,(∀z∈d.2,d.1∈zU R z)/\Comp R d.2)/\∀x∈ps,∃d∈dcs,x=d.1\/x∈d.2
def FF.app(q:FF R ps E):FF R (ps++[nm]) (E++[nm]):=by
 obtain⟨dcs,rfl,h1,h2⟩:=q;refine⟨dcs++[(nm,[])],by rw[F8];rfl,λd hd=>?_,λx hx=>?_⟩
 .rcases E9.mp hd with hd|hd
  .exact h1 d hd
  .rw[C7.mp hd];exact⟨λz hz=>(by cases hz),λa ha=>(by cases ha)⟩
 .rcases E9.mp hx with hx|hx
  .obtain⟨d,hd,h⟩:=h2 x hx;exact⟨d,D7 _ hd,h⟩
  .exact⟨(nm,[]),C6 _ B3,.inl (C7.mp hx)⟩
def FF.put(o:Ord R)(hj:j<E.length)(hr:nm∈zU R E[j])(q:FF R ps E):FF R (ps++[nm]) (E.set j nm):=by
 obtain⟨dcs,rfl,h1,h2⟩:=q;have hj':j<dcs.length:=by rw[u8]at hj;exact hj
 rw[a0g]at hr;have hm:dcs[j]∈dcs:=T2 hj';obtain⟨t1,t2⟩:=h1 _ hm;refine⟨dcs.set j (nm,dcs[j].1::dcs[j].2),by rw[a2g],λd hd=>?_,λx hx=>?_⟩
 .rcases a1g hd with hd|hd
  .exact h1 d hd
  .rw[hd];refine⟨λz hz=>?_,λa ha b hb=>?_⟩
   .rcases C5.mp hz with e|hz
    .rw[e];exact hr
    .exact o.tr _ _ _ (t1 z hz) hr
   .rcases C5.mp ha with ea|ha<;>rcases C5.mp hb with eb|hb
    .exact .inl (by rw[ea,eb])
    .exact .inr (.inr (by rw[ea];exact t1 b hb))
    .exact .inr (.inl (by rw[eb];exact t1 a ha))
    .exact t2 a ha b hb
 .have hs:(nm,dcs[j].1::dcs[j].2)∈dcs.set j (nm,dcs[j].1::dcs[j].2):=a1V.mpr ⟨j,by rw[F5];exact hj',List.getElem_set_self ..⟩;rcases E9.mp hx with hx|hx
  .obtain⟨d,hd,h⟩:=h2 x hx;obtain⟨i,hi,ei⟩:=a11 hd;by_cases c:j=i
   .subst c;refine⟨_,hs,.inr ?_⟩;rw[ei];rcases h with h|h
    .rw[h];exact B3
    .exact B4 _ h
   .refine⟨d,a1V.mpr ⟨i,by rw[F5];exact hi,?_⟩,h⟩;rw[List.getElem_set_ne c];exact ei
  .exact⟨_,hs,.inl (C7.mp hx)⟩
def FF.le{ps A:Cp}(q:FF R ps E)(nd:A.Nodup)(sub:∀a∈A,a∈ps)(ap:∀a∈A,∀b∈A,b∉zU R a):A.length<=E.length:=by
 obtain⟨dcs,rfl,h1,h2⟩:=q;have:=VW (R:=R) (cs:=dcs.map λd=>d.1::d.2) (A:=A) (λc hc=>by
  obtain⟨d,hd,rfl⟩:=E1.mp hc;obtain⟨t1,t2⟩:=h1 d hd;intro a ha b hb;rcases C5.mp ha with ea|ha<;>rcases C5.mp hb with eb|hb
  .exact .inl (by rw[ea,eb])
  .exact .inr (.inr (by rw[ea];exact t1 b hb))
  .exact .inr (.inl (by rw[eb];exact t1 a ha))
  .exact t2 a ha b hb) nd (λa ha=>by
  obtain⟨d,hd,h⟩:=h2 a (sub a ha);exact⟨_,T5 hd,C5.mpr h⟩) ap
 rw[u8]at this ⊢;exact this
end
section
variable {R:Rw}{h:CS}{G:AH}
def aG:∀{ks:Cp},(∀k∈ks,k∈R.map (·.1))->Vx (λa=>bK 2 zk [a,.d (htP R h)]) (ks.map kP)=some (ks.map h)
 |[],_=>rfl
 |k::ks,hk=>by
  have e:bK 2 zk [kP k,.d (htP R h)]=.ok (.i (h k)):=by have:zk [some (kP k),some (.d (htP R h))]=.ok (.i (h k)):=qK rfl rfl (by rw[W8,aE (hk k B3)];rfl);show(match zk [some (kP k),some (.d (htP R h))]with | .ok y=>Out.ok y|_=>.wall)=_;rw[this]
  show(match bK 2 zk [kP k,.d (htP R h)]with | .ok (.i n)=>(Vx (λa=>bK 2 zk [a,.d (htP R h)]) (ks.map kP)).map (n::·)|_=>none)=_;rw[e];show(Vx (λa=>bK 2 zk [a,.d (htP R h)]) (ks.map kP)).map (h k::·)=_;rw[aG λj hj=>hk j (B4 _ hj)];rfl
def iU(o:Ord R):∃us:List Key,iy (bK 2 zk) (.d (htP R h)) (rwP R)=some (.l (us.map kP))/\(∀x,x∈us↔x∈R.map (·.1))/\us.length=R.length:=by
 have few:=o.ok.few;have ei:d9 (rwP R)=some ((R.map (·.1)).map kP):=by show some ((R.map λp=>(p.1,PV.l (p.2.map kP))).map λkx=>kP kx.1)=_;rw[D3,D3];rfl
 have pm:=(oS ((R.map (·.1)).map h)).1;rw[u8,u8]at pm;refine⟨(V4 ((R.map (·.1)).map h)).map λi=>(R.map (·.1)).getD i (.inl 0),?_,λx=>?_,by rw[u8,pm.length_eq,D6]⟩
 .unfold iy;rw[ei];show(if((R.map (·.1)).map kP).length<64 then _ else none)=_;rw[if_pos (by rw[u8,u8];omega),aG λk hk=>hk];show some (PV.l _)=some (PV.l (List.map kP (List.map (λi=>(R.map (·.1)).getD i (.inl 0)) (V4 ((R.map (·.1)).map h)))));rw[D3 (f:=λi=>(R.map (·.1)).getD i (.inl 0))];congr 2;refine O9 λi hi=>?_;have hi':=F6.mp (pm.mem_iff.mp hi);show((R.map (·.1)).map kP).getD i .n=kP ((R.map (·.1)).getD i (.inl 0));rw[M4,M4,D5,B9 (by rw[u8];exact hi')];rfl
 .constructor
  .intro hx;obtain⟨i,hi,rfl⟩:=E1.mp hx;have hi':=F6.mp (pm.mem_iff.mp hi);rw[M4,B9 (by rw[u8];exact hi')];exact T2 _
  .intro hx;obtain⟨i,hi,ei⟩:=a11 hx;rw[u8]at hi;refine E1.mpr ⟨i,pm.mem_iff.mpr (F6.mpr hi),?_⟩;rw[M4,B9 (by rw[u8];exact hi),ei];rfl
def xa(o:Ord R):∃(m:Nat)(X:AH),yW [.v (rwP R),.v (.d (htP R h))] (.y true::G)=.ok (.v (.i (m:Int))) (.y false::(G++X))/\∀A:List Key,A.Nodup->(∀a∈A,a∈R.map (·.1))->(∀a∈A,∀b∈A,b∉zU R a)->A.length<=m:=by
 obtain⟨us,es,mu',lu⟩:=iU (h:=h) o;have few:=o.ok.few;obtain⟨B,hB⟩:∃B:AH,B=.y false::(G++[ksC [],ksC us]):=⟨_,rfl⟩;have lB:B.length=G.length+3:=by rw[hB,B0,B5];rfl
 have bs:∀E:List Key,B.set (G.length+1) (ksC E)=.y false::(G++[ksC E,ksC us]):=λE=>by rw[hB,a2d,S4 _ _ (B7 _),N8];rfl
 have bq:∀E:List Key,(B.set (G.length+1) (ksC E))[G.length+2]?=some (.l ((us.map kP).map .v)):=λE=>by rw[bs,E8,F4 (by omega),show G.length+1-G.length=1 by omega];rfl
 have so:JO (bK 2 zk) 1 (ya (yj 0) Kl) (fS R h (G.length+1) none none none) (.y true::(G++[ksC []]))=.ok (.g (G.length+2)) (B.set (G.length+1) (ksC [])):=by rw[bs];unfold JO;show(match iy (bK 2 zk) (.d (htP R h)) (rwP R),(some (Cell.y true))with|some (PV.l zs),some (Cell.y true)=>HX.ok (HV.g (Cell.y true::(G++[ksC []])).length) ((Cell.y true::(G++[ksC []])).set 0 (.y false)++[Cell.l (zs.map .v)])|_,_=>.wall)=_;rw[es];show HX.ok _ _=_;rw[B0,B5,a00,a1t,F3];rfl
 obtain⟨ρ',G',⟨E,n,p,k,rfl,rfl,ff,hE,lE⟩,eL⟩:=J_ (k:=G.length+2) (g:=qj) (b:=yt) (xs:=(us.map kP).map .v) (λi ρ G'=>∃E n p k,ρ=fS R h (G.length+1) n p k/\G'=B.set (G.length+1) (ksC E)/\FF R (us.take i) E/\(∀x∈E,x∈R.map (·.1))/\E.length<=i) (λi ρ G' ⟨E,n,p,k,_,e2,_⟩=>by rw[e2];exact bq E) (λi hi ρ G' ⟨E,n,p,k,e1,e2,ff,hE,lE⟩=>by
  subst e1 e2;rw[u8,u8]at hi;rw[a0g,a0g];have mk:us[i]∈R.map (·.1):=(mu' _).mp (T2 hi);obtain⟨E',p',k',hh,eb⟩:=pL (h:=h) (G:=B) (e:=G.length+1) (nm:=us[i]) (p:=p) (k:=k) o (by omega) hE (by omega);have tk:us.take (i+1)=us.take i++[us[i]]:=by rw[a1M,B9 hi];rfl
  refine⟨_,rfl,_,_,⟨E',_,_,_,rfl,rfl,?_,λx hx=>?_,?_⟩,eb⟩
  .rw[tk];rcases hh with rfl|⟨j,hj,hr,rfl⟩
   .exact ff.app
   .exact ff.put o hj hr
  .rcases hh with rfl|⟨j,hj,hr,rfl⟩
   .rcases E9.mp hx with hx|hx
    .exact hE x hx
    .rw[C7.mp hx];exact mk
   .rcases a1g hx with hx|hx
    .exact hE x hx
    .rw[hx];exact mk
  .rcases hh with rfl|⟨j,hj,hr,rfl⟩
   .rw[B5];show E.length+1<=_;omega
   .rw[F5];omega) us.length 0 (fS R h (G.length+1) none none none) (B.set (G.length+1) (ksC [])) (by rw[u8,u8];omega) ⟨[],_,_,_,rfl,rfl,⟨[],rfl,λd hd=>absurd hd (by simp),λx hx=>absurd hx (by rw[List.take_zero];simp)⟩,λx hx=>absurd hx (by simp),B7 _⟩
 rw[u8,u8]at ff lE;rw[a0B]at ff;refine⟨E.length,[ksC E,ksC us],?_,λA nd sub ap=>ff.le nd (λa ha=>(mu' a).mpr (sub a ha)) ap⟩;have s1:wQ 2 (hF [] (XG zC)) [some (.v (rwP R)),some (.v (.d (htP R h))),none,none,none,none] (.y true::G)=.nx (fS R h (G.length+1) none none none) (.y true::(G++[ksC []])):=rfl;have s2:X8 (JO (bK 2 zk) 1 (ya (yj 0) Kl)) qj yt (fS R h (G.length+1) none none none) (.y true::(G++[ksC []]))=.nx (fS R h (G.length+1) n p k) (B.set (G.length+1) (ksC E)):=aF so (bq []) (by rw[u8,u8];exact eL);have s3:hP [false,false,true] (zh vy (ze (zd 2) zC)) (fS R h (G.length+1) n p k) (B.set (G.length+1) (ksC E))=.ok (.v (.i (E.length:Int))) (B.set (G.length+1) (ksC E)):=ay rfl (YI (YI (QC (fb (n:=6) (E4 (by omega))) (pF (pF (pF xB)))))) (vi (xs:=[.l (E.map kP)]) rfl (by show Out.ok (PV.i ((E.map kP).length:Int))=_;rw[u8])) rfl;rw[<- bs E];show(match yV [some (.v (rwP R)),some (.v (.d (htP R h))),none,none,none,none] (.y true::G)with | .nx _ G'=>HX.ok (HV.v PV.n) G' | .rt x G'=>.ok x G' | .exc c fs G'=>.exc c fs G'|_=>.wall)=_;rw[show yV [some (.v (rwP R)),some (.v (.d (htP R h))),none,none,none,none] (.y true::G)=.rt (.v (.i (E.length:Int))) (B.set (G.length+1) (ksC E))from zS s1 (zS s2 (fF s3))]
end
section
variable {R:Rw}{ns:CC}
def AV(o:Ord R):mLC (zv 1) [none,some 7,some 1] Yw Yx Yy [none,some (rwP R),none,none,none,none,none,some (kP k),none,none,none]=.ok (.l ((tn R k).map kP)):=by
 have few:=o.ok.few;refine Vj (xs:=R.map λp=>kP p.1) (by show Out.ok ((R.map λp=>(p.1,PV.l (p.2.map kP))).map λkx=>kP kx.1)=_;rw[D3];rfl) ?_;have:=ZM (g:=Yw) (c:=Yx) (e:=Yy) (λk:Key=>kP k) (λq=>!outside (zU R q) k) kP (λρ=>∃z,ρ=[z,some (kP k),some (rwP R)]) (R.map (·.1)) [none,some (kP k),some (rwP R)] [] ⟨none,rfl⟩ (λq hq ρ ⟨z,ez⟩=>by
  subst ez;refine⟨_,rfl,⟨_,rfl⟩,?_,λ_=>rfl⟩;obtain⟨xs,hxs⟩:=J8 hq;show((pIx (rwP R) (kP q)).bind λy=>pIn false (kP k) y).bind asB=_;rw[show pIx (rwP R) (kP q)=.ok (.l (xs.map kP))from jF o.ok.nd hxs];show(pIn false (kP k) (.l (xs.map kP))).bind asB=_;rw[fm,show zU R q=xs from Zo o.ok.nd hxs];rfl) (by simp;omega)
 rw[D3]at this;exact this
abbrev l11(ns:CC)(R:Rw)(f h kp tu nm ot ch ag:Option HV):kA:=[some (.v (.sc ns)),some (.v (rwP R)),some (.v (rwP R)),f,h,kp,tu,nm,ot,ch,ag]
def Xc{C:AH}{f h kp:Option HV}(o:Ord R):∀{ks done:Cp}{z:Option HV},done++ks=R.map (·.1)->∃z',Zh w4 j4 ((ks.map kP).map .v) (l11 ns R f h kp (some (.g C.length)) z none none none) (C++[.d (vK (rwK (done.map λk=>(k,tn R k))))])=.nx (l11 ns R f h kp (some (.g C.length)) z' none none none) (C++[.d (vK (rwK (trn R)))])
 |[],done,z,hh=>⟨z,by
  rw[F0]at hh;unfold trn;rw[<- hh];rfl⟩
 |k::ks,done,z,hh=>by
  obtain⟨z',e⟩:=Xc (C:=C) (f:=f) (h:=h) (kp:=kp) o (ks:=ks) (done:=done++[k]) (z:=some (.v (kP k))) (by rw[F3];exact hh);refine⟨z',?_⟩;have nd:=o.ok.nd;rw[<- hh]at nd;have hk:k∉done:=λq=>(L6.mp nd).2.2 k q k B3 rfl;have ld:done.length<=40:=by have:=M5 List.length hh;rw[B5,u8]at this;have:=o.ok.few;omega
  obtain⟨D,hD⟩:∃D,D=done.map λk=>(k,tn R k):=⟨_,rfl⟩;have cT:(C++[Cell.d (vK (rwK D))])[C.length]?=some (.d (vK (rwK D))):=by rw[F4 (B7 _),N8];rfl
  have hw:hW [false,true,false,false,false,false,false,true] (mLC (zv 1) [none,some 7,some 1] Yw Yx Yy) (l11 ns R f h kp (some (.g C.length)) (some (.v (kP k))) none none none) (C++[Cell.d (vK (rwK D))])=.ok (.v (.l ((tn R k).map kP))) (C++[Cell.d (vK (rwK D))]):=by unfold hW;show(match mLC (zv 1) [none,some 7,some 1] Yw Yx Yy [none,some (rwP R),none,none,none,none,none,some (kP k),none,none,none]with | .ok x=>HX.ok (HV.v x) _ | .exc c fs=>.exc c fs _ | .wall=>.wall)=_;rw[AV o]
  have eb:j4 (l11 ns R f h kp (some (.g C.length)) (some (.v (kP k))) none none none) (C++[Cell.d (vK (rwK D))])=.nx (l11 ns R f h kp (some (.g C.length)) (some (.v (kP k))) none none none) (C++[.d (vK (rwK ((done++[k]).map λk=>(k,tn R k))))]):=by show HX.fw (hW _ _ _ _) _=_;rw[hw];show(match(C++[Cell.d (vK (rwK D))])[C.length]?,pk (kP k)with|some (.d kvs),some q=>if kvs.length<sizeLine then HFw.nx (l11 ns R f h kp (some (.g C.length)) (some (.v (kP k))) none none none) ((C++[Cell.d (vK (rwK D))]).set C.length (.d (dput kvs q (.v (.l ((tn R k).map kP))))))else .wall|_,_=>.wall)=_;rw[cT,W7];show(if(vK (rwK D)).length<sizeLine then _ else _)=_;rw[if_pos (by unfold vK rwK;rw[u8,u8,hD,u8];exact F1 ld (by decide)),show dput (vK (rwK D)) k (.v (.l ((tn R k).map kP)))=vK (dput (rwK D) k (.l ((tn R k).map kP)))from w6 (f:=HV.v),show dput (rwK D) k (.l ((tn R k).map kP))=rwK (dput D k (tn R k))from eW,YD (by rw[hD,D3];intro q;obtain⟨j,hj,e⟩:=E1.mp q;exact hk (e▸hj)),S4 _ _ (B7 _),N8,hD,F8];rfl
  rw[<- hD];show(match j4 (l11 ns R f h kp (some (.g C.length)) (some (.v (kP k))) none none none) (C++[Cell.d (vK (rwK D))])with
   |.nx ρ2 G2=>Zh w4 j4 ((ks.map kP).map .v) ρ2 G2
   |.ct ρ2 G2=>Zh w4 j4 ((ks.map kP).map .v) ρ2 G2
   |.bk ρ2 G2=>.nx ρ2 G2
   |.rt v G2=>.rt v G2
   |.exc c fs G2=>.exc c fs G2
   |.wall=>.wall)=_
  rw[eb];exact e
def AW:V3 true (csP cs) (csP cs)=.ok (.b false):=by
 have e7:∀{xs:Cp},Xg (Vi 6) (xs.map kP) (xs.map kP)=some true:=λ{xs}=>by
  induction xs with
  |nil=>rfl
  |cons x xs ih=>
   show lM (Vi 6 (kP x) (kP x)) (Xg (Vi 6) (xs.map kP) (xs.map kP))=_;rw[ih,show Vi 6 (kP x) (kP x)=some true from by
    cases x with
    |inl i=>show Z3 6 (.i i) (.i i)=_;rw[dg,L5 rfl]
    |inr z=>show some (z==z)=_;rw[P7]];rfl
 have:Xg (Vi 7) (cs.map λc=>PV.l (c.map kP)) (cs.map λc=>.l (c.map kP))=some true:=by
  induction cs with
  |nil=>rfl
  |cons c cs ih=>show lM (Vi 7 (.l (c.map kP)) (.l (c.map kP))) (Xg (Vi 7) (cs.map λc=>PV.l (c.map kP)) (cs.map λc=>.l (c.map kP)))=_;rw[ih,show Vi 7 (.l (c.map kP)) (.l (c.map kP))=some true from e7];rfl
 unfold V3;rw[show Vi 8 (csP cs) (csP cs)=some true from this];rfl
def KU:vy [csP cs]=.ok (.i (cs.length:Int)):=by show Out.ok (PV.i ((cs.map λc=>PV.l (c.map kP)).length:Int))=_;rw[u8]
def iV(o:Ord R)(g:Good (zU R) (R.map (·.1)) ow)(g':Good (zU (trn R)) ((trn R).map (·.1)) ow')(c:Chs R cs)(c':Chs (trn R) cs')(l:cs.length+ow.length=R.length)(l':cs'.length+ow'.length=(trn R).length):cs'.length=cs.length:=by obtain⟨A,n1,s1,a1,q1⟩:=Uo o g;obtain⟨A',n2,s2,a2,q2⟩:=Uo (VU o) g';have h1:=c'.le (VU o) n1 (λa ha=>by rw[vh];exact s1 a ha) λa ha b hb z=>a1 b hb a ha ((ZZ o).mp z);have h2:=c.le o n2 (λa ha=>by have:=s2 a ha;rw[vh]at this;exact this) λa ha b hb z=>a2 b hb a ha ((ZZ o).mpr z);omega
def bE{cs:CK}{G:AH}{b:Nat}{h kp tu nm ot ag:Option HV}(h0:G[b+cs.length]?=some (.l ((List.range cs.length).map λj=>.g (b+j))))(hc:∀j,j<cs.length->∃xs,G[b+j]?=some (.l xs)){ch:Option HV}:∃ch' G',X8 (yj 3) VI VJ (l11 ns R (some (.g (b+cs.length))) h kp tu nm ot ch ag) G=.nx (l11 ns R (some (.g (b+cs.length))) h kp tu nm ot ch' ag) G'/\G'.length=G.length/\∀i,b+cs.length<i->G'[i]?=G[i]?:=by
 obtain⟨ρ',G',⟨ch',rfl,l1,q1,q2,q3⟩,e⟩:=J_ (k:=b+cs.length) (g:=VI) (b:=VJ) (xs:=(List.range cs.length).map λj=>.g (b+j)) (λ_ ρ G'=>∃ch,ρ=l11 ns R (some (.g (b+cs.length))) h kp tu nm ot ch ag/\G'.length=G.length/\G'[b+cs.length]?=some (.l ((List.range cs.length).map λj=>.g (b+j)))/\(∀j,j<cs.length->∃xs,G'[b+j]?=some (.l xs))/\∀i,b+cs.length<i->G'[i]?=G[i]?) (λ_ ρ G' q=>by obtain⟨_,_,_,q,_⟩:=q;exact q) (λi hi ρ G' ⟨ch,e1,l1,q1,q2,q3⟩=>by
  subst e1;rw[u8,D6]at hi;obtain⟨xs,hx⟩:=q2 i hi;have lt:b+i<G'.length:=(C4.mp hx).1;rw[a0g,O6];refine⟨_,rfl,l11 ns R (some (.g (b+cs.length))) h kp tu nm ot (some (.g (b+i))) ag,G'.set (b+i) (.l []),⟨_,rfl,by rw[F5];exact l1,by rw[E5 (by omega)];exact q1,λj hj=>?_,λm hm=>by rw[E5 (by omega)];exact q3 m hm⟩,?_⟩
  .by_cases c:i=j
   .subst c;exact⟨[],E4 lt⟩
   .obtain⟨ys,hy⟩:=q2 j hj;exact⟨ys,by rw[E5 (by omega)];exact hy⟩
  .show(match G'[b+i]? with|some (.l _)=>HFw.nx _ (G'.set (b+i) (.l []))|_=>.wall)=_;rw[hx];rfl) cs.length 0 (l11 ns R (some (.g (b+cs.length))) h kp tu nm ot ch ag) G (by rw[u8,D6];omega) ⟨ch,rfl,rfl,h0,hc,λ_ _=>rfl⟩
 exact⟨ch',G',aF rfl h0 (by rw[u8,D6];exact e),l1,q3⟩
end
section
variable {R:Rw}{ns:CC}{cs:CK}{G G1 G2:AH}{ρ:kA}
def pM:∀{ρ:kA},vN G [] ρ=some (ρ.map λ_=>none)
 |[]=>rfl
 |_::_=>pF pM
def xb(h1:m1 ρ G=.ok x G1)(h2:m2 ρ G1=.ok y G2)(h3:qV G2 8 x=some a)(h4:qV G2 8 y=some b)(h5:p a b=.ok z)(hi:imm z=true):hOp p m1 m2 ρ G=.ok (.v z) G2:=by unfold hOp;rw[h1];show(m2 ρ G1).bind _=_;rw[h2];show ux G2 x y p=_;unfold ux;rw[h3,h4];dsimp only;rw[h5];dsimp only;rw[if_pos hi]
def pN(h:m ρ G=.ok (.v (.b c)) G1):fZ m ρ G=.ok c G1:=by unfold fZ;rw[h];rfl
def AX(h:t ρ G=.ok false G1)(h2:u ρ G1=r):hOr t u ρ G=r:=by unfold hOr;rw[h];exact h2
def aH(h:i<P.length):(chG P cs)[i]?=P[i]?:=by unfold chG;rw[F2 (by rw[B5];omega),F2 h]
def swp{a b:Cell}{L X:AH}{i:Nat}{c:Cell}(hi:0<i)(h:(a::L)[i]?=some c):(b::(L++X))[i]?=some c:=by obtain⟨j,rfl⟩:∃j,i=j+1:=⟨i-1,by omega⟩;rw[E8]at h ⊢;rw[F2 (C4.mp h).1];exact h
def xf(h:X[k]?=some (ksC A)):Kn X (n+2) (.g k)=some (.l (A.map kP)):=by
 have:∀{A:Cp},Q7 (Kn X (n+1)) ((A.map kP).map .v)=some (A.map kP):=λ{A}=>by
  induction A with
  |nil=>rfl
  |cons a A ih=>show((if imm (kP a)=true then some (kP a)else none).bind λy=>(Q7 (Kn X (n+1)) ((A.map kP).map .v)).map (y::·))=_;rw[if_pos (W9 a),ih];rfl
 unfold Kn;rw[h];show(Q7 (Kn X (n+1)) ((A.map kP).map .v)).map PV.l=_;rw[this];rfl
def fJ{n:Nat}:∀{cs:CK}{js:Cb},js.length=cs.length->(∀(i:Nat) j c,js[i]?=some j->cs[i]?=some c->G[j]?=some (ksC c))->Q7 (Kn G (n+2)) (js.map .g)=some (cs.map λc=>.l (c.map kP))
 |[],[],_,_=>rfl
 |c::cs,j::js,hl,h=>by show((Kn G (n+2) (.g j)).bind λy=>(Q7 (Kn G (n+2)) (js.map .g)).map (y::·))=_;rw[xf (h 0 j c rfl rfl),fJ (cs:=cs) (js:=js) (by simpa using hl) λi j c h1 h2=>h (i+1) j c h1 h2];rfl
 |[],_::_,hl,_=>by cases hl
 |_::_,[],hl,_=>by cases hl
def pO:Kn (chG P cs) 8 (.g (P.length+cs.length))=some (csP cs):=by
 unfold Kn;rw[VV];show(Q7 (Kn (chG P cs) 7) ((List.range cs.length).map λj=>.g (P.length+j))).map PV.l=_;rw[show((List.range cs.length).map λj=>HV.g (P.length+j))=((List.range cs.length).map λj=>P.length+j).map .g by rw[D3];rfl,fJ (n:=5) (cs:=cs) (by rw[u8,D6]) λi j c h1 h2=>?_]
 .rfl
 .rw[D5]at h1;obtain⟨q,h3,rfl⟩:=v4.mp h1;obtain⟨h4,h5⟩:=C4.mp h3;rw[O6]at h5;subst h5;rw[D6]at h4;rw[aA h4];obtain⟨_,h7⟩:=C4.mp h2;rw[h7]
def pP(h:cs.length<=1000):mLC (yy (zd 3)) [none] wX wY (mLI wZ) [none,none,none,some (csP cs),none,none,none,none,none,none,none]=.ok (csP cs):=by
 refine Vj (jN rfl) ?_;have:=ZM (g:=wX) (c:=wY) (e:=mLI wZ) (λc:List Key=>PV.l (c.map kP)) (λ_=>true) (λc=>.l (c.map kP)) (λρ=>∃z,ρ=[z]) cs [none] [] ⟨none,rfl⟩ (λc hc ρ ⟨z,ez⟩=>by
  subst ez;refine⟨_,rfl,⟨_,rfl⟩,rfl,λ_=>?_⟩;show(if Vq (c.map kP)=true then _ else _)=_;rw[if_pos (YE W9)]) (by simp;omega)
 rw[a1W.mpr λ_ _=>rfl]at this;exact this
def pQ(h:cs.length<=1000)(hr:qV G 8 (.g k)=some (csP cs)):p9 [false,false,false,true] (mLC (yy (zd 3)) [none] wX wY (mLI wZ)) [a,b,c,some (.g k),e,f,g,i,j,l,d] G=.ok (.g (G.length+cs.length)) (chG G cs):=by unfold p9;rw[show vN G [false,false,false,true] [a,b,c,some (.g k),e,f,g,i,j,l,d]=_ from YI (YI (YI (QC hr pM)))];show(match mLC (yy (zd 3)) [none] wX wY (mLI wZ) [none,none,none,some (csP cs),none,none,none,none,none,none,none]with | .ok x=>ig G x|_=>.wall)=_;rw[pP h];show HX.ok _ _=_;unfold chG;rw[u8,D3];rfl
end
def pR(o:Ord R)(eo:yB [.sc ns,.i 24]=.ok (rwP R)):∃G,eC [.v (.sc ns)] [.y true]=.ok (.v (.b true)) G:=by
 have few:=o.ok.few;obtain⟨ow,P,cs,⟨Y,eP⟩,e3,g,hgr,C,lc⟩:=Qo (G:=[.y true]) o;obtain⟨h,e5,hh⟩:=bD o;obtain⟨Gx,eG⟩:∃Gx,chG P cs=.y true::Gx:=⟨_,by rw[eP];rfl⟩;have lP:0<P.length:=by rw[eP];exact Nat.succ_pos _
 have t0:(Cell.y true::Gx)[P.length+cs.length]?=some (.l ((List.range cs.length).map λj=>.g (P.length+j))):=by rw[<- eG];exact VV
 have a0:∀j (hj:j<cs.length),(Cell.y true::Gx)[P.length+j]?=some (ksC cs[j]):=λj hj=>by rw[<- eG];exact aA hj
 rw[eG]at e3;obtain⟨m,X,e6,hm⟩:=xa (h:=h) (G:=Gx) o;obtain⟨A,n1,s1,p1,q1⟩:=Uo o g;have lm:=hm A n1 s1 p1;obtain⟨B,n2,s2,p2,ew⟩:=fI o hh;have lw:=C.le o n2 s2 p2;have t1:(Cell.y false::(Gx++X))[P.length+cs.length]?=_:=swp (by omega) t0;have a1:∀j (hj:j<cs.length),(Cell.y false::(Gx++X))[P.length+j]?=some (ksC cs[j]):=λj hj=>swp (by omega) (a0 j hj);generalize hC1:Cell.y false::(Gx++X)=C1 at e6 t1 a1;have r1:=KS t1 a1;have lP1:P.length+cs.length<C1.length:=(C4.mp t1).1;obtain⟨C2,hC2⟩:∃C2,C2=chG C1 cs:=⟨_,rfl⟩;obtain⟨z',eT⟩:=Xc (ns:=ns) (C:=C2) (f:=some (.g (P.length+cs.length))) (h:=some (.v (.d (htP R h)))) (kp:=some (.g (C1.length+cs.length))) o (ks:=R.map (·.1)) (done:=[]) (z:=none) rfl;obtain⟨C3,hC3⟩:∃C3,C3=C2++[.d (vK (rwK (trn R)))]:=⟨_,rfl⟩;rw[<- hC3]at eT;have l2:C2.length=C1.length+cs.length+1:=by rw[hC2];exact pG
 have l3:C3.length=C2.length+1:=by rw[hC3,B5];rfl
 have c32:∀i,i<C2.length->C3[i]?=C2[i]?:=λi hi=>by rw[hC3,F2 hi]
 have c3f:∀i,i<C1.length->C3[i]?=C1[i]?:=λi hi=>by rw[c32 i (by omega),hC2];exact aH hi
 have t3:C3[P.length+cs.length]?=_:=(c3f _ lP1).trans t1;have a3:∀j (hj:j<cs.length),C3[P.length+j]?=some (ksC cs[j]):=λj hj=>(c3f _ (by omega)).trans (a1 j hj);have tk:C3[C1.length+cs.length]?=some (.l ((List.range cs.length).map λj=>.g (C1.length+j))):=(c32 _ (by omega)).trans (by rw[hC2];exact VV);have ak:∀j (hj:j<cs.length),C3[C1.length+j]?=some (ksC cs[j]):=λj hj=>(c32 _ (by omega)).trans (by rw[hC2];exact aA hj);have tt:C3[C2.length]?=some (.d (vK (rwK (trn R)))):=by rw[hC3,F4 (B7 _),N8];rfl
 have rt:qV C3 8 (.g C2.length)=some (rwP (trn R)):=ph tt;have r3:=KS t3 a3;have rk:=KS tk ak;obtain⟨ow',P',cs',_,e8,g',hgr',C',lc'⟩:=Qo (G:=[]) (VU o);have ll:=iV o g g' C C' lc lc';obtain⟨ch',G4,e9,l4,c4⟩:=bE (ns:=ns) (R:=R) (cs:=cs) (G:=C3) (b:=P.length) (h:=some (.v (.d (htP R h)))) (kp:=some (.g (C1.length+cs.length))) (tu:=some (.g C2.length)) (nm:=z') (ot:=some (.v (csP cs'))) (ag:=none) (ch:=none) t3 λj hj=>⟨_,a3 j hj⟩;obtain⟨ow2,P2,cs2,⟨Y2,eP2⟩,e10,g2,hgr2,D,lc2⟩:=Qo (G:=G4) o;have l2':cs2.length=cs.length:=by rw[hgr]at hgr2;cases hgr2;omega
 have lP2:G4.length<=P2.length:=by rw[eP2,B5];omega
 have cf:∀i,P.length+cs.length<i->i<C3.length->(chG P2 cs2)[i]?=C3[i]?:=λi h1 h2=>by rw[aH (by omega),eP2,F2 (by omega)];exact c4 i h1
 have rf:=KS ((cf (C1.length+cs.length) (by omega) (by omega)).trans tk) λj hj=>(cf (C1.length+j) (by omega) (by omega)).trans (ak j hj);have ra:=KS (VV (P:=P2) (cs:=cs2)) λj hj=>aA hj;have s1:wQ 1 (hP [true] (zh yB (ze (zd 0) (ze (mC (.i 24)) zC)))) [some (.v (.sc ns)),none,none,none,none,none,none,none,none,none,none] [.y true]=.nx [some (.v (.sc ns)),some (.v (rwP R)),none,none,none,none,none,none,none,none,none] [.y true]:=Z0 (Bx rfl (vi rfl eo));have s2:wQ 2 (hW [false,true] (zh y6 (ze (zd 1) zC))) [some (.v (.sc ns)),some (.v (rwP R)),none,none,none,none,none,none,none,none,none] [.y true]=.nx (l11 ns R none none none none none none none none) [.y true]:=Z0 (by
  unfold hW;show(match zh y6 (ze (zd 1) zC) [none,some (rwP R),none,none,none,none,none,none,none,none,none]with | .ok x=>HX.ok (HV.v x) _ | .exc c fs=>.exc c fs _ | .wall=>.wall)=_;rw[vi (xs:=[rwP R]) rfl (pq o.ok.nd (by omega))])
 have s3:wQ 3 (vA yq (ya (yj 2) Kl)) (l11 ns R none none none none none none none none) [.y true]=.nx (l11 ns R (some (.g (P.length+cs.length))) none none none none none none none) (.y true::Gx):=Z0 (by
  show yq [.v (rwP R)] [.y true]=_;exact e3)
 have r0:=KS t0 a0;have s4:hIf (hPT [false,true,true,true] (mOr (yP (mOp (V3 true) (zd 2) (zd 1))) (XH (yP (zh zB (ze (zd 3) (ze (zd 1) zC))))))) (Km (hP [] (mC (.b false)))) JM (l11 ns R (some (.g (P.length+cs.length))) none none none none none none none) (.y true::Gx)=.nx (l11 ns R (some (.g (P.length+cs.length))) none none none none none none none) (.y true::Gx):=
  (bu (J7 rfl (YI (QC rfl (QC rfl (QC r0 pM)))) (bC (x:=false) (y:=false) (kG (qK rfl rfl (AN o.ok.nd))) (fD (x:=true) (kG (vi (xs:=[csP cs,rwP R]) rfl (Qp o C))))))).trans rfl
 have s5:wQ 4 (hP [false,true] (zh yg (ze (zd 1) zC))) (l11 ns R (some (.g (P.length+cs.length))) none none none none none none none) (.y true::Gx)=.nx (l11 ns R (some (.g (P.length+cs.length))) (some (.v (.d (htP R h)))) none none none none none none) (.y true::Gx):=Z0 (Bx rfl (vi (xs:=[rwP R]) rfl e5));have s6:hIf (hOr (fZ (hOp pGt (hP [false,false,false,true] (zh vy (ze (zd 3) zC))) (vA yW (ya (yj 1) (ya (yj 4) Kl))))) (hPT [false,false,false,true,true] (yP (mOp pLt (zh vy (ze (zd 3) zC)) (zh yc (ze (zd 4) zC)))))) (Km (hP [] (mC (.b false)))) JM (l11 ns R (some (.g (P.length+cs.length))) (some (.v (.d (htP R h)))) none none none none none none) (.y true::Gx)=.nx (l11 ns R (some (.g (P.length+cs.length))) (some (.v (.d (htP R h)))) none none none none none none) C1:=by
  refine(bu (AX (pN (c:=false) (xb (x:=.v (.i (cs.length:Int))) (y:=.v (.i (m:Int))) (ay rfl (YI (YI (YI (QC r0 pM)))) (vi (xs:=[csP cs]) rfl KU) rfl) e6 rfl rfl ?_ rfl)) (J7 rfl (YI (YI (YI (QC r1 (QC rfl pM))))) (kG (b:=false) (qK (x:=.i (cs.length:Int)) (y:=.i (B.length:Int)) (vi (xs:=[csP cs]) rfl KU) (vi (xs:=[.d (htP R h)]) rfl ew) ?_))))).trans rfl
  .show Out.ok (PV.b (decide ((cs.length:Int)>(m:Int))))=_;rw[G5 (by omega)]
  .show Out.ok (PV.b (decide ((cs.length:Int)<(B.length:Int))))=_;rw[G5 (by omega)]
 have s7:wQ 5 (p9 [false,false,false,true] (mLC (yy (zd 3)) [none] wX wY (mLI wZ))) (l11 ns R (some (.g (P.length+cs.length))) (some (.v (.d (htP R h)))) none none none none none none) C1=.nx (l11 ns R (some (.g (P.length+cs.length))) (some (.v (.d (htP R h)))) (some (.g (C1.length+cs.length))) none none none none none) C2:=by rw[hC2];exact Z0 (pQ (by omega) r1)
 have s8:wQ 6 (hF [] QV) (l11 ns R (some (.g (P.length+cs.length))) (some (.v (.d (htP R h)))) (some (.g (C1.length+cs.length))) none none none none none) C2=.nx (l11 ns R (some (.g (P.length+cs.length))) (some (.v (.d (htP R h)))) (some (.g (C1.length+cs.length))) (some (.g C2.length)) none none none none) (C2++[.d []]):=rfl;have s9:WH 1 w4 j4 (l11 ns R (some (.g (P.length+cs.length))) (some (.v (.d (htP R h)))) (some (.g (C1.length+cs.length))) (some (.g C2.length)) none none none none) (C2++[.d []])=.nx (l11 ns R (some (.g (P.length+cs.length))) (some (.v (.d (htP R h)))) (some (.g (C1.length+cs.length))) (some (.g C2.length)) z' none none none) C3:=by show Zh w4 j4 (((R.map λp=>(p.1,PV.l (p.2.map kP))).map λkx=>kP kx.1).map .v) _ _=_;rw[show((R.map λp=>(p.1,PV.l (p.2.map kP))).map λkx=>kP kx.1)=(R.map (·.1)).map kP by rw[D3,D3];rfl];exact eT
 have s10:wQ 8 (WJ yq (ya (yj 6) Kl)) (l11 ns R (some (.g (P.length+cs.length))) (some (.v (.d (htP R h)))) (some (.g (C1.length+cs.length))) (some (.g C2.length)) z' none none none) C3=.nx (l11 ns R (some (.g (P.length+cs.length))) (some (.v (.d (htP R h)))) (some (.g (C1.length+cs.length))) (some (.g C2.length)) z' (some (.v (csP cs'))) none none) C3:=Z0 (by
  unfold WJ;show(match((qV C3 8 (.g C2.length)).bind λy=>(some ([]:List PV)).map (y::·))with
   |some ys=>match yq (ys.map .v) []with
    |.ok y X=>match Kn X 8 y with
     |some z=>HX.ok (HV.v z) C3
     |none=>.wall
    |.exc c fs _=>if dH fs=true then .exc c fs C3 else .wall
    |.wall=>.wall
   |none=>.wall)=_
  rw[rt];show(match yq [.v (rwP (trn R))] []with
    |.ok y X=>match Kn X 8 y with
     |some z=>HX.ok (HV.v z) C3
     |none=>.wall
    |.exc c fs _=>if dH fs=true then .exc c fs C3 else .wall
    |.wall=>.wall)=_
  rw[e8];dsimp only;rw[pO])
 have s11:hIf (hPT [false,false,false,true,false,true,true,false,true] (mOr (XH (yP (zh zB (ze (zd 8) (ze (zd 6) zC))))) (mOr (yP (mOp (V3 true) (zh vy (ze (zd 8) zC)) (zh vy (ze (zd 5) zC)))) (yP (mOp (V3 true) (zd 3) (zd 5)))))) (Km (hP [] (mC (.b false)))) JM (l11 ns R (some (.g (P.length+cs.length))) (some (.v (.d (htP R h)))) (some (.g (C1.length+cs.length))) (some (.g C2.length)) z' (some (.v (csP cs'))) none none) C3=.nx (l11 ns R (some (.g (P.length+cs.length))) (some (.v (.d (htP R h)))) (some (.g (C1.length+cs.length))) (some (.g C2.length)) z' (some (.v (csP cs'))) none none) C3:=
  (bu (J7 rfl (YI (YI (YI (QC r3 (YI (QC rk (QC rt (YI (QC rfl pM))))))))) (bC (x:=false) (y:=false) (fD (x:=true) (kG (vi (xs:=[csP cs',rwP (trn R)]) rfl (Qp (VU o) C')))) (bC (x:=false) (y:=false) (kG (qK (x:=.i (cs'.length:Int)) (y:=.i (cs.length:Int)) (vi (xs:=[csP cs']) rfl KU) (vi (xs:=[csP cs]) rfl KU) (mF.trans (by rw[L5 (by omega)];rfl)))) (kG (qK rfl rfl AW)))))).trans rfl
 have s12:wQ 10 (vA yq (ya (yj 2) Kl)) (l11 ns R (some (.g (P.length+cs.length))) (some (.v (.d (htP R h)))) (some (.g (C1.length+cs.length))) (some (.g C2.length)) z' (some (.v (csP cs'))) ch' none) G4=.nx (l11 ns R (some (.g (P.length+cs.length))) (some (.v (.d (htP R h)))) (some (.g (C1.length+cs.length))) (some (.g C2.length)) z' (some (.v (csP cs'))) ch' (some (.g (P2.length+cs2.length)))) (chG P2 cs2):=Z0 (by
  show yq [.v (rwP R)] G4=_;exact e10)
 have s13:Km (hP [false,true,false,false,false,true,false,false,false,false,true] (Y0 (zh zB (ze (zd 10) (ze (zd 1) zC))) (mOp (V3 false) (zh vy (ze (zd 10) zC)) (zh vy (ze (zd 5) zC))))) (l11 ns R (some (.g (P.length+cs.length))) (some (.v (.d (htP R h)))) (some (.g (C1.length+cs.length))) (some (.g C2.length)) z' (some (.v (csP cs'))) ch' (some (.g (P2.length+cs2.length)))) (chG P2 cs2)=.rt (.v (.b true)) (chG P2 cs2):=
  fF (ay rfl (YI (QC rfl (YI (YI (YI (QC rf (YI (YI (YI (YI (QC ra pM))))))))))) (pH (x:=true) (y:=true) (vi (xs:=[csP cs2,rwP R]) rfl (Qp o D)) (qK (x:=.i (cs2.length:Int)) (y:=.i (cs.length:Int)) (vi (xs:=[csP cs2]) rfl KU) (vi (xs:=[csP cs]) rfl KU) (mF.trans (by rw[L5 (by omega)];rfl)))) rfl)
 refine⟨chG P2 cs2,?_⟩;show(match ah [some (.v (.sc ns)),none,none,none,none,none,none,none,none,none,none] [.y true]with | .nx _ G'=>HX.ok (HV.v PV.n) G' | .rt x G'=>.ok x G' | .exc c fs G'=>.exc c fs G'|_=>.wall)=_;rw[show ah [some (.v (.sc ns)),none,none,none,none,none,none,none,none,none,none] [.y true]=_ from zS s1 (zS s2 (zS s3 (zS s4 (zS s5 (zS s6 (zS s7 (zS s8 (zS s9 (zS s10 (zS s11 (zS e9 (zS s12 s13))))))))))))]
def iW(ns:CC)(_:ns.length<=k):∃G,eC [.v (.sc ns)] [.y true]=.ok (.v (.b true)) G:=by obtain⟨R,e,o⟩:=iM (ns:=ns);exact pR o e
end NCS
structure IsE{α:Type}(a b:α):Prop where
 e:a=b
def fK(K:CZ)(Pt:Addr):Sp:=λvs H Q _=>∃(a:Addr)(ns:CC),vs=[.ref a]/\H Pt=some (.tbl #[])/\SqL K H a (ns.map V.int)/\ns.length<=63/\∀H',Q (.bl true) H'
def all_mk{l:W.OpenLaw}{w:Cv}{K:CZ}{h:Heap}{mg:Cc}{fa jI kM YS z8 Kc Zv QM QS Zt YQ QL qP ZD ZF jL wI vn wA yZ j7 wJ ZE jJ QR Zq K3 wy wz kK Zs Ut VX Uu:Addr}{iY:CB}{aL:CG}{Kg Zu QN QO ZC YO QP vt ZA Zz wH wC YR wB jK j8 wD Zy jM QQ Zw K2 wx wG qv Zr Us:CA}{i0:CH}{Zp:Tok}{i4:Value}(X:K.In h)(G:h.Ns mainGlobals mg)(hfa:mg "law"=some (.ref fa))
  (jQ:W.nsIn K mainGlobals "MOST_LEFTS"=some (some (.int 40 Zp)))
  (JV:NsR K "TooMany" jI)
  (VE:NsR K "NoTrip" kM)
  (et:NsR K "Ring" YS)
  (vX:NsR K "NotOrdered" z8)
  (WV:NsN K "dict")
  (qF:NsN K "isinstance")
  (vB:NsN K "len")
  (JW:NsN K "list")
  (pb:NsN K "max")
  (vc:NsN K "range")
  (Qe:NsN K "reversed")
  (VF:NsN K "sorted")
  (pd:NsN K "str")
  (yp:DfN K "_law_mix" JR Kc Kg)
  (y0:DfN K "_law_points" vP Zv Zu)
  (jf:DfN K "_law_cell" Y_ QM QN)
  (wU:DfN K "_law_word" Qa QS QO)
  (jR:DfN K "_law_beyond" vQ Zt ZC)
  (qr:DfN K "_law_order" ZQ YQ YO)
  (jg:DfN K "_law_copy" Qb QL QP)
  (bF:XMk K jI qP)
  (Zx:Fun K "__init__" "TooMany.__init__" ke qP vt)
  (qG:DfN K "check_most" vR ZD ZA)
  (qH:DfN K "check_rows" vS ZF Zz)
  (fO:XMk K kM jL)
  (YT:Fun K "__init__" "NoTrip.__init__" kX jL wH)
  (qY:DfN K "check_known" kY wI wC)
  (pV:XMk K YS vn)
  (Ke:Fun K "__init__" "Ring.__init__" ZR vn YR)
  (qZ:DfN K "check_rings" kZ wA wB)
  (VY:XMk K z8 yZ)
  (kL:Fun K "__init__" "NotOrdered.__init__" qo yZ jK)
  (yS:DfN K "check_going_on" qO j7 j8)
  (q0:DfN K "check_order" k7 wJ wD)
  (zZ:DfN K "find_right" vT ZE Zy)
  (zN:DfN K "greatest_owners" qp jJ jM)
  (jh:DfN K "matching" Qc QR QQ)
  (y3:DfN K "chain_from" vU Zq Zw)
  (yT:DfN K "chains" VB K3 K2)
  (yG:DfN K "_law_heights" k8 wy wx)
  (yH:DfN K "_law_chained" k9 wz wG)
  (zG:DfN K "_law_first_fit" jq kK qv)
  (jS:DfN K "_law_widest" vV Zs Zr)
  (eA:DfN K "law" o_ Ut Us)
  (Uv:Ki K jI)
  (QZ:W.takerIn K jI "most"=some none)
  (bG:Ki K kM)
  (Kf:W.takerIn K kM "name"=some none)
  (iZ:Ki K YS)
  (VZ:W.takerIn K YS "name"=some none)
  (Kw:Ki K z8)
  (Zc:W.takerIn K z8 "first"=some none)
  (wF:W.takerIn K z8 "second"=some none)
  (Zb:W.takerIn K z8 "third"=some none)
  (jU:W.kitOne K (.type "list") (.type "list")=some true)
  (Qh:W.kitOne K (.type "str") (.type "str")=some true)
  (Qi:W.kitOne K (.type "int") (.type "str")=some false)
  (af:IsE qv.code (.ref VX))
  (lk_tab:IsE (K.lookup VX) (some ⟨i4,i0,.fields aL,iY⟩))
  (ix_tab:IsE (aL[11]?) (some (.ref Uu)))
  (nt_tab:W.noTabs K=true)
  : ∃(fd:CA)(c Pt:Addr),W.tabIn K "_law_first_fit"=some (c,Pt)/\W.noTabs K=true/\(∀(s:Ce)(v:Value),BindsTo s fd ⟨[v],[]⟩ [("_law_script",v)])/\∀base:Heap,K.In base->base.Ns mainGlobals mg->mq base mg c Pt->qQ l.prog w K mg base (CXe l.prog w) 50 fa fd ["_law_script"] (fK K Pt):=by
 have e:Ut=fa:=by have e:=hfa.symm.trans (a1i X G eA.1);injection e with e;injection e with e;exact e.symm
 subst e;have T:Txt K mg ⟨jI,kM,YS,z8,Kc,Zv,QM,QS,Zt,YQ,QL,qP,ZD,ZF,jL,wI,vn,wA,yZ,j7,wJ,ZE,jJ,QR,Zq,K3,wy,wz,kK,Zs,Ut,VX,Uu,Kg,Zu,QN,QO,ZC,YO,QP,vt,ZA,Zz,wH,wC,YR,wB,jK,j8,wD,Zy,jM,QQ,Zw,K2,wx,wG,qv,Zr,Us,Zp⟩:=⟨⟨a1i X G jQ,a1i X G JV,a1i X G VE,a1i X G et,a1i X G vX,R4 X G WV,R4 X G qF,R4 X G vB⟩,⟨R4 X G JW,R4 X G pb,R4 X G vc,R4 X G Qe,R4 X G VF,R4 X G pd,yz X G yp bn2,yz X G y0 bn3⟩,⟨yz X G jf bn2,yz X G wU bn2,yz X G jR bn2,yz X G qr bn2,yz X G jg bn1,Zx,Zx.binds bn2,yz X G qG bn2⟩,⟨yz X G qH bn1,YT,YT.binds bn2,yz X G qY bn1,Ke,Ke.binds bn2,yz X G qZ bn1,kL⟩,⟨kL.binds bn4,yz X G yS bn2,yz X G q0 bn1,yz X G zZ bn4,yz X G zN bn1,yz X G jh bn1,yz X G y3 bn2,yz X G yT bn1⟩,⟨yz X G yG bn1,yz X G yH bn2,yz X G zG bn2,yz X G jS bn1,yz X G eA bn1,Uv,bF,QZ⟩,⟨bG,fO,Kf,iZ,pV,VZ,Kw,VY⟩,⟨Zc,wF,Zb,jU,Qh,Qi,af.e⟩⟩;have eb:∀(s:Ce)(v:Value),BindsTo s Us ⟨[v],[]⟩ [("_law_script",v)]:=by obtain⟨_,_,_,_,_,_,_,_,_,rfl,_,_⟩:=eA.2.ex;exact λs v=>.of_eq rfl
 have tb:W.tabIn K "_law_first_fit"=some (VX,Uu):=by obtain⟨_,_,_,_,_,_,_,_,_,rfl,lk,_⟩:=zG.2.ex;exact uG zG.1 lk af.e lk_tab.e ix_tab.e
 refine⟨_,_,_,tb,nt_tab,eb,λbase _ _ TB=>(uN T TB).imp λvs H Q E ⟨p,ns,e,hT,hS,hl,k⟩=>?_⟩;subst e;exact ip (W:=WW K _) hT hS (iW ns hl) k
def walk{l:W.OpenLaw}{q:Cq}{loose:Cn}{XP:(Str->Option Value)->Heap->Prop}{YP:World->Heap->Prop}{d d':DefRec}{K:Params->W.Frag}(hn:l.most=some 63)(hdf:d.params.defaults=[])
  (hY:∀(w:Cv)(h:Heap),YP w h->(K w.params).In h) (hy:(PyProof.Rows.recsOf q).find? (λe=>e.name==("_law_first_fit":Str))=some d')
  (F:∀(w:Cv)(mg:Cc)(fa:Addr)(h:Heap),(K w.params).In h->h.Ns mainGlobals mg->mg d.name=some (.ref fa)->
   ∃(fd:CA)(c Pt:Addr),W.tabIn (K w.params) "_law_first_fit"=some (c,Pt)/\W.noTabs (K w.params)=true/\(∀(s:Ce)(u:Value),BindsTo s fd ⟨[u],[]⟩ [("_law_script",u)])/\∀base:Heap,(K w.params).In base->base.Ns mainGlobals mg->mq base mg c Pt->qQ l.prog w (K w.params) mg base (CXe l.prog w) 50 fa fd ["_law_script"] (fK (K w.params) Pt)):
  W.WalkO q loose XP YP l.row.toRowW d [] (λf vs=>PySem.call f vs):=
 L2.ik (n:=63) (k:=50) (x:="_law_script") (CX:=λw=>CXe l.prog w) (sp:=λw=>fK (K w.params)) hn (by decide) hdf ⟨rfl,by decide,by decide⟩ hY hy F (λ_ _ H a ns hl hO hS=>⟨a,ns,rfl,hO.1,hS,hl,λ_=>rfl⟩) λ_ _ _ _ _ z=>WB z
end K35
open PySem PySem.W PyProof.Rows
namespace PySem.W.Fast
def tw18354770056137007282:=()
def tw13225019115511004390:=()
def tw1325686363462273525:=()
def tw5697912759583041387:=()
def tw2438964012942787980:=()
def tw8677410061285569745:=()
def tw10525890282851272129:=()
def tw10061424611667368103:=()
def tw16191106481207591599:=()
def tw713454690224043856:=()
def tw11753094221604314374:=()
def tw8569745916704202362:=()
def tw12741373897853650017:=()
def tw11601669377149270907:=()
def tw9595258463605834988:=()
def tw12490229858504300124:=()
def tw9664249250844379563:=()
def tw822891837592622530:=()
end PySem.W.Fast
set_option maxRecDepth 100000 in
set_option maxHeartbeats 0 in
theorem PySem.Challenge.cw_fleetpath_k35_chains_holds : PySem.Challenge.rw_fleetpath_k35_chains.Holds := by
 w_on;o_law;k_head;(case hw=>w_witness2)
 k_fill
 refine K35.walk (l:=PySem.Challenge.rw_fleetpath_k35_chains) rfl rfl (λw h Y=>PySem.W.km_in_of Y) rfl ?F
 case F=>
  intro w mg fa h KX G hmg;refine' K35.all_mk KX G hmg ?_ ?_ ?_ ?_ ?_ ?_ ?_ ?_ ?_ ?_ ?_ ?_ ?_ ?_ ?_ ?_ ?_ ?_ ?_ ?_ ?_ ?_ ?_ ?_ ?_ ?_ ?_ ?_ ?_ ?_ ?_ ?_ ?_ ?_ ?_ ?_ ?_ ?_ ?_ ?_ ?_ ?_ ?_ ?_ ?_ ?_ ?_ ?_ ?_ ?_ ?_ ?_ ?_ ?_ ?_ ?_ ?_ ?_ ?_ ?_ ?_ ?_
  all_goals try(first|((first|refine'⟨?_,L2.lA ?_ ?_ ?_⟩|refine' L2.lA ?_ ?_ ?_|refine' K35.uL ?_ ?_ ?_ ?_ ?_)<;>try first|k_is|kernel_rfl)|(show _=_;first|k_is|kernel_rfl)|(first|refine⟨?_,?_,?_,?_,?_⟩|refine⟨?_,?_,?_,?_⟩|refine⟨?_,?_,?_⟩)<;>first|k_is|kernel_rfl)
  all_goals try(refine K35.IsE.mk ?_;first|k_is|rfl)
#print axioms PySem.Challenge.cw_fleetpath_k35_chains_holds

